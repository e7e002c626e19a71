/-
  What is proved here: tandemref06's text of lists with a Rest, and of conditions; of any datum.
-/
import Derived.Test.YtedhknfgliepeaaDoorSRefE
namespace Go.Proofs.YtedhknfgliepeaaDoor
open Go Go.RowKit

theorem its_snocB {α : Type} (f : α → List UInt8) (d : α) (l : List α) : its f [32] (l ++ [d]) = its f [32] l ++ [32] ++ f d := by
  rw [its_snoc]
  split <;> rfl

set_option maxHeartbeats 8000000 in
set_option maxRecDepth 100000 in
theorem rt_listR {h : Nat} (hT : RTextOK h) (hMany : RManyOK h) (sh : Bool) (n : Int) (b : Bool) (L : List Nat) (t : ByteArray) (I R : List (Tr h)) (um ui ur : Value) (w : World) (hb : bk (h + 1) (6, n, b, L, t, I, R) ≤ 10000000)
    (hM : Sl .u32 w um L.length (fun i => L.getD i 0)) (hI : RowD w (DatC w h) ui I) (hR : RowD w (DatC w h) ur R) (hI0 : I = []) (hR0 : ∃ r R', R = r :: R') :
    Calls Tryd.prog 15 #[.agg #[.int .i64 6, .int .i64 n, .bool b, um, .string t, ui, ur], .bool sh] w fun e w' => e = .returned (.string ⟨(wr (h + 1) sh (6, n, b, L, t, I, R)).toArray⟩) ∧ Up w w' := by
  obtain ⟨aom, capm, rfl, -⟩ := id hM
  obtain ⟨aoi, capi, rfl⟩ := hI.shape
  obtain ⟨aor, capr, rfl⟩ := hR.shape
  have hbk : L.length ≤ 10000000 ∧ t.size ≤ 10000000 ∧ (I.map (bk h)).sum ≤ 10000000 ∧ (R.map (bk h)).sum ≤ 10000000 := by simp only [bk] at hb; omega
  have htl := bytes_len t
  obtain ⟨W, hW⟩ : ∃ W, W = w.alloc (.cells #[.int .i64 6, .int .i64 n, .bool b, .slice aom L.length capm, .string t, .slice aoi I.length capi, .slice aor R.length capr] 27) := ⟨_, rfl⟩
  have uW : Up w W := by rw [hW]; exact up_alloc w _
  have bW : W.heap[w.heap.size]? = some (.cells #[.int .i64 6, .int .i64 n, .bool b, .slice aom L.length capm, .string t, .slice aoi I.length capi, .slice aor R.length capr] 27 (0, 0)) := by rw [hW]; exact heap_alloc_new w _
  have HUse := hide (And.intro hT (And.intro hMany (And.intro hM (And.intro hbk (And.intro htl (And.intro bW uW))))))
  clear HUse
  obtain rfl : I = [] := hI0
  obtain ⟨r, R', rfl⟩ := hR0
  obtain ⟨rb, ro, capr', er, -, hc2, ⟨cs, k1, k2, k3⟩, -⟩ := hR.head
  cases er
  obtain ⟨kk, kn, kb, vum, kt, vui, vur, rfl, ⟨x1, x2, x3, rfl⟩, ⟨y1, y2, y3, rfl⟩, ⟨z1, z2, z3, rfl⟩, e0, e1, e2, e3, e4, e5, e6⟩ := dat_cells k1 k2 k3 uW
  have hbr : bk h r ≤ 10000000 := by simp at hbk; omega
  simp only [List.length_cons, List.length_nil] at hW bW
  have e : wr (h + 1) sh (6, n, b, L, t, [], r :: R') = wr h sh r := by simp [wr]
  rw [e]
  clear e
  have KT := hT sh r _ _ _ _ _ _ _ W (k3.up uW) hbr
  generalize wr h sh r = T at *
  rw [hW] at KT e0 e1 e2 e3 e4 e5 e6
  have HT := hide KT
  have hlI : ¬ ((R'.length : Int) + 1 = 0) := by omega
  have hlp : (0 : Int) < (R'.length : Int) + 1 := by omega
  clear KT k1 k2 k3 hbr hc2
  have HUW := hide uW
  have HBW := hide bW
  have HW := hide hW
  clear hT hMany uW bW hW hI hR hM hbk htl hb
  go_enter Tryd.func15, Tryd.ntmps15
  go_wp2_with (go_at_call 15; refine HT.out.mono ?_; rintro e w2 ⟨rfl, u2⟩)
  go_ret
  exact ⟨rfl, (up_alloc w _).tr u2⟩

set_option maxHeartbeats 8000000 in
set_option maxRecDepth 100000 in
theorem rt_listD {h : Nat} (hT : RTextOK h) (hMany : RManyOK h) (sh : Bool) (n : Int) (b : Bool) (L : List Nat) (t : ByteArray) (I R : List (Tr h)) (um ui ur : Value) (w : World) (hb : bk (h + 1) (6, n, b, L, t, I, R) ≤ 10000000)
    (hM : Sl .u32 w um L.length (fun i => L.getD i 0)) (hI : RowD w (DatC w h) ui I) (hR : RowD w (DatC w h) ur R) (hI0 : I ≠ []) (hR0 : ∃ r R', R = r :: R') :
    Calls Tryd.prog 15 #[.agg #[.int .i64 6, .int .i64 n, .bool b, um, .string t, ui, ur], .bool sh] w fun e w' => e = .returned (.string ⟨(wr (h + 1) sh (6, n, b, L, t, I, R)).toArray⟩) ∧ Up w w' := by
  obtain ⟨aom, capm, rfl, -⟩ := id hM
  obtain ⟨aoi, capi, rfl⟩ := hI.shape
  obtain ⟨aor, capr, rfl⟩ := hR.shape
  have hbk : L.length ≤ 10000000 ∧ t.size ≤ 10000000 ∧ (I.map (bk h)).sum ≤ 10000000 ∧ (R.map (bk h)).sum ≤ 10000000 := by simp only [bk] at hb; omega
  have htl := bytes_len t
  obtain ⟨W, hW⟩ : ∃ W, W = w.alloc (.cells #[.int .i64 6, .int .i64 n, .bool b, .slice aom L.length capm, .string t, .slice aoi I.length capi, .slice aor R.length capr] 27) := ⟨_, rfl⟩
  have uW : Up w W := by rw [hW]; exact up_alloc w _
  have bW : W.heap[w.heap.size]? = some (.cells #[.int .i64 6, .int .i64 n, .bool b, .slice aom L.length capm, .string t, .slice aoi I.length capi, .slice aor R.length capr] 27 (0, 0)) := by rw [hW]; exact heap_alloc_new w _
  have HUse := hide (And.intro hT (And.intro hMany (And.intro hM (And.intro hbk (And.intro htl (And.intro bW uW))))))
  clear HUse
  obtain ⟨r, R', rfl⟩ := hR0
  obtain ⟨rb, ro, capr', er, -, hc2, ⟨cs, k1, k2, k3⟩, -⟩ := hR.head
  cases er
  obtain ⟨kk, kn, kb, vum, kt, vui, vur, rfl, ⟨x1, x2, x3, rfl⟩, ⟨y1, y2, y3, rfl⟩, ⟨z1, z2, z3, rfl⟩, e0, e1, e2, e3, e4, e5, e6⟩ := dat_cells k1 k2 k3 uW
  have hbr : bk h r ≤ 10000000 := by simp at hbk; omega
  simp only [List.length_cons] at hW bW
  have hrbw : rb < W.heap.size := World.block_lt_of_cell? W _ e0
  have hcu : ∀ V, Up W V → V.cell? ⟨rb, ro, none⟩ = some (.int .i64 kk) ∧ V.cell? ⟨rb, ro + 1, none⟩ = some (.int .i64 kn) ∧ V.cell? ⟨rb, ro + 2, none⟩ = some (.bool kb) ∧ V.cell? ⟨rb, ro + 3, none⟩ = some (.slice x1 x2 x3) ∧ V.cell? ⟨rb, ro + 4, none⟩ = some (.string kt) ∧ V.cell? ⟨rb, ro + 5, none⟩ = some (.slice y1 y2 y3) ∧ V.cell? ⟨rb, ro + 6, none⟩ = some (.slice z1 z2 z3) := fun V u => ⟨(u.cell (p := ⟨rb, ro, none⟩) hrbw).trans e0, (u.cell (p := ⟨rb, ro + 1, none⟩) hrbw).trans e1, (u.cell (p := ⟨rb, ro + 2, none⟩) hrbw).trans e2, (u.cell (p := ⟨rb, ro + 3, none⟩) hrbw).trans e3, (u.cell (p := ⟨rb, ro + 4, none⟩) hrbw).trans e4, (u.cell (p := ⟨rb, ro + 5, none⟩) hrbw).trans e5, (u.cell (p := ⟨rb, ro + 6, none⟩) hrbw).trans e6⟩
  have hrl := wr_le h sh r w _ k3
  have hln := its_len hI sh I.length
  rw [List.take_length] at hln
  have e : wr (h + 1) sh (6, n, b, L, t, I, r :: R') = [40] ++ its (wr h sh) [] I ++ ([32, 46, 32] ++ wr h sh r) ++ [41] := by
    cases I with
    | nil => exact absurd rfl hI0
    | cons i I' => simp [wr, dotW]
  rw [e]
  clear e
  have KT := fun (V : World) (u : Up W V) => hT sh r _ _ _ _ _ _ _ V ((k3.up uW).up u) hbr
  have KM := fun (V : World) (u : Up W V) => hMany sh I (.slice aoi I.length capi) V ((hI.upD uW).upD u) hbk.2.2.1
  generalize wr h sh r = T at *
  generalize its (wr h sh) [] I = M at *
  have hEq := dot_bytes M T
  have HEq := hide hEq
  have zM := size_arr M
  have zT := size_arr T
  have lM : M.length ≤ 1000000000 := by omega
  have lT : T.length ≤ 1000000000 := by omega
  have sz2 : ((⟨#[40]⟩ : ByteArray) ++ ⟨M.toArray⟩).size = 1 + M.length := by rw [ByteArray.size_append, zM]; rfl
  have sz3 : (((⟨#[40]⟩ : ByteArray) ++ ⟨M.toArray⟩) ++ ⟨#[32, 46, 32]⟩).size = 1 + M.length + 3 := by rw [ByteArray.size_append, sz2]; rfl
  have sz4 : ((((⟨#[40]⟩ : ByteArray) ++ ⟨M.toArray⟩) ++ ⟨#[32, 46, 32]⟩) ++ ⟨T.toArray⟩).size = 1 + M.length + 3 + T.length := by rw [ByteArray.size_append, sz3, zT]
  have a1 : ¬ 9223372036854775807 < 1 + M.length := by omega
  have a2 : ¬ 9223372036854775807 < 1 + M.length + 3 := by omega
  have a3 : ¬ 9223372036854775807 < 1 + M.length + 3 + T.length := by omega
  have a4 : ¬ 9223372036854775807 < 1 + M.length + 3 + T.length + 1 := by omega
  have HT := hide KT
  have HM := hide KM
  have HCU := hide hcu
  have hli0 : I.length ≠ 0 := by simpa using hI0
  have hlI : ¬ ((R'.length : Int) + 1 = 0) := by omega
  have hlp : (0 : Int) < (R'.length : Int) + 1 := by omega
  have hliI : ¬ ((I.length : Int) = 0) := by omega
  have c5 := (cells7 bW).2.2.2.2.2.1
  have c6 := (cells7 bW).2.2.2.2.2.2
  have HUD : Hid (Up W W.drew) := hide (up_drew W)
  clear KT KM hcu hEq hln hrl k1 k2 k3 hbr hc2 hI0 hrbw
  have HUW := hide uW
  have HBW := hide bW
  have HW := hide hW
  clear hT hMany uW bW hW hI hR hM hbk htl hb
  go_enter Tryd.func15, Tryd.ntmps15
  go_wp2_with fail
  rw [← HW.out]
  go_region_held3 (fun w' => Hid (Up W w') ∧ w'.cell? ⟨w.heap.size, 5, none⟩ = some (.slice aoi I.length capi) ∧ w'.cell? ⟨w.heap.size, 6, none⟩ = some (.slice (some ⟨rb, ro, none⟩) (R'.length + 1) capr) ∧ w'.cell? ⟨rb, ro, none⟩ = some (.int .i64 kk) ∧ w'.cell? ⟨rb, ro + 1, none⟩ = some (.int .i64 kn) ∧ w'.cell? ⟨rb, ro + 2, none⟩ = some (.bool kb) ∧ w'.cell? ⟨rb, ro + 3, none⟩ = some (.slice x1 x2 x3) ∧ w'.cell? ⟨rb, ro + 4, none⟩ = some (.string kt) ∧ w'.cell? ⟨rb, ro + 5, none⟩ = some (.slice y1 y2 y3) ∧ w'.cell? ⟨rb, ro + 6, none⟩ = some (.slice z1 z2 z3)) (first | (refine ⟨?_, ?_, ?_, ?_, ?_, ?_, ?_, ?_, ?_, ?_⟩ <;> assumption) | go_keep)
    (first
      | (go_at_call 22; refine (HM.out _ ?hu).mono ?_; (case hu => exact Hid.out (by assumption)); rintro e wa ⟨rfl, ua⟩; have HUa : Hid (Up W wa) := hide (Up.tr (Hid.out (by assumption)) ua); have bxa := cells7 (Up.old HUa.out HBW.out); have n5 := bxa.2.2.2.2.2.1; have n6 := bxa.2.2.2.2.2.2; clear bxa; obtain ⟨e0, e1, e2, e3, e4, e5, e6⟩ := HCU.out _ HUa.out; clear ua)
      | (go_at_call 15; refine (HT.out _ ?hu).mono ?_; (case hu => exact Hid.out (by assumption)); rintro e wb ⟨rfl, ub⟩; have HUb : Hid (Up W wb) := hide (Up.tr (Hid.out (by assumption)) ub); have bxb := cells7 (Up.old HUb.out HBW.out); have n5 := bxb.2.2.2.2.2.1; have n6 := bxb.2.2.2.2.2.2; clear bxb; obtain ⟨e0, e1, e2, e3, e4, e5, e6⟩ := HCU.out _ HUb.out; clear ub))
  all_goals (go_wp2; go_ret; first | exact ⟨congrArg (fun x => Ending.returned (Value.string x)) HEq.out, HUW.out.tr HUa.out⟩ | exact ⟨congrArg (fun x => Ending.returned (Value.string x)) HEq.out, HUW.out.tr HUb.out⟩)

end Go.Proofs.YtedhknfgliepeaaDoor
