/-
  What is proved here: tandemref06's text: a datum as the document writes it, or shows it.
-/
import Derived.Test.YtedhknfgliepeaaDoorSRefD
namespace Go.Proofs.YtedhknfgliepeaaDoor
open Go Go.RowKit

theorem size_arr (M : List UInt8) : (⟨M.toArray⟩ : ByteArray).size = M.length := by simp [ByteArray.size]
theorem round_bytes (M : List UInt8) : ((⟨#[40]⟩ : ByteArray) ++ ⟨M.toArray⟩) ++ ⟨#[41]⟩ = ⟨([40] ++ M ++ [41]).toArray⟩ := by
  have a1 := cat_bytes [40] M
  have a2 := cat_bytes ([40] ++ M) [41]
  rw [show (⟨#[40]⟩ : ByteArray) = ⟨([40] : List UInt8).toArray⟩ from rfl, a1, show (⟨#[41]⟩ : ByteArray) = ⟨([41] : List UInt8).toArray⟩ from rfl, a2]
theorem vec_bytes (M : List UInt8) : ((⟨#[35, 40]⟩ : ByteArray) ++ ⟨M.toArray⟩) ++ ⟨#[41]⟩ = ⟨([35, 40] ++ M ++ [41]).toArray⟩ := by
  have a1 := cat_bytes [35, 40] M
  have a2 := cat_bytes ([35, 40] ++ M) [41]
  rw [show (⟨#[35, 40]⟩ : ByteArray) = ⟨([35, 40] : List UInt8).toArray⟩ from rfl, a1, show (⟨#[41]⟩ : ByteArray) = ⟨([41] : List UInt8).toArray⟩ from rfl, a2]
theorem dot_bytes (M T : List UInt8) : ((((⟨#[40]⟩ : ByteArray) ++ ⟨M.toArray⟩) ++ ⟨#[32, 46, 32]⟩) ++ ⟨T.toArray⟩) ++ ⟨#[41]⟩ = ⟨([40] ++ M ++ ([32, 46, 32] ++ T) ++ [41]).toArray⟩ := by
  have a1 := cat_bytes [40] M
  have a2 := cat_bytes ([40] ++ M) [32, 46, 32]
  have a3 := cat_bytes ([40] ++ M ++ [32, 46, 32]) T
  have a4 := cat_bytes ([40] ++ M ++ [32, 46, 32] ++ T) [41]
  rw [show (⟨#[40]⟩ : ByteArray) = ⟨([40] : List UInt8).toArray⟩ from rfl, a1, show (⟨#[32, 46, 32]⟩ : ByteArray) = ⟨([32, 46, 32] : List UInt8).toArray⟩ from rfl, a2, a3, show (⟨#[41]⟩ : ByteArray) = ⟨([41] : List UInt8).toArray⟩ from rfl, a4]
  simp
theorem arr_eq (t : ByteArray) : (⟨t.data.toList.toArray⟩ : ByteArray) = t := by
  apply ByteArray.ext
  simp

set_option maxHeartbeats 4000000 in
set_option maxRecDepth 100000 in
theorem rt_int {h : Nat} (hT : RTextOK h) (hMany : RManyOK h) (sh : Bool) (n : Int) (b : Bool) (L : List Nat) (t : ByteArray) (I R : List (Tr h)) (um ui ur : Value) (w : World) (hb : bk (h + 1) (1, n, b, L, t, I, R) ≤ 10000000)
    (hn : -9223372036854775808 ≤ n ∧ n ≤ 9223372036854775807) (hM : Sl .u32 w um L.length (fun i => L.getD i 0)) (hL : ∀ i, i < L.length → L.getD i 0 < 4294967296) (hI : RowD w (DatC w h) ui I) (hR : RowD w (DatC w h) ur R) :
    Calls Tryd.prog 15 #[.agg #[.int .i64 1, .int .i64 n, .bool b, um, .string t, ui, ur], .bool sh] w fun e w' => e = .returned (.string ⟨(wr (h + 1) sh (1, n, b, L, t, I, R)).toArray⟩) ∧ Up w w' := by
  obtain ⟨aom, capm, rfl, -⟩ := id hM
  obtain ⟨aoi, capi, rfl⟩ := hI.shape
  obtain ⟨aor, capr, rfl⟩ := hR.shape
  have hbk : L.length ≤ 10000000 ∧ t.size ≤ 10000000 ∧ (I.map (bk h)).sum ≤ 10000000 ∧ (R.map (bk h)).sum ≤ 10000000 := by simp only [bk] at hb; omega
  have htl := bytes_len t
  obtain ⟨W, hW⟩ : ∃ W, W = w.alloc (.cells #[.int .i64 1, .int .i64 n, .bool b, .slice aom L.length capm, .string t, .slice aoi I.length capi, .slice aor R.length capr] 27) := ⟨_, rfl⟩
  have uW : Up w W := by rw [hW]; exact up_alloc w _
  have bW : W.heap[w.heap.size]? = some (.cells #[.int .i64 1, .int .i64 n, .bool b, .slice aom L.length capm, .string t, .slice aoi I.length capi, .slice aor R.length capr] 27 (0, 0)) := by rw [hW]; exact heap_alloc_new w _
  have HUse := hide (And.intro hT (And.intro hMany (And.intro hn (And.intro hL (And.intro hM (And.intro hbk (And.intro htl (And.intro bW uW))))))))
  clear HUse
  have KN := r2text_rd (X := sgn b (num 4294967296 (fun i => L.getD i 0) L.length)) (M := 10000000) (w := W) (a := .agg #[.bool b, .slice aom L.length capm]) ⟨b, L.length, _, ⟨_, rfl, hM.up uW⟩, hL, hbk.1, rfl⟩ (by decide)
  have HE : ∀ s, SaysZ s (sgn b (num 4294967296 (fun i => L.getD i 0) L.length)) → (⟨(wr (h + 1) sh (1, n, b, L, t, I, R)).toArray⟩ : ByteArray) = s := fun s hs => by
    have e0 := ztx_eq hs
    simp only [wr, if_true]
    rw [e0, arr_eq]
  rw [hW] at KN
  have HN := hide KN
  have HQ := hide HE
  clear KN HE
  have HUW := hide uW
  have HBW := hide bW
  have HW := hide hW
  clear hT hMany uW bW hW hI hR hM hL hbk htl hb hn
  go_enter Tryd.func15, Tryd.ntmps15
  go_wp2_with (go_at_call 19; refine HN.out.mono ?_; rintro e w2 ⟨s, rfl, s2, u2⟩; have HS2 := hide s2; clear s2)
  go_ret
  exact ⟨by rw [HQ.out s HS2.out]; rfl, (up_alloc w _).tr u2⟩

set_option maxHeartbeats 4000000 in
set_option maxRecDepth 100000 in
theorem rt_bool1 {h : Nat} (hT : RTextOK h) (hMany : RManyOK h) (sh : Bool) (n : Int) (b : Bool) (L : List Nat) (t : ByteArray) (I R : List (Tr h)) (um ui ur : Value) (w : World) (hb : bk (h + 1) (2, n, b, L, t, I, R) ≤ 10000000)
    (hn : -9223372036854775808 ≤ n ∧ n ≤ 9223372036854775807) (hM : Sl .u32 w um L.length (fun i => L.getD i 0)) (hL : ∀ i, i < L.length → L.getD i 0 < 4294967296) (hI : RowD w (DatC w h) ui I) (hR : RowD w (DatC w h) ur R) (hn1 : n = 1) :
    Calls Tryd.prog 15 #[.agg #[.int .i64 2, .int .i64 n, .bool b, um, .string t, ui, ur], .bool sh] w fun e w' => e = .returned (.string ⟨(wr (h + 1) sh (2, n, b, L, t, I, R)).toArray⟩) ∧ Up w w' := by
  obtain ⟨aom, capm, rfl, -⟩ := id hM
  obtain ⟨aoi, capi, rfl⟩ := hI.shape
  obtain ⟨aor, capr, rfl⟩ := hR.shape
  have hbk : L.length ≤ 10000000 ∧ t.size ≤ 10000000 ∧ (I.map (bk h)).sum ≤ 10000000 ∧ (R.map (bk h)).sum ≤ 10000000 := by simp only [bk] at hb; omega
  have htl := bytes_len t
  obtain ⟨W, hW⟩ : ∃ W, W = w.alloc (.cells #[.int .i64 2, .int .i64 n, .bool b, .slice aom L.length capm, .string t, .slice aoi I.length capi, .slice aor R.length capr] 27) := ⟨_, rfl⟩
  have uW : Up w W := by rw [hW]; exact up_alloc w _
  have bW : W.heap[w.heap.size]? = some (.cells #[.int .i64 2, .int .i64 n, .bool b, .slice aom L.length capm, .string t, .slice aoi I.length capi, .slice aor R.length capr] 27 (0, 0)) := by rw [hW]; exact heap_alloc_new w _
  have HUse := hide (And.intro hT (And.intro hMany (And.intro hn (And.intro hL (And.intro hM (And.intro hbk (And.intro htl (And.intro bW uW))))))))
  clear HUse
  have e : wr (h + 1) sh (2, n, b, L, t, I, R) = [35, 116] := by simp [wr, hn1]
  rw [e]
  clear e
  subst hn1
  have HUW := hide uW
  have HBW := hide bW
  have HW := hide hW
  clear hT hMany uW bW hW hI hR hM hL hbk htl hb hn
  go_enter Tryd.func15, Tryd.ntmps15
  go_wp2
  go_ret
  exact ⟨rfl, up_alloc w _⟩

set_option maxHeartbeats 4000000 in
set_option maxRecDepth 100000 in
theorem rt_bool0 {h : Nat} (hT : RTextOK h) (hMany : RManyOK h) (sh : Bool) (n : Int) (b : Bool) (L : List Nat) (t : ByteArray) (I R : List (Tr h)) (um ui ur : Value) (w : World) (hb : bk (h + 1) (2, n, b, L, t, I, R) ≤ 10000000)
    (hn : -9223372036854775808 ≤ n ∧ n ≤ 9223372036854775807) (hM : Sl .u32 w um L.length (fun i => L.getD i 0)) (hL : ∀ i, i < L.length → L.getD i 0 < 4294967296) (hI : RowD w (DatC w h) ui I) (hR : RowD w (DatC w h) ur R) (hn1 : ¬ n = 1) :
    Calls Tryd.prog 15 #[.agg #[.int .i64 2, .int .i64 n, .bool b, um, .string t, ui, ur], .bool sh] w fun e w' => e = .returned (.string ⟨(wr (h + 1) sh (2, n, b, L, t, I, R)).toArray⟩) ∧ Up w w' := by
  obtain ⟨aom, capm, rfl, -⟩ := id hM
  obtain ⟨aoi, capi, rfl⟩ := hI.shape
  obtain ⟨aor, capr, rfl⟩ := hR.shape
  have hbk : L.length ≤ 10000000 ∧ t.size ≤ 10000000 ∧ (I.map (bk h)).sum ≤ 10000000 ∧ (R.map (bk h)).sum ≤ 10000000 := by simp only [bk] at hb; omega
  have htl := bytes_len t
  obtain ⟨W, hW⟩ : ∃ W, W = w.alloc (.cells #[.int .i64 2, .int .i64 n, .bool b, .slice aom L.length capm, .string t, .slice aoi I.length capi, .slice aor R.length capr] 27) := ⟨_, rfl⟩
  have uW : Up w W := by rw [hW]; exact up_alloc w _
  have bW : W.heap[w.heap.size]? = some (.cells #[.int .i64 2, .int .i64 n, .bool b, .slice aom L.length capm, .string t, .slice aoi I.length capi, .slice aor R.length capr] 27 (0, 0)) := by rw [hW]; exact heap_alloc_new w _
  have HUse := hide (And.intro hT (And.intro hMany (And.intro hn (And.intro hL (And.intro hM (And.intro hbk (And.intro htl (And.intro bW uW))))))))
  clear HUse
  have e : wr (h + 1) sh (2, n, b, L, t, I, R) = [35, 102] := by simp [wr, hn1]
  rw [e]
  clear e
  have HUW := hide uW
  have HBW := hide bW
  have HW := hide hW
  clear hT hMany uW bW hW hI hR hM hL hbk htl hb hn
  go_enter Tryd.func15, Tryd.ntmps15
  go_wp2
  go_ret
  exact ⟨rfl, up_alloc w _⟩

set_option maxHeartbeats 4000000 in
set_option maxRecDepth 100000 in
theorem rt_charS {h : Nat} (hT : RTextOK h) (hMany : RManyOK h) (n : Int) (b : Bool) (L : List Nat) (t : ByteArray) (I R : List (Tr h)) (um ui ur : Value) (w : World) (hb : bk (h + 1) (3, n, b, L, t, I, R) ≤ 10000000)
    (hn : -9223372036854775808 ≤ n ∧ n ≤ 9223372036854775807) (hM : Sl .u32 w um L.length (fun i => L.getD i 0)) (hL : ∀ i, i < L.length → L.getD i 0 < 4294967296) (hI : RowD w (DatC w h) ui I) (hR : RowD w (DatC w h) ur R) :
    Calls Tryd.prog 15 #[.agg #[.int .i64 3, .int .i64 n, .bool b, um, .string t, ui, ur], .bool true] w fun e w' => e = .returned (.string ⟨(wr (h + 1) true (3, n, b, L, t, I, R)).toArray⟩) ∧ Up w w' := by
  obtain ⟨aom, capm, rfl, -⟩ := id hM
  obtain ⟨aoi, capi, rfl⟩ := hI.shape
  obtain ⟨aor, capr, rfl⟩ := hR.shape
  have hbk : L.length ≤ 10000000 ∧ t.size ≤ 10000000 ∧ (I.map (bk h)).sum ≤ 10000000 ∧ (R.map (bk h)).sum ≤ 10000000 := by simp only [bk] at hb; omega
  have htl := bytes_len t
  obtain ⟨W, hW⟩ : ∃ W, W = w.alloc (.cells #[.int .i64 3, .int .i64 n, .bool b, .slice aom L.length capm, .string t, .slice aoi I.length capi, .slice aor R.length capr] 27) := ⟨_, rfl⟩
  have uW : Up w W := by rw [hW]; exact up_alloc w _
  have bW : W.heap[w.heap.size]? = some (.cells #[.int .i64 3, .int .i64 n, .bool b, .slice aom L.length capm, .string t, .slice aoi I.length capi, .slice aor R.length capr] 27 (0, 0)) := by rw [hW]; exact heap_alloc_new w _
  have HUse := hide (And.intro hT (And.intro hMany (And.intro hn (And.intro hL (And.intro hM (And.intro hbk (And.intro htl (And.intro bW uW))))))))
  clear HUse
  have e : wr (h + 1) true (3, n, b, L, t, I, R) = [(n % 256).toNat.toUInt8] := by simp [wr]
  rw [e]
  clear e
  have kc := conv_new W [(n % 256).toNat.toUInt8] 1
  have hu : (n % 256).toNat.toUInt8.toNat = (n % 256).toNat := by simp; omega
  have zW : W.heap.size = w.heap.size + 1 := by rw [hW, World.size_alloc]
  simp only [Lib.byteCells, List.map_cons, List.map_nil, List.length_cons, List.length_nil, Nat.zero_add] at kc
  rw [hu, show (((n % 256).toNat : Nat) : Int) = n % 256 by omega, zW, hW] at kc
  generalize (n % 256).toNat.toUInt8 = c at *
  clear hu zW
  have HUW := hide uW
  have HBW := hide bW
  have HW := hide hW
  clear hT hMany uW bW hW hI hR hM hL hbk htl hb hn
  go_enter Tryd.func15, Tryd.ntmps15
  go_wp2
  go_ret
  exact ⟨rfl, (up_alloc w _).tr (up_alloc _ _)⟩

set_option maxHeartbeats 4000000 in
set_option maxRecDepth 100000 in
theorem rt_charW {h : Nat} (hT : RTextOK h) (hMany : RManyOK h) (n : Int) (b : Bool) (L : List Nat) (t : ByteArray) (I R : List (Tr h)) (um ui ur : Value) (w : World) (hb : bk (h + 1) (3, n, b, L, t, I, R) ≤ 10000000)
    (hn : -9223372036854775808 ≤ n ∧ n ≤ 9223372036854775807) (hM : Sl .u32 w um L.length (fun i => L.getD i 0)) (hL : ∀ i, i < L.length → L.getD i 0 < 4294967296) (hI : RowD w (DatC w h) ui I) (hR : RowD w (DatC w h) ur R) :
    Calls Tryd.prog 15 #[.agg #[.int .i64 3, .int .i64 n, .bool b, um, .string t, ui, ur], .bool false] w fun e w' => e = .returned (.string ⟨(wr (h + 1) false (3, n, b, L, t, I, R)).toArray⟩) ∧ Up w w' := by
  obtain ⟨aom, capm, rfl, -⟩ := id hM
  obtain ⟨aoi, capi, rfl⟩ := hI.shape
  obtain ⟨aor, capr, rfl⟩ := hR.shape
  have hbk : L.length ≤ 10000000 ∧ t.size ≤ 10000000 ∧ (I.map (bk h)).sum ≤ 10000000 ∧ (R.map (bk h)).sum ≤ 10000000 := by simp only [bk] at hb; omega
  have htl := bytes_len t
  obtain ⟨W, hW⟩ : ∃ W, W = w.alloc (.cells #[.int .i64 3, .int .i64 n, .bool b, .slice aom L.length capm, .string t, .slice aoi I.length capi, .slice aor R.length capr] 27) := ⟨_, rfl⟩
  have uW : Up w W := by rw [hW]; exact up_alloc w _
  have bW : W.heap[w.heap.size]? = some (.cells #[.int .i64 3, .int .i64 n, .bool b, .slice aom L.length capm, .string t, .slice aoi I.length capi, .slice aor R.length capr] 27 (0, 0)) := by rw [hW]; exact heap_alloc_new w _
  have HUse := hide (And.intro hT (And.intro hMany (And.intro hn (And.intro hL (And.intro hM (And.intro hbk (And.intro htl (And.intro bW uW))))))))
  clear HUse
  have e : wr (h + 1) false (3, n, b, L, t, I, R) = [35, 92] ++ chW n := by simp [wr]
  rw [e]
  clear e
  have KN := rchar_any n hn W
  generalize [35, 92] ++ chW n = c at *
  rw [hW] at KN
  have HN := hide KN
  clear KN
  have HUW := hide uW
  have HBW := hide bW
  have HW := hide hW
  clear hT hMany uW bW hW hI hR hM hL hbk htl hb hn
  go_enter Tryd.func15, Tryd.ntmps15
  go_wp2_with (go_at_call 20; refine HN.out.mono ?_; rintro e w2 ⟨rfl, u2⟩)
  go_ret
  exact ⟨rfl, (up_alloc w _).tr u2⟩

set_option maxHeartbeats 4000000 in
set_option maxRecDepth 100000 in
theorem rt_textS {h : Nat} (hT : RTextOK h) (hMany : RManyOK h) (n : Int) (b : Bool) (L : List Nat) (t : ByteArray) (I R : List (Tr h)) (um ui ur : Value) (w : World) (hb : bk (h + 1) (4, n, b, L, t, I, R) ≤ 10000000)
    (hn : -9223372036854775808 ≤ n ∧ n ≤ 9223372036854775807) (hM : Sl .u32 w um L.length (fun i => L.getD i 0)) (hL : ∀ i, i < L.length → L.getD i 0 < 4294967296) (hI : RowD w (DatC w h) ui I) (hR : RowD w (DatC w h) ur R) :
    Calls Tryd.prog 15 #[.agg #[.int .i64 4, .int .i64 n, .bool b, um, .string t, ui, ur], .bool true] w fun e w' => e = .returned (.string ⟨(wr (h + 1) true (4, n, b, L, t, I, R)).toArray⟩) ∧ Up w w' := by
  obtain ⟨aom, capm, rfl, -⟩ := id hM
  obtain ⟨aoi, capi, rfl⟩ := hI.shape
  obtain ⟨aor, capr, rfl⟩ := hR.shape
  have hbk : L.length ≤ 10000000 ∧ t.size ≤ 10000000 ∧ (I.map (bk h)).sum ≤ 10000000 ∧ (R.map (bk h)).sum ≤ 10000000 := by simp only [bk] at hb; omega
  have htl := bytes_len t
  obtain ⟨W, hW⟩ : ∃ W, W = w.alloc (.cells #[.int .i64 4, .int .i64 n, .bool b, .slice aom L.length capm, .string t, .slice aoi I.length capi, .slice aor R.length capr] 27) := ⟨_, rfl⟩
  have uW : Up w W := by rw [hW]; exact up_alloc w _
  have bW : W.heap[w.heap.size]? = some (.cells #[.int .i64 4, .int .i64 n, .bool b, .slice aom L.length capm, .string t, .slice aoi I.length capi, .slice aor R.length capr] 27 (0, 0)) := by rw [hW]; exact heap_alloc_new w _
  have HUse := hide (And.intro hT (And.intro hMany (And.intro hn (And.intro hL (And.intro hM (And.intro hbk (And.intro htl (And.intro bW uW))))))))
  clear HUse
  have e : (⟨(wr (h + 1) true (4, n, b, L, t, I, R)).toArray⟩ : ByteArray) = t := by simp only [wr]; simp
  rw [e]
  clear e
  have HUW := hide uW
  have HBW := hide bW
  have HW := hide hW
  clear hT hMany uW bW hW hI hR hM hL hbk htl hb hn
  go_enter Tryd.func15, Tryd.ntmps15
  go_wp2
  go_ret
  exact ⟨rfl, up_alloc w _⟩

set_option maxHeartbeats 4000000 in
set_option maxRecDepth 100000 in
theorem rt_textW {h : Nat} (hT : RTextOK h) (hMany : RManyOK h) (n : Int) (b : Bool) (L : List Nat) (t : ByteArray) (I R : List (Tr h)) (um ui ur : Value) (w : World) (hb : bk (h + 1) (4, n, b, L, t, I, R) ≤ 10000000)
    (hn : -9223372036854775808 ≤ n ∧ n ≤ 9223372036854775807) (hM : Sl .u32 w um L.length (fun i => L.getD i 0)) (hL : ∀ i, i < L.length → L.getD i 0 < 4294967296) (hI : RowD w (DatC w h) ui I) (hR : RowD w (DatC w h) ur R) :
    Calls Tryd.prog 15 #[.agg #[.int .i64 4, .int .i64 n, .bool b, um, .string t, ui, ur], .bool false] w fun e w' => e = .returned (.string ⟨(wr (h + 1) false (4, n, b, L, t, I, R)).toArray⟩) ∧ Up w w' := by
  obtain ⟨aom, capm, rfl, -⟩ := id hM
  obtain ⟨aoi, capi, rfl⟩ := hI.shape
  obtain ⟨aor, capr, rfl⟩ := hR.shape
  have hbk : L.length ≤ 10000000 ∧ t.size ≤ 10000000 ∧ (I.map (bk h)).sum ≤ 10000000 ∧ (R.map (bk h)).sum ≤ 10000000 := by simp only [bk] at hb; omega
  have htl := bytes_len t
  obtain ⟨W, hW⟩ : ∃ W, W = w.alloc (.cells #[.int .i64 4, .int .i64 n, .bool b, .slice aom L.length capm, .string t, .slice aoi I.length capi, .slice aor R.length capr] 27) := ⟨_, rfl⟩
  have uW : Up w W := by rw [hW]; exact up_alloc w _
  have bW : W.heap[w.heap.size]? = some (.cells #[.int .i64 4, .int .i64 n, .bool b, .slice aom L.length capm, .string t, .slice aoi I.length capi, .slice aor R.length capr] 27 (0, 0)) := by rw [hW]; exact heap_alloc_new w _
  have HUse := hide (And.intro hT (And.intro hMany (And.intro hn (And.intro hL (And.intro hM (And.intro hbk (And.intro htl (And.intro bW uW))))))))
  clear HUse
  have e : wr (h + 1) false (4, n, b, L, t, I, R) = [34] ++ tsW t.data.toList ++ [34] := by simp [wr]
  rw [e]
  clear e
  have KN := rText_any t hbk.2.1 W
  generalize [34] ++ tsW t.data.toList ++ [34] = c at *
  rw [hW] at KN
  have HN := hide KN
  clear KN
  have HUW := hide uW
  have HBW := hide bW
  have HW := hide hW
  clear hT hMany uW bW hW hI hR hM hL hbk htl hb hn
  go_enter Tryd.func15, Tryd.ntmps15
  go_wp2_with (go_at_call 21; refine HN.out.mono ?_; rintro e w2 ⟨rfl, u2⟩)
  go_ret
  exact ⟨rfl, (up_alloc w _).tr u2⟩

set_option maxHeartbeats 4000000 in
set_option maxRecDepth 100000 in
theorem rt_sym {h : Nat} (hT : RTextOK h) (hMany : RManyOK h) (sh : Bool) (n : Int) (b : Bool) (L : List Nat) (t : ByteArray) (I R : List (Tr h)) (um ui ur : Value) (w : World) (hb : bk (h + 1) (5, n, b, L, t, I, R) ≤ 10000000)
    (hn : -9223372036854775808 ≤ n ∧ n ≤ 9223372036854775807) (hM : Sl .u32 w um L.length (fun i => L.getD i 0)) (hL : ∀ i, i < L.length → L.getD i 0 < 4294967296) (hI : RowD w (DatC w h) ui I) (hR : RowD w (DatC w h) ur R) :
    Calls Tryd.prog 15 #[.agg #[.int .i64 5, .int .i64 n, .bool b, um, .string t, ui, ur], .bool sh] w fun e w' => e = .returned (.string ⟨(wr (h + 1) sh (5, n, b, L, t, I, R)).toArray⟩) ∧ Up w w' := by
  obtain ⟨aom, capm, rfl, -⟩ := id hM
  obtain ⟨aoi, capi, rfl⟩ := hI.shape
  obtain ⟨aor, capr, rfl⟩ := hR.shape
  have hbk : L.length ≤ 10000000 ∧ t.size ≤ 10000000 ∧ (I.map (bk h)).sum ≤ 10000000 ∧ (R.map (bk h)).sum ≤ 10000000 := by simp only [bk] at hb; omega
  have htl := bytes_len t
  obtain ⟨W, hW⟩ : ∃ W, W = w.alloc (.cells #[.int .i64 5, .int .i64 n, .bool b, .slice aom L.length capm, .string t, .slice aoi I.length capi, .slice aor R.length capr] 27) := ⟨_, rfl⟩
  have uW : Up w W := by rw [hW]; exact up_alloc w _
  have bW : W.heap[w.heap.size]? = some (.cells #[.int .i64 5, .int .i64 n, .bool b, .slice aom L.length capm, .string t, .slice aoi I.length capi, .slice aor R.length capr] 27 (0, 0)) := by rw [hW]; exact heap_alloc_new w _
  have HUse := hide (And.intro hT (And.intro hMany (And.intro hn (And.intro hL (And.intro hM (And.intro hbk (And.intro htl (And.intro bW uW))))))))
  clear HUse
  have e : (⟨(wr (h + 1) sh (5, n, b, L, t, I, R)).toArray⟩ : ByteArray) = t := by simp only [wr]; simp
  rw [e]
  clear e
  have HUW := hide uW
  have HBW := hide bW
  have HW := hide hW
  clear hT hMany uW bW hW hI hR hM hL hbk htl hb hn
  go_enter Tryd.func15, Tryd.ntmps15
  go_wp2
  go_ret
  exact ⟨rfl, up_alloc w _⟩

set_option maxHeartbeats 4000000 in
set_option maxRecDepth 100000 in
theorem rt_list {h : Nat} (hT : RTextOK h) (hMany : RManyOK h) (sh : Bool) (n : Int) (b : Bool) (L : List Nat) (t : ByteArray) (I R : List (Tr h)) (um ui ur : Value) (w : World) (hb : bk (h + 1) (6, n, b, L, t, I, R) ≤ 10000000)
    (hn : -9223372036854775808 ≤ n ∧ n ≤ 9223372036854775807) (hM : Sl .u32 w um L.length (fun i => L.getD i 0)) (hL : ∀ i, i < L.length → L.getD i 0 < 4294967296) (hI : RowD w (DatC w h) ui I) (hR : RowD w (DatC w h) ur R) (hR0 : R = []) :
    Calls Tryd.prog 15 #[.agg #[.int .i64 6, .int .i64 n, .bool b, um, .string t, ui, ur], .bool sh] w fun e w' => e = .returned (.string ⟨(wr (h + 1) sh (6, n, b, L, t, I, R)).toArray⟩) ∧ Up w w' := by
  obtain ⟨aom, capm, rfl, -⟩ := id hM
  obtain ⟨aoi, capi, rfl⟩ := hI.shape
  obtain ⟨aor, capr, rfl⟩ := hR.shape
  have hbk : L.length ≤ 10000000 ∧ t.size ≤ 10000000 ∧ (I.map (bk h)).sum ≤ 10000000 ∧ (R.map (bk h)).sum ≤ 10000000 := by simp only [bk] at hb; omega
  have htl := bytes_len t
  obtain ⟨W, hW⟩ : ∃ W, W = w.alloc (.cells #[.int .i64 6, .int .i64 n, .bool b, .slice aom L.length capm, .string t, .slice aoi I.length capi, .slice aor R.length capr] 27) := ⟨_, rfl⟩
  have uW : Up w W := by rw [hW]; exact up_alloc w _
  have bW : W.heap[w.heap.size]? = some (.cells #[.int .i64 6, .int .i64 n, .bool b, .slice aom L.length capm, .string t, .slice aoi I.length capi, .slice aor R.length capr] 27 (0, 0)) := by rw [hW]; exact heap_alloc_new w _
  have HUse := hide (And.intro hT (And.intro hMany (And.intro hn (And.intro hL (And.intro hM (And.intro hbk (And.intro htl (And.intro bW uW))))))))
  clear HUse
  have KN := hMany sh I (.slice aoi I.length capi) W (hI.upD uW) hbk.2.2.1
  have hln := its_len hI sh I.length
  rw [List.take_length] at hln
  have e : wr (h + 1) sh (6, n, b, L, t, I, R) = [40] ++ its (wr h sh) [] I ++ [41] := by subst hR0; cases I <;> simp [wr, dotW]
  rw [e]
  clear e
  generalize its (wr h sh) [] I = M at *
  have zM := size_arr M
  have lM : M.length ≤ 1000000000 := by omega
  have z2 : ((⟨#[40]⟩ : ByteArray) ++ ⟨M.toArray⟩).size = [40].length + M.length := by rw [ByteArray.size_append, zM]; rfl
  have hEq := round_bytes M
  have HEq := hide hEq
  rw [hW] at KN
  have HN := hide KN
  subst hR0
  simp only [List.length_nil]
  clear KN hEq hln
  have HUW := hide uW
  have HBW := hide bW
  have HW := hide hW
  clear hT hMany uW bW hW hI hR hM hL hbk htl hb hn
  go_enter Tryd.func15, Tryd.ntmps15
  go_wp2_with (go_at_call 22; refine HN.out.mono ?_; rintro e w2 ⟨rfl, u2⟩)
  go_ret
  exact ⟨congrArg (fun x => Ending.returned (Value.string x)) HEq.out, (up_alloc w _).tr u2⟩

set_option maxHeartbeats 4000000 in
set_option maxRecDepth 100000 in
theorem rt_vec {h : Nat} (hT : RTextOK h) (hMany : RManyOK h) (sh : Bool) (n : Int) (b : Bool) (L : List Nat) (t : ByteArray) (I R : List (Tr h)) (um ui ur : Value) (w : World) (hb : bk (h + 1) (7, n, b, L, t, I, R) ≤ 10000000)
    (hn : -9223372036854775808 ≤ n ∧ n ≤ 9223372036854775807) (hM : Sl .u32 w um L.length (fun i => L.getD i 0)) (hL : ∀ i, i < L.length → L.getD i 0 < 4294967296) (hI : RowD w (DatC w h) ui I) (hR : RowD w (DatC w h) ur R) :
    Calls Tryd.prog 15 #[.agg #[.int .i64 7, .int .i64 n, .bool b, um, .string t, ui, ur], .bool sh] w fun e w' => e = .returned (.string ⟨(wr (h + 1) sh (7, n, b, L, t, I, R)).toArray⟩) ∧ Up w w' := by
  obtain ⟨aom, capm, rfl, -⟩ := id hM
  obtain ⟨aoi, capi, rfl⟩ := hI.shape
  obtain ⟨aor, capr, rfl⟩ := hR.shape
  have hbk : L.length ≤ 10000000 ∧ t.size ≤ 10000000 ∧ (I.map (bk h)).sum ≤ 10000000 ∧ (R.map (bk h)).sum ≤ 10000000 := by simp only [bk] at hb; omega
  have htl := bytes_len t
  obtain ⟨W, hW⟩ : ∃ W, W = w.alloc (.cells #[.int .i64 7, .int .i64 n, .bool b, .slice aom L.length capm, .string t, .slice aoi I.length capi, .slice aor R.length capr] 27) := ⟨_, rfl⟩
  have uW : Up w W := by rw [hW]; exact up_alloc w _
  have bW : W.heap[w.heap.size]? = some (.cells #[.int .i64 7, .int .i64 n, .bool b, .slice aom L.length capm, .string t, .slice aoi I.length capi, .slice aor R.length capr] 27 (0, 0)) := by rw [hW]; exact heap_alloc_new w _
  have HUse := hide (And.intro hT (And.intro hMany (And.intro hn (And.intro hL (And.intro hM (And.intro hbk (And.intro htl (And.intro bW uW))))))))
  clear HUse
  have KN := hMany sh I (.slice aoi I.length capi) W (hI.upD uW) hbk.2.2.1
  have hln := its_len hI sh I.length
  rw [List.take_length] at hln
  have e : wr (h + 1) sh (7, n, b, L, t, I, R) = [35, 40] ++ its (wr h sh) [] I ++ [41] := by simp [wr]
  rw [e]
  clear e
  generalize its (wr h sh) [] I = M at *
  have zM := size_arr M
  have lM : M.length ≤ 1000000000 := by omega
  have z2 : ((⟨#[35, 40]⟩ : ByteArray) ++ ⟨M.toArray⟩).size = [35, 40].length + M.length := by rw [ByteArray.size_append, zM]; rfl
  have hEq := vec_bytes M
  have HEq := hide hEq
  rw [hW] at KN
  have HN := hide KN

  clear KN hEq hln
  have HUW := hide uW
  have HBW := hide bW
  have HW := hide hW
  clear hT hMany uW bW hW hI hR hM hL hbk htl hb hn
  go_enter Tryd.func15, Tryd.ntmps15
  go_wp2_with (go_at_call 22; refine HN.out.mono ?_; rintro e w2 ⟨rfl, u2⟩)
  go_ret
  exact ⟨congrArg (fun x => Ending.returned (Value.string x)) HEq.out, (up_alloc w _).tr u2⟩

set_option maxHeartbeats 4000000 in
set_option maxRecDepth 100000 in
theorem rt_proc {h : Nat} (hT : RTextOK h) (hMany : RManyOK h) (sh : Bool) (n : Int) (b : Bool) (L : List Nat) (t : ByteArray) (I R : List (Tr h)) (um ui ur : Value) (w : World) (hb : bk (h + 1) (9, n, b, L, t, I, R) ≤ 10000000)
    (hn : -9223372036854775808 ≤ n ∧ n ≤ 9223372036854775807) (hM : Sl .u32 w um L.length (fun i => L.getD i 0)) (hL : ∀ i, i < L.length → L.getD i 0 < 4294967296) (hI : RowD w (DatC w h) ui I) (hR : RowD w (DatC w h) ur R) :
    Calls Tryd.prog 15 #[.agg #[.int .i64 9, .int .i64 n, .bool b, um, .string t, ui, ur], .bool sh] w fun e w' => e = .returned (.string ⟨(wr (h + 1) sh (9, n, b, L, t, I, R)).toArray⟩) ∧ Up w w' := by
  obtain ⟨aom, capm, rfl, -⟩ := id hM
  obtain ⟨aoi, capi, rfl⟩ := hI.shape
  obtain ⟨aor, capr, rfl⟩ := hR.shape
  have hbk : L.length ≤ 10000000 ∧ t.size ≤ 10000000 ∧ (I.map (bk h)).sum ≤ 10000000 ∧ (R.map (bk h)).sum ≤ 10000000 := by simp only [bk] at hb; omega
  have htl := bytes_len t
  obtain ⟨W, hW⟩ : ∃ W, W = w.alloc (.cells #[.int .i64 9, .int .i64 n, .bool b, .slice aom L.length capm, .string t, .slice aoi I.length capi, .slice aor R.length capr] 27) := ⟨_, rfl⟩
  have uW : Up w W := by rw [hW]; exact up_alloc w _
  have bW : W.heap[w.heap.size]? = some (.cells #[.int .i64 9, .int .i64 n, .bool b, .slice aom L.length capm, .string t, .slice aoi I.length capi, .slice aor R.length capr] 27 (0, 0)) := by rw [hW]; exact heap_alloc_new w _
  have HUse := hide (And.intro hT (And.intro hMany (And.intro hn (And.intro hL (And.intro hM (And.intro hbk (And.intro htl (And.intro bW uW))))))))
  clear HUse
  have e : wr (h + 1) sh (9, n, b, L, t, I, R) = [35, 60, 112, 114, 111, 99, 101, 100, 117, 114, 101, 62] := by simp [wr]
  rw [e]
  clear e
  have HUW := hide uW
  have HBW := hide bW
  have HW := hide hW
  clear hT hMany uW bW hW hI hR hM hL hbk htl hb hn
  go_enter Tryd.func15, Tryd.ntmps15
  go_wp2
  go_ret
  exact ⟨rfl, up_alloc w _⟩

set_option maxHeartbeats 4000000 in
set_option maxRecDepth 100000 in
theorem rt_void {h : Nat} (hT : RTextOK h) (hMany : RManyOK h) (sh : Bool) (k : Int) (k1 : ¬ k = 1) (k2 : ¬ k = 2) (k3 : ¬ k = 3) (k4 : ¬ k = 4) (k5 : ¬ k = 5) (k6 : ¬ k = 6) (k7 : ¬ k = 7) (k9 : ¬ k = 9) (k10 : ¬ k = 10) (n : Int) (b : Bool) (L : List Nat) (t : ByteArray) (I R : List (Tr h)) (um ui ur : Value) (w : World) (hb : bk (h + 1) (k, n, b, L, t, I, R) ≤ 10000000)
    (hn : -9223372036854775808 ≤ n ∧ n ≤ 9223372036854775807) (hM : Sl .u32 w um L.length (fun i => L.getD i 0)) (hL : ∀ i, i < L.length → L.getD i 0 < 4294967296) (hI : RowD w (DatC w h) ui I) (hR : RowD w (DatC w h) ur R) :
    Calls Tryd.prog 15 #[.agg #[.int .i64 k, .int .i64 n, .bool b, um, .string t, ui, ur], .bool sh] w fun e w' => e = .returned (.string ⟨(wr (h + 1) sh (k, n, b, L, t, I, R)).toArray⟩) ∧ Up w w' := by
  obtain ⟨aom, capm, rfl, -⟩ := id hM
  obtain ⟨aoi, capi, rfl⟩ := hI.shape
  obtain ⟨aor, capr, rfl⟩ := hR.shape
  have hbk : L.length ≤ 10000000 ∧ t.size ≤ 10000000 ∧ (I.map (bk h)).sum ≤ 10000000 ∧ (R.map (bk h)).sum ≤ 10000000 := by simp only [bk] at hb; omega
  have htl := bytes_len t
  obtain ⟨W, hW⟩ : ∃ W, W = w.alloc (.cells #[.int .i64 k, .int .i64 n, .bool b, .slice aom L.length capm, .string t, .slice aoi I.length capi, .slice aor R.length capr] 27) := ⟨_, rfl⟩
  have uW : Up w W := by rw [hW]; exact up_alloc w _
  have bW : W.heap[w.heap.size]? = some (.cells #[.int .i64 k, .int .i64 n, .bool b, .slice aom L.length capm, .string t, .slice aoi I.length capi, .slice aor R.length capr] 27 (0, 0)) := by rw [hW]; exact heap_alloc_new w _
  have HUse := hide (And.intro hT (And.intro hMany (And.intro hn (And.intro hL (And.intro hM (And.intro hbk (And.intro htl (And.intro bW uW))))))))
  clear HUse
  have e : wr (h + 1) sh (k, n, b, L, t, I, R) = [35, 60, 118, 111, 105, 100, 62] := by simp [wr, k1, k2, k3, k4, k5, k6, k7, k9, k10]
  rw [e]
  clear e
  have HUW := hide uW
  have HBW := hide bW
  have HW := hide hW
  clear hT hMany uW bW hW hI hR hM hL hbk htl hb hn
  go_enter Tryd.func15, Tryd.ntmps15
  go_wp2
  go_ret
  exact ⟨rfl, up_alloc w _⟩

end Go.Proofs.YtedhknfgliepeaaDoor
