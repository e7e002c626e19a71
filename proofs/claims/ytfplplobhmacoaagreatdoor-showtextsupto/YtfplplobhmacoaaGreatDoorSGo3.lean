/-
  What is proved here: package show's goOn, at what stands behind a dot; goOn, whatever is left.
-/
import Derived.Test.YtfplplobhmacoaaGreatDoorSGo2
namespace Go.Proofs.YtfplplobhmacoaaGreatDoor
open Go Go.RowKit

set_option maxHeartbeats 4000000 in
set_option maxRecDepth 100000 in
theorem goOn_rest (w0 : World) (tb : Nat) (out : List UInt8) (σ : List RowP) (H : Nat) (sh : Bool) (gap fin : ByteArray) (d : Tr H) (R' : List (Tr H)) (w : World) (hS : TS w0 tb out (σ ++ [⟨H, sh, gap, [], d :: R', fin⟩]) w) (htab : Tab w0) (hlen : out.length + 200 * bk H d + 310 ≤ 140737488355328) (hσ : σ.length ≤ 100000000) (hRl : R'.length ≤ 100000000) :
    Calls Tryz.prog 24 #[.pointer (some ⟨tb, 0, none⟩)] w fun e w' => e = .returned (.tuple #[]) ∧ GoneOn w0 tb out (σ ++ [⟨H, sh, gap, [], d :: R', fin⟩]) w' := by
  obtain ⟨g, cap, a0, a1, a2, a3, a4, hA, hC⟩ := hS.last
  obtain ⟨lv, rv, he, hl, hr⟩ := id hC
  simp at he
  obtain ⟨rfl, rfl, rfl, rfl, rfl⟩ := he
  obtain ⟨aol, capl, rfl⟩ := hl.shape
  obtain ⟨db, doff, capr, rfl, hc1, hc2, ⟨cs, k1, k2, k3⟩, -⟩ := hr.head
  obtain ⟨W, hW⟩ : ∃ W, W = w.drew := ⟨_, rfl⟩
  have hA1 := hA.more (up_drew w)
  rw [← hW] at hA1
  obtain ⟨kk, kn, kb, um, kt, ui, ur, rfl, ⟨x1, x2, x3, rfl⟩, ⟨y1, y2, y3, rfl⟩, ⟨z1, z2, z3, rfl⟩, e0, e1, e2, e3, e4, e5, e6⟩ := dat_cells k1 k2 k3 hA1.up
  obtain ⟨W1, hW1⟩ : ∃ W1, W1 = W.alloc (.cells #[.int .i64 kk, .int .i64 kn, .bool kb, .slice x1 x2 x3, .string kt, .slice y1 y2 y3, .slice z1 z2 z3] 32) := ⟨_, rfl⟩
  have zW : W1.heap.size = W.heap.size + 1 := by rw [hW1, World.size_alloc]
  have bx := heap_alloc_new W (.cells #[.int .i64 kk, .int .i64 kn, .bool kb, .slice x1 x2 x3, .string kt, .slice y1 y2 y3, .slice z1 z2 z3] 32)
  have hA2 := hA1.more (up_alloc W (.cells #[.int .i64 kk, .int .i64 kn, .bool kb, .slice x1 x2 x3, .string kt, .slice y1 y2 y3, .slice z1 z2 z3] 32))
  rw [← hW1] at hA2
  have KP := put_last w0 tb out σ g cap _ _ _ _ _ [⟨#[32, 46, 32]⟩] 1 W1 hA2 (by simp [flat]; omega) (by simp)
  simp only [List.map_cons, List.map_nil, List.length_cons, List.length_nil, Nat.zero_add] at KP
  rw [zW, hW1] at KP
  have KD := fun (W5 : World) (h5 : TS w0 tb (out ++ flat [⟨#[32, 46, 32]⟩]) (σ ++ [⟨H, sh, gap, [], [], fin⟩]) W5) => datum_any w0 tb (out ++ flat [⟨#[32, 46, 32]⟩]) (σ ++ [⟨H, sh, gap, [], [], fin⟩]) sh W5 H d _ _ _ _ _ _ _ h5 htab (by simp [flat]; omega) (by simp; omega) k3
  have hE : ∀ w', Told w0 tb (out ++ flat [⟨#[32, 46, 32]⟩]) (σ ++ [⟨H, sh, gap, [], [], fin⟩]) sh H d w' → GoneOn w0 tb out (σ ++ [⟨H, sh, gap, [], d :: R', fin⟩]) w' := fun w' hT => by
    obtain ⟨o2, s2, t1, t2, t3⟩ := hT
    refine ⟨o2, s2, t1, ?_, ?_⟩
    · rw [t2, pendA_snoc, pendA_snoc]
      simp [flat, pendR, its, dotW]
    · rw [wtA_snoc] at t3 ⊢
      simp [wtR] at t3 ⊢
      omega
  have hlt1 := hA1.lt
  obtain ⟨c0, c1, c2, c3, c4, c5⟩ := hA.cell
  obtain ⟨i0, i1, i2, i3, i4, i5⟩ := hA1.cell
  have hcap := hA.hcap
  have hmax := hA.hmax
  have HP := hide KP
  have HD := hide KD
  have HE := hide hE
  have HX := hide bx
  have HLT := hide hlt1
  have HRow := hide hl
  generalize hhw : howI sh = hw at *
  have HHW := hide hhw
  clear hhw
  obtain ⟨n, hn⟩ : ∃ n, n = σ.length := ⟨_, rfl⟩
  rw [← hn] at c0 c1 c2 c3 c4 c5 hcap hσ i0 i1 i2 i3 i4 i5
  obtain ⟨lL, hlL⟩ : ∃ lL, lL = R'.length := ⟨_, rfl⟩
  rw [← hlL] at HP c4 i4 hc1 hRl
  have HN := hide (And.intro hn hlL)
  have HWW := hide hW
  clear KP KD hE bx hS hA hA1 hA2 hl hr hC hn hlL hlen hlt1 k1 k2 k3 zW hW1 htab
  clear hW
  simp only [List.length_nil] at *
  have hlt : (n : Int) < (n : Int) + 1 := by omega
  have hnI : (n : Int) + 1 - 1 = n := by omega
  have hlI : (0 : Int) < (lL : Int) + 1 := by omega
  go_enter Tryz.func24, Tryz.ntmps24
  go_wp2
  go_region
  rw [← HWW.out]
  clear c0 c1 c2 c3 c4 c5
  go_wp2_with (go_at_call 38; refine HP.out.mono ?_; rintro e w3 ⟨rfl, h3, hk3⟩; obtain ⟨m0, m1, m2, m3, m4, m5⟩ := h3.cell; have f3 := h3.free (σ.length * 5 + 3); have bx := hk3.2 W.heap.size _ 32 _ (by have := HLT.out.2; omega) (by decide) HX.out; rw [← HN.out.1] at m0 m1 m2 m3 m4 m5 f3; have HBX := hide bx; have H3 := hide h3; clear i0 i1 i2 i3 i4 i5 e0 e1 e2 e3 e4 e5 e6 bx h3 hk3 HP)
  have h6 := (H3.out.put (b := .slice none 0 0)).2.2
  have hne : W.heap.size ≠ g := by have := HLT.out.1; omega
  have bx7 : (w3.setCell ⟨g, σ.length * 5 + 3, none⟩ (.slice none 0 0)).heap[W.heap.size]? = some (.cells #[.int .i64 kk, .int .i64 kn, .bool kb, .slice x1 x2 x3, .string kt, .slice y1 y2 y3, .slice z1 z2 z3] 32 (0, 0)) := (heap_setCell_other _ _ _ _ hne).trans HBX.out
  have hTS : TS w0 tb (out ++ flat [⟨#[32, 46, 32]⟩]) (σ ++ [⟨H, sh, gap, [], [], fin⟩]) _ := h6.ts ⟨.slice aol 0 capl, .slice none 0 0, by simp [HHW.out], HRow.out, RowD.nil' _ _⟩
  have m1 := h6.cell.2.1
  rw [← HN.out.1] at m1 bx7 hTS
  clear m0 m2 m3 m4 m5 f3 h6
  generalize (w3.setCell ⟨g, n * 5 + 3, none⟩ (.slice none 0 0)) = W5 at *
  obtain ⟨n0, n1, n2, n3, n4, n5, n6⟩ := cells7 bx7
  have HTS := hide hTS
  clear hTS bx7
  go_region_with (go_at_call 23; refine (HD.out _ (HTS.out.more (up_drew _))).mono ?_; rintro e w9 ⟨rfl, h9⟩)
  all_goals (go_wp2; go_end0; exact ⟨rfl, HE.out _ h9⟩)

theorem sum_ge {α : Type} {m : α → Nat} {l : List α} (h : ∀ a ∈ l, 1 ≤ m a) : l.length ≤ (l.map m).sum := by
  induction l with
  | nil => simp
  | cons a l ih =>
    have h1 := h a (by simp)
    have h2 := ih (fun b hb => h b (by simp [hb]))
    simp only [List.map_cons, List.sum_cons, List.length_cons]
    omega
theorem bk_one : (h : Nat) → (d : Tr h) → 1 ≤ bk h d
  | 0, d => nomatch d
  | h + 1, d => by have := bk_pos d; omega

/-- show's goOn. -/
theorem goOn_any (w0 : World) (tb : Nat) (out : List UInt8) (σ : List RowP) (w : World) (hS : TS w0 tb out σ w) (hne : σ ≠ []) (htab : Tab w0) (hlen : (out ++ pendA σ).length + 200 * wtA σ + 1000 ≤ 140737488355328) (hw : wtA σ ≤ 100000000) :
    Calls Tryz.prog 24 #[.pointer (some ⟨tb, 0, none⟩)] w fun e w' => e = .returned (.tuple #[]) ∧ GoneOn w0 tb out σ w' := by
  obtain ⟨σ', ρ, rfl⟩ : ∃ σ' ρ, σ = σ' ++ [ρ] := ⟨σ.dropLast, σ.getLast hne, (List.dropLast_concat_getLast hne).symm⟩
  rw [pendA_snoc, wtA_snoc] at hlen
  rw [wtA_snoc] at hw
  have hl := wtA_len σ'
  obtain ⟨H, sh, gap, L, R, fin⟩ := ρ
  have hgz := bytes_len gap
  have hfz := bytes_len fin
  cases L with
  | nil =>
    cases R with
    | nil =>
      simp [pendR, its, dotW] at hlen
      exact goOn_end w0 tb out σ' H sh gap fin w hS (by omega) (by omega)
    | cons d R' =>
      simp [pendR, its, dotW, wtR] at hlen
      simp [wtR] at hw
      have := sum_ge (m := bk H) (l := R') (fun a _ => bk_one H a)
      exact goOn_rest w0 tb out σ' H sh gap fin d R' w hS htab (by omega) (by omega) (by omega)
  | cons d L' =>
    simp [pendR, its, wtR] at hlen
    simp [wtR] at hw
    have := sum_ge (m := bk H) (l := L') (fun a _ => bk_one H a)
    exact goOn_left w0 tb out σ' H sh gap fin d L' R w hS htab (by omega) (by omega) (by omega)

end Go.Proofs.YtfplplobhmacoaaGreatDoor
