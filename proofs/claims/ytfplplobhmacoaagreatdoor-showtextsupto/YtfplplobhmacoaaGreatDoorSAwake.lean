/-
  What is proved here: package show's Write and Display; tandemlaw06.awake.
-/
import Derived.Test.YtfplplobhmacoaaGreatDoorSCopyM
namespace Go.Proofs.YtfplplobhmacoaaGreatDoor
open Go Go.RowKit

theorem DatC.shapes {w : World} : {h : Nat} → {d : Tr h} → {cs : List Value} → DatC w h d cs → ∃ k n bb um t ui ur, cs = [.int .i64 k, .int .i64 n, .bool bb, um, .string t, ui, ur] ∧ (∃ ao l cap, um = .slice ao l cap) ∧ (∃ ao l cap, ui = .slice ao l cap) ∧ (∃ ao l cap, ur = .slice ao l cap)
  | 0, _, _, hd => hd.elim
  | h + 1, (k, n, b, L, t, I, R), cs, hd => by
    obtain ⟨um, ui, ur, e, -, hM, -, hI, hR⟩ := hd
    obtain ⟨a1, c1, rfl, -⟩ := hM
    obtain ⟨a2, c2, rfl⟩ := hI.shape
    obtain ⟨a3, c3, rfl⟩ := hR.shape
    exact ⟨_, _, _, _, _, _, _, e, ⟨_, _, _, rfl⟩, ⟨_, _, _, rfl⟩, ⟨_, _, _, rfl⟩⟩

set_option maxRecDepth 100000 in
theorem write_any (w : World) (h : Nat) (d : Tr h) (c0 c1 c2 c3 c4 c5 c6 : Value) (htab : Tab w) (hb : bk h d ≤ 10000000) (hd : DatC w h d [c0, c1, c2, c3, c4, c5, c6]) :
    Calls Tryz.prog 7 #[.agg #[c0, c1, c2, c3, c4, c5, c6]] w fun e w' => e = .returned (.string ⟨(wr h false d).toArray⟩) ∧ Up w w' := by
  obtain ⟨kk, kn, kb, um, kt, ui, ur, he, ⟨x1, x2, x3, rfl⟩, ⟨y1, y2, y3, rfl⟩, ⟨z1, z2, z3, rfl⟩⟩ := hd.shapes
  simp at he
  obtain ⟨rfl, rfl, rfl, rfl, rfl, rfl, rfl⟩ := he
  have KT := fun (W : World) (u : Up w W) => told_any false W h d _ _ _ _ _ _ _ (htab.up u) hb (hd.up u)
  generalize wr h false d = T at *
  have HT := hide KT
  simp only [howI, Bool.false_eq_true, if_false] at HT
  clear KT hd htab hb
  go_enter Tryz.func7, Tryz.ntmps7
  go_wp2_with (go_at_call 13; refine (HT.out _ (up_alloc w _)).mono ?_; rintro e w2 ⟨rfl, u2⟩)
  go_ret
  exact ⟨rfl, (up_alloc w _).tr u2⟩

set_option maxRecDepth 100000 in
theorem display_any (w : World) (h : Nat) (d : Tr h) (c0 c1 c2 c3 c4 c5 c6 : Value) (htab : Tab w) (hb : bk h d ≤ 10000000) (hd : DatC w h d [c0, c1, c2, c3, c4, c5, c6]) :
    Calls Tryz.prog 10 #[.agg #[c0, c1, c2, c3, c4, c5, c6]] w fun e w' => e = .returned (.string ⟨(wr h true d).toArray⟩) ∧ Up w w' := by
  obtain ⟨kk, kn, kb, um, kt, ui, ur, he, ⟨x1, x2, x3, rfl⟩, ⟨y1, y2, y3, rfl⟩, ⟨z1, z2, z3, rfl⟩⟩ := hd.shapes
  simp at he
  obtain ⟨rfl, rfl, rfl, rfl, rfl, rfl, rfl⟩ := he
  have KT := fun (W : World) (u : Up w W) => told_any true W h d _ _ _ _ _ _ _ (htab.up u) hb (hd.up u)
  generalize wr h true d = T at *
  have HT := hide KT
  simp only [howI, if_true] at HT
  clear KT hd htab hb
  go_enter Tryz.func10, Tryz.ntmps10
  go_wp2_with (go_at_call 13; refine (HT.out _ (up_alloc w _)).mono ?_; rintro e w2 ⟨rfl, u2⟩)
  go_ret
  exact ⟨rfl, (up_alloc w _).tr u2⟩

def awT : Tr 2 := (6, 0, false, [], ⟨#[]⟩, [(4, 0, false, [], ⟨#[97]⟩, [], []), (3, 32, false, [], ⟨#[]⟩, [], [])], [])
theorem awW : wr 2 false awT = [40, 34, 97, 34, 32, 35, 92, 115, 112, 97, 99, 101, 41] := by
  simp [awT, wr, its, dotW, tsW, tbW, chW]
theorem awS : wr 2 true awT = [40, 97, 32, 32, 41] := by
  simp [awT, wr, its, dotW]
theorem sl_nil (w : World) : Sl .u32 w (.slice none 0 0) ([] : List Nat).length (fun i => ([] : List Nat).getD i 0) := ⟨none, 0, rfl, Nat.le_refl _, by decide, fun _ => rfl, .inl rfl⟩
theorem leafD (w : World) (h : Nat) (k n : Int) (t : ByteArray) (hn : -9223372036854775808 ≤ n ∧ n ≤ 9223372036854775807) : DatC w (h + 1) (k, n, false, [], t, [], []) [.int .i64 k, .int .i64 n, .bool false, .slice none 0 0, .string t, .slice none 0 0, .slice none 0 0] :=
  ⟨_, _, _, rfl, hn, sl_nil w, fun i hi => by simp at hi, RowD.nil' _ _, RowD.nil' _ _⟩

set_option maxHeartbeats 4000000 in
set_option maxRecDepth 100000 in
theorem awake_any (w : World) (htab : Tab w) : Calls Tryz.prog 6 #[] w fun e w' => e = .returned (.bool true) ∧ Up w w' := by
  have bA := heap_alloc_new w (.cells #[.int .i64 4, .int .i64 0, .bool false, .slice none 0 0, .string ⟨#[97]⟩, .slice none 0 0, .slice none 0 0, .int .i64 3, .int .i64 32, .bool false, .slice none 0 0, .string ⟨#[]⟩, .slice none 0 0, .slice none 0 0] 32)
  have uA := up_alloc w (.cells #[.int .i64 4, .int .i64 0, .bool false, .slice none 0 0, .string ⟨#[97]⟩, .slice none 0 0, .slice none 0 0, .int .i64 3, .int .i64 32, .bool false, .slice none 0 0, .string ⟨#[]⟩, .slice none 0 0, .slice none 0 0] 32)
  have zA : (w.alloc (.cells #[.int .i64 4, .int .i64 0, .bool false, .slice none 0 0, .string ⟨#[97]⟩, .slice none 0 0, .slice none 0 0, .int .i64 3, .int .i64 32, .bool false, .slice none 0 0, .string ⟨#[]⟩, .slice none 0 0, .slice none 0 0] 32)).heap.size = w.heap.size + 1 := World.size_alloc _ _
  obtain ⟨W1, hW1⟩ : ∃ W1, W1 = w.alloc (.cells #[.int .i64 4, .int .i64 0, .bool false, .slice none 0 0, .string ⟨#[97]⟩, .slice none 0 0, .slice none 0 0, .int .i64 3, .int .i64 32, .bool false, .slice none 0 0, .string ⟨#[]⟩, .slice none 0 0, .slice none 0 0] 32) := ⟨_, rfl⟩
  rw [← hW1] at bA uA zA
  have hd : DatC W1 2 awT [.int .i64 6, .int .i64 0, .bool false, .slice none 0 0, .string ⟨#[]⟩, .slice (some ⟨w.heap.size, 0, none⟩) 2 2, .slice none 0 0] := by
    refine ⟨_, _, _, rfl, by decide, sl_nil W1, fun i hi => by simp at hi, ⟨_, _, rfl, by decide, by decide, .inr ⟨_, _, rfl, fun i hi => ?_⟩⟩, RowD.nil' _ _⟩
    match i, hi with
    | 0, _ => exact ⟨_, rfl, fun j hj => by rw [cell_of_row _ _ _ _ _ _ bA]; match j, hj with | 0, _ | 1, _ | 2, _ | 3, _ | 4, _ | 5, _ | 6, _ => rfl, leafD W1 0 4 0 ⟨#[97]⟩ (by decide)⟩
    | 1, _ => exact ⟨_, rfl, fun j hj => by rw [cell_of_row _ _ _ _ _ _ bA]; match j, hj with | 0, _ | 1, _ | 2, _ | 3, _ | 4, _ | 5, _ | 6, _ => rfl, leafD W1 0 3 32 ⟨#[]⟩ (by decide)⟩
  have K1 := fun (W : World) (u : Up W1 W) => write_any W 2 awT _ _ _ _ _ _ _ (htab.up (uA.tr u)) (by decide) (hd.up u)
  have K2 := fun (W : World) (u : Up W1 W) => display_any W 2 awT _ _ _ _ _ _ _ (htab.up (uA.tr u)) (by decide) (hd.up u)
  rw [awW] at K1
  rw [awS] at K2
  obtain ⟨W2, hW2⟩ : ∃ W2, W2 = W1.alloc (.cells #[.int .i64 6, .int .i64 0, .bool false, .slice none 0 0, .string ⟨#[]⟩, .slice (some ⟨w.heap.size, 0, none⟩) 2 2, .slice none 0 0] 32) := ⟨_, rfl⟩
  have uB : Up W1 W2 := by rw [hW2]; exact up_alloc _ _
  have bB : W2.heap[w.heap.size + 1]? = some (.cells #[.int .i64 6, .int .i64 0, .bool false, .slice none 0 0, .string ⟨#[]⟩, .slice (some ⟨w.heap.size, 0, none⟩) 2 2, .slice none 0 0] 32 (0, 0)) := by rw [hW2, ← zA]; exact heap_alloc_new _ _
  obtain ⟨n0, n1, n2, n3, n4, n5, n6⟩ := cells7 bB
  rw [hW1] at hW2
  have HW := hide hW2
  have HK1 := hide (K1 W2 uB)
  have HK2 := hide K2
  have HB := hide (And.intro bB (And.intro uB (uA.tr uB)))
  clear K1 K2 hd bA uA zA htab hW2 hW1 uB bB
  go_enter Tryz.func6, Tryz.ntmps6
  go_wp2_with fail
  rw [← HW.out]
  go_wp2_with (first
    | (go_at_call 7; refine HK1.out.mono ?_; rintro e w3 ⟨rfl, u3⟩; have b3 := Up.old u3 HB.out.1; clear n0 n1 n2 n3 n4 n5 n6; obtain ⟨n0, n1, n2, n3, n4, n5, n6⟩ := cells7 b3; have HU3 := hide u3; clear u3 b3)
    | (go_at_call 10; refine (HK2.out _ (HB.out.2.1.tr HU3.out)).mono ?_; rintro e w4 ⟨rfl, u4⟩))
  go_ret
  exact ⟨rfl, HB.out.2.2.tr (HU3.out.tr u4)⟩

end Go.Proofs.YtfplplobhmacoaaGreatDoor
