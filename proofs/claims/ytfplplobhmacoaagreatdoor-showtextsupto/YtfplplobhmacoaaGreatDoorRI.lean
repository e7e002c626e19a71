/-
  What is proved here: package read's sharp and piece, at the beginning of a text and at a character.
-/
import Derived.Test.YtfplplobhmacoaaGreatDoorRH
namespace Go.Proofs.YtfplplobhmacoaaGreatDoor
open Go Go.RowKit

set_option maxHeartbeats 2000000 in
set_option maxRecDepth 100000 in
theorem sharp_ch (w0 : World) (rb : Nat) (t r : ByteArray) (a d : Nat) (c : UInt8) (l : List UInt8) (w : World) (h : RS w0 rb t a d w) (ha : a + r.size ≤ 1000000000) (hr : r.data.toList = 35 :: 92 :: c :: l) (hl : tokL l = l.length) :
    Calls Tryz.prog 30 #[.pointer (some ⟨rb, 0, none⟩), .string r] w fun e w' => e = .returned (pc0 a ((a + r.size : Nat) : Int) 7) ∧ RS w0 rb t (a + r.size) d w' ∧ Kr rb w w' := by
  have uA := up_alloc w zer11
  have hA : RS w0 rb t a d (w.alloc zer11) := ⟨h.up.tr uA, h.ge, uA.old h.cs⟩
  have gA : (w.alloc zer11).heap[w.heap.size]? = some zer11 := heap_alloc_new w zer11
  have hlt := h.lt
  have hsz : w0.heap.size ≤ w.heap.size := h.up.size
  have z0 : r.size = l.length + 3 := by rw [← bytes_len, hr]; rfl
  have e3 := ext_list r 3 (by omega)
  rw [hr] at e3
  have KT := fun (W : World) => tokenLength_any (r.extract 3 r.size) W (by simp; omega)
  rw [e3, show List.drop 3 (35 :: 92 :: c :: l) = l from rfl, hl] at KT
  have KS := take_any w0 rb t a d r.size 7 _ hA (by omega)
  have e4 : ((r.size : Nat) : Int) = 3 + (l.length : Int) := by omega
  rw [e4] at KS
  have K1 : ∀ W, Calls Tryz.prog 29 #[.string r, .string ⟨#[35, 124]⟩] W fun e w' => e = .returned (.bool false) ∧ w' = W := fun W => by
    have := prefix_any r ⟨#[35, 124]⟩ W
    rw [hr, show Lib.hasPrefix (35 :: 92 :: c :: l) (⟨#[35, 124]⟩ : ByteArray).data.toList = false from rfl] at this
    exact this
  have K2 : ∀ W, Calls Tryz.prog 29 #[.string r, .string ⟨#[35, 59]⟩] W fun e w' => e = .returned (.bool false) ∧ w' = W := fun W => by
    have := prefix_any r ⟨#[35, 59]⟩ W
    rw [hr, show Lib.hasPrefix (35 :: 92 :: c :: l) (⟨#[35, 59]⟩ : ByteArray).data.toList = false from rfl] at this
    exact this
  have K3 : ∀ W, Calls Tryz.prog 29 #[.string r, .string ⟨#[35, 40]⟩] W fun e w' => e = .returned (.bool false) ∧ w' = W := fun W => by
    have := prefix_any r ⟨#[35, 40]⟩ W
    rw [hr, show Lib.hasPrefix (35 :: 92 :: c :: l) (⟨#[35, 40]⟩ : ByteArray).data.toList = false from rfl] at this
    exact this
  have K4 : ∀ W, Calls Tryz.prog 29 #[.string r, .string ⟨#[35, 92]⟩] W fun e w' => e = .returned (.bool true) ∧ w' = W := fun W => by
    have := prefix_any r ⟨#[35, 92]⟩ W
    rw [hr, show Lib.hasPrefix (35 :: 92 :: c :: l) (⟨#[35, 92]⟩ : ByteArray).data.toList = true from rfl] at this
    exact this
  have HS := hide KS
  have HT := hide KT
  have H1 := hide K1
  have H2' := hide K2
  have H3 := hide K3
  have H4 := hide K4
  have HG := hide (And.intro gA (And.intro uA (And.intro hlt hsz)))
  have s1 : (3 : Int) ≤ (r.size : Int) := by omega
  have s2 : min (3 : Int) (r.size : Int) = 3 := by omega
  have s3 : (l.length : Int) ≤ 1000000000 := by omega
  have HZ := hide e4
  clear h uA hA gA hlt hsz KS KT K1 K2 K3 K4 e3 e4 z0 hr hl
  unfold zer11 at HG HS
  unfold pc0 pcV at HS
  go_enter Tryz.func30, Tryz.ntmps30
  go_wp2_with (first
    | (go_at_call 29; first | refine (H1.out _).mono ?_ | refine (H2'.out _).mono ?_ | refine (H3.out _).mono ?_ | refine (H4.out _).mono ?_
       rintro e w1 ⟨rfl, rfl⟩)
    | (go_at_call 48; refine (HT.out _).mono ?_; rintro e w1 ⟨rfl, rfl⟩)
    | (go_at_call 27; refine HS.out.mono ?_; rintro e w2 ⟨rfl, h2, k2⟩; have g2 := k2.old (Nat.ne_of_gt HG.out.2.2.1) HG.out.1; obtain ⟨f0, f1, f2, f3, f4, f5, f6, f7, f8, f9, f10⟩ := frozen11 g2; obtain ⟨d0, d1, d2, d3, d4, d5, d6, d7, d8, d9, d10⟩ := cells11 g2; have H2 := hide h2; have HK2 := hide k2; have HG2 := hide g2; clear h2 k2 g2))
  obtain ⟨q1, q2⟩ := sto11 HG2.out (.int .i64 a) (.int .i64 ((a : Int) + (r.size : Int))) (.int .i64 7) (.int .i64 0) (.int .i64 0) (.bool false) (.slice none 0 0) (.string ⟨#[]⟩) (.slice none 0 0) (.slice none 0 0) (.int .i64 0)
  clear f0 f1 f2 f3 f4 f5 f6 f7 f8 f9 f10 d0 d1 d2 d3 d4 d5 d6 d7 d8 d9 d10
  generalize (((((((((((w2.setCell ⟨w.heap.size, 0, none⟩ (.int .i64 a)).setCell ⟨w.heap.size, 1, none⟩ (.int .i64 ((a : Int) + (r.size : Int)))).setCell ⟨w.heap.size, 2, none⟩ (.int .i64 7)).setCell ⟨w.heap.size, 3, none⟩ (.int .i64 0)).setCell ⟨w.heap.size, 4, none⟩ (.int .i64 0)).setCell ⟨w.heap.size, 5, none⟩ (.bool false)).setCell ⟨w.heap.size, 6, none⟩ (.slice none 0 0)).setCell ⟨w.heap.size, 7, none⟩ (.string ⟨#[]⟩)).setCell ⟨w.heap.size, 8, none⟩ (.slice none 0 0)).setCell ⟨w.heap.size, 9, none⟩ (.slice none 0 0)).setCell ⟨w.heap.size, 10, none⟩ (.int .i64 0)) = W4 at *
  obtain ⟨d0, d1, d2, d3, d4, d5, d6, d7, d8, d9, d10⟩ := cells11 q1
  refine bodyPost_ret (by simp [results, Tryz.results30, go_sem, d0, d1, d2, d3, d4, d5, d6, d7, d8, d9, d10]; rfl) rfl ?_
  obtain ⟨-, uA, hlt, hsz⟩ := HG.out
  exact ⟨by simp [pc0, pcV], ⟨q2.up H2.out.up hsz, H2.out.ge, q2.old (Nat.ne_of_lt hlt) H2.out.cs⟩, Kr.join uA HK2.out q2 (Nat.le_refl _)⟩

end Go.Proofs.YtfplplobhmacoaaGreatDoor
