/-
  What is proved here: package read's letterOf and letter.
-/
import Derived.Test.YteipogfolnlblaaWRY
import Derived.Test.YteipogfolnlblaaWR2
namespace Go.Proofs.Yteipogfolnlblaa
open Go Go.RowKit
/-- The character of that name. -/
def letM (l : List UInt8) : Option Nat :=
  if l.length = 1 then some (l.headD 0).toNat
  else if l = [115, 112, 97, 99, 101] then some 32
  else if l = [110, 101, 119, 108, 105, 110, 101] then some 10
  else if l = [116, 97, 98] then some 9
  else if l = [110, 117, 108] then some 0
  else if Lib.hasPrefix l [120] = true then (if 1 + (hexP (l.drop 1)).2.toNat = l.length then some (hexP (l.drop 1)).1.toNat else none)
  else none

set_option maxHeartbeats 4000000 in
set_option maxRecDepth 100000 in
theorem letterOf_any (r : ByteArray) (w : World) (hr : r.size ≤ 1000000000) :
    Calls Try.prog 54 #[.string r] w fun e w' => (∃ v : Int, e = .returned (.tuple #[.int .i64 v, .bool (letM r.data.toList).isSome]) ∧ ∀ n, letM r.data.toList = some n → v = n) ∧ w' = w := by
  have hlen : r.data.toList.length = r.size := bytes_len r
  have hlist : r.toList = r.data.toList := ByteArray.toList_eq r
  unfold letM
  rw [hlen]
  by_cases b1 : r.size = 1
  · have hI : (r.size : Int) = 1 := by omega
    have h0 : 0 < r.size := by omega
    have e0 : (r.data.toList.headD 0) = r[0] := by
      match hl : r.data.toList with
      | [] => rw [hl] at hlen; simp at hlen; omega
      | c :: l =>
        have : r.data.toList[0]? = some c := by rw [hl]; rfl
        have hh : 0 < r.data.toList.length := by rw [hlen]; omega
        rw [List.getElem?_eq_getElem hh] at this
        simp [ByteArray.getElem_eq_getElem_data] at this ⊢
        exact this.symm
    rw [if_pos b1, e0]
    have hb0 : (r[0].toNat : Int) < 256 := by have := r[0].toNat_lt; omega
    clear e0 hlen hlist
    go_enter Try.func54, Try.ntmps54
    go_wp2_with fail
    refine bodyPost_ret (by simp [results, Try.results54, go_sem]; rfl) rfl ?_
    exact ⟨⟨_, rfl, fun n hn => by cases hn; rfl⟩, rfl⟩
  rw [if_neg b1]
  have hI : ¬ ((r.size : Int) = 1) := by omega
  by_cases b2 : r.data.toList = [115, 112, 97, 99, 101]
  · rw [if_pos b2]
    have q2 : (r.toList == [115, 112, 97, 99, 101]) = true := by rw [hlist, b2]; rfl
    clear hlen hlist b1 b2
    go_enter Try.func54, Try.ntmps54
    go_wp2_with fail
    refine bodyPost_ret (by simp [results, Try.results54, go_sem]; rfl) rfl ?_
    exact ⟨⟨_, rfl, fun n hn => by cases hn; rfl⟩, rfl⟩
  rw [if_neg b2]
  have q2 : (r.toList == [115, 112, 97, 99, 101]) = false := by rw [hlist]; simpa using b2
  by_cases b3 : r.data.toList = [110, 101, 119, 108, 105, 110, 101]
  · rw [if_pos b3]
    have q3 : (r.toList == [110, 101, 119, 108, 105, 110, 101]) = true := by rw [hlist, b3]; rfl
    clear hlen hlist b1 b2 b3
    go_enter Try.func54, Try.ntmps54
    go_wp2_with fail
    refine bodyPost_ret (by simp [results, Try.results54, go_sem]; rfl) rfl ?_
    exact ⟨⟨_, rfl, fun n hn => by cases hn; rfl⟩, rfl⟩
  rw [if_neg b3]
  have q3 : (r.toList == [110, 101, 119, 108, 105, 110, 101]) = false := by rw [hlist]; simpa using b3
  by_cases b4 : r.data.toList = [116, 97, 98]
  · rw [if_pos b4]
    have q4 : (r.toList == [116, 97, 98]) = true := by rw [hlist, b4]; rfl
    clear hlen hlist b1 b2 b3 b4
    go_enter Try.func54, Try.ntmps54
    go_wp2_with fail
    refine bodyPost_ret (by simp [results, Try.results54, go_sem]; rfl) rfl ?_
    exact ⟨⟨_, rfl, fun n hn => by cases hn; rfl⟩, rfl⟩
  rw [if_neg b4]
  have q4 : (r.toList == [116, 97, 98]) = false := by rw [hlist]; simpa using b4
  by_cases b5 : r.data.toList = [110, 117, 108]
  · rw [if_pos b5]
    have q5 : (r.toList == [110, 117, 108]) = true := by rw [hlist, b5]; rfl
    clear hlen hlist b1 b2 b3 b4 b5
    go_enter Try.func54, Try.ntmps54
    go_wp2_with fail
    refine bodyPost_ret (by simp [results, Try.results54, go_sem]; rfl) rfl ?_
    exact ⟨⟨_, rfl, fun n hn => by cases hn; rfl⟩, rfl⟩
  rw [if_neg b5]
  have q5 : (r.toList == [110, 117, 108]) = false := by rw [hlist]; simpa using b5
  have KP := fun (W : World) => prefix_any r ⟨#[120]⟩ W
  rw [show (⟨#[120]⟩ : ByteArray).data.toList = [120] from rfl] at KP
  by_cases b6 : Lib.hasPrefix r.data.toList [120] = true
  · rw [if_pos b6]
    rw [b6] at KP
    have h1r : 1 ≤ r.size := by
      match hl : r.data.toList with
      | [] => rw [hl] at b6; simp [Lib.hasPrefix] at b6
      | _ :: _ => rw [hl] at hlen; simp at hlen; omega
    have KH := fun (W : World) => hexBegin_any (r.extract 1 r.size) W (by simp; omega)
    rw [ext_list r 1 h1r] at KH
    obtain ⟨N, D, eN, hN, hD, hDl⟩ := hexP_nn (r.data.toList.drop 1)
    rw [eN] at KH ⊢
    simp only [Int.toNat_natCast] at KH ⊢
    have HH := hide KH
    have HP := hide KP
    have s3 : (1 : Int) ≤ (r.size : Int) := by omega
    have dI : (D : Int) ≤ 2 := by omega
    by_cases b7 : 1 + D = r.size
    · rw [if_pos b7]
      have dI2 : (1 : Int) + (D : Int) = (r.size : Int) := by omega
      clear hlen hlist b1 b2 b3 b4 b5 b6 KP KH eN hDl hD hN h1r b7
      go_enter Try.func54, Try.ntmps54
      go_wp2_with (first
        | (go_at_call 48; refine (HP.out _).mono ?_; rintro e w1 ⟨rfl, rfl⟩)
        | (go_at_call 76; refine (HH.out _).mono ?_; rintro e w1 ⟨rfl, rfl⟩))
      refine bodyPost_ret (by simp [results, Try.results54, go_sem]; rfl) rfl ?_
      exact ⟨⟨_, rfl, fun n hn => by cases hn; rfl⟩, rfl⟩
    · rw [if_neg b7]
      have dI2 : ¬ ((1 : Int) + (D : Int) = (r.size : Int)) := by omega
      clear hlen hlist b1 b2 b3 b4 b5 b6 KP KH eN hDl hD hN h1r b7
      go_enter Try.func54, Try.ntmps54
      go_wp2_with (first
        | (go_at_call 48; refine (HP.out _).mono ?_; rintro e w1 ⟨rfl, rfl⟩)
        | (go_at_call 76; refine (HH.out _).mono ?_; rintro e w1 ⟨rfl, rfl⟩))
      refine bodyPost_ret (by simp [results, Try.results54, go_sem]; rfl) rfl ?_
      exact ⟨⟨(N : Int), by first | rfl | simp [dI2], fun n hn => by cases hn⟩, rfl⟩
  rw [if_neg b6]
  rw [show Lib.hasPrefix r.data.toList [120] = false from by simpa using b6] at KP
  have HP := hide KP
  clear hlen hlist b1 b2 b3 b4 b5 b6 KP
  go_enter Try.func54, Try.ntmps54
  go_wp2_with (go_at_call 48; refine (HP.out _).mono ?_; rintro e w1 ⟨rfl, rfl⟩)
  refine bodyPost_ret (by simp [results, Try.results54, go_sem]; rfl) rfl ?_
  exact ⟨⟨_, rfl, fun n hn => by cases hn⟩, rfl⟩

/-- The bytes of a piece. -/
def cutL (T : List UInt8) (x y : Nat) : List UInt8 := (T.take y).drop x

theorem ext_cut (t : ByteArray) (x y : Nat) : (t.extract x y).data.toList = cutL t.data.toList x y := by
  rw [ByteArray.data_extract, Array.toList_extract]
  simp only [List.extract_eq_take_drop, cutL]
  rw [List.drop_take]

def letP (T : List UInt8) (x y a : Nat) : LP :=
  match letM ((cutL T x y).drop 2) with
  | none => ftP x 14 a
  | some n => ⟨x, y, 10, 3, n, ⟨#[]⟩, 0, a⟩

set_option maxHeartbeats 8000000 in
set_option maxRecDepth 100000 in
theorem letter_P (w0 : World) (rb : Nat) (t : ByteArray) (a d x y : Nat) (k : Int) (w : World) (h : RS w0 rb t a d w) (hxy : x + 2 ≤ y) (hy : y ≤ t.size) (ht : t.size ≤ 100000000) :
    Calls Try.prog 31 #[.pointer (some ⟨rb, 0, none⟩), pc0 x y k] w fun e w' => e = .returned (pcP (letP t.data.toList x y a)) ∧ RS w0 rb t (letP t.data.toList x y a).a d w' ∧ Kr rb w w' := by
  have u1 := up_alloc w (.cells #[.int .i64 x, .int .i64 y, .int .i64 k, .int .i64 0, .int .i64 0, .bool false, .slice none 0 0, .string ⟨#[]⟩, .slice none 0 0, .slice none 0 0, .int .i64 0] 53)
  have g1 := heap_alloc_new w (.cells #[.int .i64 x, .int .i64 y, .int .i64 k, .int .i64 0, .int .i64 0, .bool false, .slice none 0 0, .string ⟨#[]⟩, .slice none 0 0, .slice none 0 0, .int .i64 0] 53)
  have z1 : (w.alloc (.cells #[.int .i64 x, .int .i64 y, .int .i64 k, .int .i64 0, .int .i64 0, .bool false, .slice none 0 0, .string ⟨#[]⟩, .slice none 0 0, .slice none 0 0, .int .i64 0] 53)).heap.size = w.heap.size + 1 := World.size_alloc _ _
  obtain ⟨W1, hW1⟩ : ∃ W1, W1 = w.alloc (.cells #[.int .i64 x, .int .i64 y, .int .i64 k, .int .i64 0, .int .i64 0, .bool false, .slice none 0 0, .string ⟨#[]⟩, .slice none 0 0, .slice none 0 0, .int .i64 0] 53) := ⟨_, rfl⟩
  rw [← hW1] at u1 g1 z1
  have u2 := up_alloc W1 zer11
  have g2 : (W1.alloc zer11).heap[w.heap.size + 1]? = some zer11 := by rw [← z1]; exact heap_alloc_new W1 zer11
  have g1' := u2.old g1
  have uB := u1.tr u2
  have h2 : RS w0 rb t a d (W1.alloc zer11) := h.more5 uB
  have KB := bytes_any w0 rb t a d x y k _ h2 (by omega) hy
  have hrs : (t.extract x y).size = y - x := by rw [ByteArray.size_extract]; omega
  have h3 : 2 ≤ (t.extract x y).size := by omega
  have h3I : (2 : Int) ≤ ((t.extract x y).size : Int) := by omega
  have e2 := ext_list (t.extract x y) 2 h3
  rw [ext_cut t x y] at e2
  have KL := fun (W : World) => letterOf_any ((t.extract x y).extract 2 (t.extract x y).size) W (by simp; omega)
  rw [e2] at KL
  unfold letP
  have hlt : rb < w.heap.size := h.lt
  have hsz : w0.heap.size ≤ w.heap.size := h.up.size
  have HB := hide KB
  have HG := hide (And.intro g1' (And.intro g2 (And.intro uB (And.intro hlt (And.intro hsz h2)))))
  rw [hW1] at HB HG
  unfold zer11 at HB HG
  match hm : letM ((cutL t.data.toList x y).drop 2) with
  | none =>
    rw [hm] at KL
    simp only [Option.isSome_none] at KL
    have HL := hide KL
    have KF := fun (W : World) => fault_any x 14 W
    have HF := hide KF
    show Calls _ _ _ _ (fun e w' => e = .returned (pcP (ftP x 14 a)) ∧ RS w0 rb t (ftP x 14 a).a d w' ∧ Kr rb w w')
    clear KB KL KF h u1 g1 z1 u2 g2 g1' uB h2 e2 hm hrs hlt hsz
    clear hW1 W1
    unfold pc0 pcV at *
    generalize t.extract x y = r at *
    go_enter Try.func31, Try.ntmps31
    go_wp2_with (first
      | (go_at_call 55; refine HB.out.mono ?_; rintro e w3 ⟨rfl, u3⟩; have b3 := u3.old HG.out.1; obtain ⟨d0, d1, d2, d3, d4, d5, d6, d7, d8, d9, d10⟩ := cells11 b3; have HU3 := hide u3; clear u3 b3)
      | (go_at_call 54; refine (HL.out _).mono ?_; rintro e w4 ⟨⟨v4, rfl, -⟩, rfl⟩)
      | (go_at_call 28; refine (HF.out _).mono ?_; rintro e w5 ⟨rfl, u5⟩; clear d0 d1 d2 d3 d4 d5 d6 d7 d8 d9 d10; have g5 := u5.old (HU3.out.old HG.out.2.1); obtain ⟨f0, f1, f2, f3, f4, f5, f6, f7, f8, f9, f10⟩ := frozen11 g5; obtain ⟨d0, d1, d2, d3, d4, d5, d6, d7, d8, d9, d10⟩ := cells11 g5; have HU5 := hide u5; have HG5 := hide g5; clear u5 g5))
    obtain ⟨q1, q2⟩ := sto11 HG5.out (.int .i64 (x : Int)) (.int .i64 (x : Int)) (.int .i64 11) (.int .i64 0) (.int .i64 0) (.bool false) (.slice none 0 0) (.string ⟨#[]⟩) (.slice none 0 0) (.slice none 0 0) (.int .i64 14)
    clear f0 f1 f2 f3 f4 f5 f6 f7 f8 f9 f10 d0 d1 d2 d3 d4 d5 d6 d7 d8 d9 d10
    generalize (((((((((((w5.setCell ⟨(w.heap.size + 1), 0, none⟩ (.int .i64 (x : Int))).setCell ⟨(w.heap.size + 1), 1, none⟩ (.int .i64 (x : Int))).setCell ⟨(w.heap.size + 1), 2, none⟩ (.int .i64 11)).setCell ⟨(w.heap.size + 1), 3, none⟩ (.int .i64 0)).setCell ⟨(w.heap.size + 1), 4, none⟩ (.int .i64 0)).setCell ⟨(w.heap.size + 1), 5, none⟩ (.bool false)).setCell ⟨(w.heap.size + 1), 6, none⟩ (.slice none 0 0)).setCell ⟨(w.heap.size + 1), 7, none⟩ (.string ⟨#[]⟩)).setCell ⟨(w.heap.size + 1), 8, none⟩ (.slice none 0 0)).setCell ⟨(w.heap.size + 1), 9, none⟩ (.slice none 0 0)).setCell ⟨(w.heap.size + 1), 10, none⟩ (.int .i64 14)) = W6 at *
    obtain ⟨d0, d1, d2, d3, d4, d5, d6, d7, d8, d9, d10⟩ := cells11 q1
    refine bodyPost_ret (by simp [results, Try.results31, go_sem, d0, d1, d2, d3, d4, d5, d6, d7, d8, d9, d10]; rfl) rfl ?_
    obtain ⟨-, -, uB, hlt, hsz, h2⟩ := HG.out
    have h5 := h2.more5 (HU3.out.tr HU5.out)
    exact ⟨by simp [pcP, pcV, ftP], ⟨q2.up h5.up (by omega), h5.ge, q2.old (by omega) h5.cs⟩, Kr.join uB (Kr.of_up (HU3.out.tr HU5.out)) q2 (by omega)⟩
  | some n =>
    rw [hm] at KL
    simp only [Option.isSome_some] at KL
    have HL := hide KL
    have KM := fun (W : World) => made_any x y 3 n false ⟨#[]⟩ none none none 0 0 0 0 0 0 W
    have HM := hide KM
    show Calls _ _ _ _ (fun e w' => e = .returned (pcP ⟨x, y, 10, 3, n, ⟨#[]⟩, 0, a⟩) ∧ RS w0 rb t a d w' ∧ Kr rb w w')
    clear KB KL KM h u1 g1 z1 u2 g2 g1' uB h2 e2 hm hrs hlt hsz
    clear hW1 W1
    unfold pc0 pcV at *
    generalize t.extract x y = r at *
    go_enter Try.func31, Try.ntmps31
    go_wp2_with (first
      | (go_at_call 55; refine HB.out.mono ?_; rintro e w3 ⟨rfl, u3⟩; have b3 := u3.old HG.out.1; obtain ⟨d0, d1, d2, d3, d4, d5, d6, d7, d8, d9, d10⟩ := cells11 b3; have HU3 := hide u3; clear u3 b3)
      | (go_at_call 54; refine (HL.out _).mono ?_; rintro e w4 ⟨⟨v4, rfl, h4⟩, rfl⟩; replace h4 := h4 n rfl; subst h4)
      | (go_at_call 52; refine (HM.out _).mono ?_; rintro e w5 ⟨rfl, u5⟩; clear d0 d1 d2 d3 d4 d5 d6 d7 d8 d9 d10; have g5 := u5.old (HU3.out.old HG.out.2.1); obtain ⟨f0, f1, f2, f3, f4, f5, f6, f7, f8, f9, f10⟩ := frozen11 g5; obtain ⟨d0, d1, d2, d3, d4, d5, d6, d7, d8, d9, d10⟩ := cells11 g5; have HU5 := hide u5; have HG5 := hide g5; clear u5 g5))
    obtain ⟨q1, q2⟩ := sto11 HG5.out (.int .i64 (x : Int)) (.int .i64 (y : Int)) (.int .i64 10) (.int .i64 3) (.int .i64 (n : Int)) (.bool false) (.slice none 0 0) (.string ⟨#[]⟩) (.slice none 0 0) (.slice none 0 0) (.int .i64 0)
    clear f0 f1 f2 f3 f4 f5 f6 f7 f8 f9 f10 d0 d1 d2 d3 d4 d5 d6 d7 d8 d9 d10
    generalize (((((((((((w5.setCell ⟨(w.heap.size + 1), 0, none⟩ (.int .i64 (x : Int))).setCell ⟨(w.heap.size + 1), 1, none⟩ (.int .i64 (y : Int))).setCell ⟨(w.heap.size + 1), 2, none⟩ (.int .i64 10)).setCell ⟨(w.heap.size + 1), 3, none⟩ (.int .i64 3)).setCell ⟨(w.heap.size + 1), 4, none⟩ (.int .i64 (n : Int))).setCell ⟨(w.heap.size + 1), 5, none⟩ (.bool false)).setCell ⟨(w.heap.size + 1), 6, none⟩ (.slice none 0 0)).setCell ⟨(w.heap.size + 1), 7, none⟩ (.string ⟨#[]⟩)).setCell ⟨(w.heap.size + 1), 8, none⟩ (.slice none 0 0)).setCell ⟨(w.heap.size + 1), 9, none⟩ (.slice none 0 0)).setCell ⟨(w.heap.size + 1), 10, none⟩ (.int .i64 0)) = W6 at *
    obtain ⟨d0, d1, d2, d3, d4, d5, d6, d7, d8, d9, d10⟩ := cells11 q1
    refine bodyPost_ret (by simp [results, Try.results31, go_sem, d0, d1, d2, d3, d4, d5, d6, d7, d8, d9, d10]; rfl) rfl ?_
    obtain ⟨-, -, uB, hlt, hsz, h2⟩ := HG.out
    have h5 := h2.more5 (HU3.out.tr HU5.out)
    exact ⟨by simp [pcP, pcV], ⟨q2.up h5.up (by omega), h5.ge, q2.old (by omega) h5.cs⟩, Kr.join uB (Kr.of_up (HU3.out.tr HU5.out)) q2 (by omega)⟩

end Go.Proofs.Yteipogfolnlblaa
