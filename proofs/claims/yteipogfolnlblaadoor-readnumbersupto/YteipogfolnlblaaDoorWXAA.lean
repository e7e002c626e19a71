/-
  What is proved here: package read's letterOf and letter. what comes of reading a datum; package read's atom.
-/
import Derived.Test.YteipogfolnlblaaDoorWRY
import Derived.Test.YteipogfolnlblaaDoorWR2
import Derived.Test.YteipogfolnlblaaDoorWXE
import Derived.Test.YteipogfolnlblaaDoorWRZ
namespace Go.Proofs.YteipogfolnlblaaDoor
open Go Go.RowKit

/-- The character of that name. -/
def letM (l : List UInt8) : Option Nat :=
  if l.length = 1 then some (l.headD 0).toNat
  else if l = [115, 112, 97, 99, 101] then some 32
  else if l = [110, 101, 119, 108, 105, 110, 101] then some 10
  else if l = [116, 97, 98] then some 9
  else if l = [110, 117, 108] then some 0
  else if Lib.hasPrefix l [120] = true then (if 1 + (hexP (l.drop 1)).2.toNat = l.length then some (hexP (l.drop 1)).1.toNat else none)
  else none

set_option maxHeartbeats 4000000 in
set_option maxRecDepth 100000 in
theorem letterOf_any (r : ByteArray) (w : World) (hr : r.size ≤ 1000000000) :
    Calls Tryd.prog 37 #[.string r] w fun e w' => (∃ v : Int, e = .returned (.tuple #[.int .i64 v, .bool (letM r.data.toList).isSome]) ∧ ∀ n, letM r.data.toList = some n → v = n) ∧ w' = w := by
  have hlen : r.data.toList.length = r.size := bytes_len r
  have hlist : r.toList = r.data.toList := ByteArray.toList_eq r
  unfold letM
  rw [hlen]
  by_cases b1 : r.size = 1
  · have hI : (r.size : Int) = 1 := by omega
    have h0 : 0 < r.size := by omega
    have e0 : (r.data.toList.headD 0) = r[0] := by
      match hl : r.data.toList with
      | [] => rw [hl] at hlen; simp at hlen; omega
      | c :: l =>
        have : r.data.toList[0]? = some c := by rw [hl]; rfl
        have hh : 0 < r.data.toList.length := by rw [hlen]; omega
        rw [List.getElem?_eq_getElem hh] at this
        simp [ByteArray.getElem_eq_getElem_data] at this ⊢
        exact this.symm
    rw [if_pos b1, e0]
    have hb0 : (r[0].toNat : Int) < 256 := by have := r[0].toNat_lt; omega
    clear e0 hlen hlist
    go_enter Tryd.func37, Tryd.ntmps37
    go_wp2_with fail
    refine bodyPost_ret (by simp [results, Tryd.results37, go_sem]; rfl) rfl ?_
    exact ⟨⟨_, rfl, fun n hn => by cases hn; rfl⟩, rfl⟩
  rw [if_neg b1]
  have hI : ¬ ((r.size : Int) = 1) := by omega
  by_cases b2 : r.data.toList = [115, 112, 97, 99, 101]
  · rw [if_pos b2]
    have q2 : (r.toList == [115, 112, 97, 99, 101]) = true := by rw [hlist, b2]; rfl
    clear hlen hlist b1 b2
    go_enter Tryd.func37, Tryd.ntmps37
    go_wp2_with fail
    refine bodyPost_ret (by simp [results, Tryd.results37, go_sem]; rfl) rfl ?_
    exact ⟨⟨_, rfl, fun n hn => by cases hn; rfl⟩, rfl⟩
  rw [if_neg b2]
  have q2 : (r.toList == [115, 112, 97, 99, 101]) = false := by rw [hlist]; simpa using b2
  by_cases b3 : r.data.toList = [110, 101, 119, 108, 105, 110, 101]
  · rw [if_pos b3]
    have q3 : (r.toList == [110, 101, 119, 108, 105, 110, 101]) = true := by rw [hlist, b3]; rfl
    clear hlen hlist b1 b2 b3
    go_enter Tryd.func37, Tryd.ntmps37
    go_wp2_with fail
    refine bodyPost_ret (by simp [results, Tryd.results37, go_sem]; rfl) rfl ?_
    exact ⟨⟨_, rfl, fun n hn => by cases hn; rfl⟩, rfl⟩
  rw [if_neg b3]
  have q3 : (r.toList == [110, 101, 119, 108, 105, 110, 101]) = false := by rw [hlist]; simpa using b3
  by_cases b4 : r.data.toList = [116, 97, 98]
  · rw [if_pos b4]
    have q4 : (r.toList == [116, 97, 98]) = true := by rw [hlist, b4]; rfl
    clear hlen hlist b1 b2 b3 b4
    go_enter Tryd.func37, Tryd.ntmps37
    go_wp2_with fail
    refine bodyPost_ret (by simp [results, Tryd.results37, go_sem]; rfl) rfl ?_
    exact ⟨⟨_, rfl, fun n hn => by cases hn; rfl⟩, rfl⟩
  rw [if_neg b4]
  have q4 : (r.toList == [116, 97, 98]) = false := by rw [hlist]; simpa using b4
  by_cases b5 : r.data.toList = [110, 117, 108]
  · rw [if_pos b5]
    have q5 : (r.toList == [110, 117, 108]) = true := by rw [hlist, b5]; rfl
    clear hlen hlist b1 b2 b3 b4 b5
    go_enter Tryd.func37, Tryd.ntmps37
    go_wp2_with fail
    refine bodyPost_ret (by simp [results, Tryd.results37, go_sem]; rfl) rfl ?_
    exact ⟨⟨_, rfl, fun n hn => by cases hn; rfl⟩, rfl⟩
  rw [if_neg b5]
  have q5 : (r.toList == [110, 117, 108]) = false := by rw [hlist]; simpa using b5
  have KP := fun (W : World) => prefix_any r ⟨#[120]⟩ W
  rw [show (⟨#[120]⟩ : ByteArray).data.toList = [120] from rfl] at KP
  by_cases b6 : Lib.hasPrefix r.data.toList [120] = true
  · rw [if_pos b6]
    rw [b6] at KP
    have h1r : 1 ≤ r.size := by
      match hl : r.data.toList with
      | [] => rw [hl] at b6; simp [Lib.hasPrefix] at b6
      | _ :: _ => rw [hl] at hlen; simp at hlen; omega
    have KH := fun (W : World) => hexBegin_any (r.extract 1 r.size) W (by simp; omega)
    rw [ext_list r 1 h1r] at KH
    obtain ⟨N, D, eN, hN, hD, hDl⟩ := hexP_nn (r.data.toList.drop 1)
    rw [eN] at KH ⊢
    simp only [Int.toNat_natCast] at KH ⊢
    have HH := hide KH
    have HP := hide KP
    have s3 : (1 : Int) ≤ (r.size : Int) := by omega
    have dI : (D : Int) ≤ 2 := by omega
    by_cases b7 : 1 + D = r.size
    · rw [if_pos b7]
      have dI2 : (1 : Int) + (D : Int) = (r.size : Int) := by omega
      clear hlen hlist b1 b2 b3 b4 b5 b6 KP KH eN hDl hD hN h1r b7
      go_enter Tryd.func37, Tryd.ntmps37
      go_wp2_with (first
        | (go_at_call 42; refine (HP.out _).mono ?_; rintro e w1 ⟨rfl, rfl⟩)
        | (go_at_call 55; refine (HH.out _).mono ?_; rintro e w1 ⟨rfl, rfl⟩))
      refine bodyPost_ret (by simp [results, Tryd.results37, go_sem]; rfl) rfl ?_
      exact ⟨⟨_, rfl, fun n hn => by cases hn; rfl⟩, rfl⟩
    · rw [if_neg b7]
      have dI2 : ¬ ((1 : Int) + (D : Int) = (r.size : Int)) := by omega
      clear hlen hlist b1 b2 b3 b4 b5 b6 KP KH eN hDl hD hN h1r b7
      go_enter Tryd.func37, Tryd.ntmps37
      go_wp2_with (first
        | (go_at_call 42; refine (HP.out _).mono ?_; rintro e w1 ⟨rfl, rfl⟩)
        | (go_at_call 55; refine (HH.out _).mono ?_; rintro e w1 ⟨rfl, rfl⟩))
      refine bodyPost_ret (by simp [results, Tryd.results37, go_sem]; rfl) rfl ?_
      exact ⟨⟨(N : Int), by first | rfl | simp [dI2], fun n hn => by cases hn⟩, rfl⟩
  rw [if_neg b6]
  rw [show Lib.hasPrefix r.data.toList [120] = false from by simpa using b6] at KP
  have HP := hide KP
  clear hlen hlist b1 b2 b3 b4 b5 b6 KP
  go_enter Tryd.func37, Tryd.ntmps37
  go_wp2_with (go_at_call 42; refine (HP.out _).mono ?_; rintro e w1 ⟨rfl, rfl⟩)
  refine bodyPost_ret (by simp [results, Tryd.results37, go_sem]; rfl) rfl ?_
  exact ⟨⟨_, rfl, fun n hn => by cases hn⟩, rfl⟩

/-- The bytes of a piece. -/
def cutL (T : List UInt8) (x y : Nat) : List UInt8 := (T.take y).drop x

theorem ext_cut (t : ByteArray) (x y : Nat) : (t.extract x y).data.toList = cutL t.data.toList x y := by
  rw [ByteArray.data_extract, Array.toList_extract]
  simp only [List.extract_eq_take_drop, cutL]
  rw [List.drop_take]

def letP (T : List UInt8) (x y a : Nat) : LP :=
  match letM ((cutL T x y).drop 2) with
  | none => ftP x 14 a
  | some n => ⟨x, y, 10, 3, n, ⟨#[]⟩, 0, a⟩

set_option maxHeartbeats 8000000 in
set_option maxRecDepth 100000 in
theorem letter_P (w0 : World) (rb : Nat) (t : ByteArray) (a d x y : Nat) (k : Int) (w : World) (h : RS w0 rb t a d w) (hxy : x + 2 ≤ y) (hy : y ≤ t.size) (ht : t.size ≤ 100000000) :
    Calls Tryd.prog 25 #[.pointer (some ⟨rb, 0, none⟩), pc0 x y k] w fun e w' => e = .returned (pcP (letP t.data.toList x y a)) ∧ RS w0 rb t (letP t.data.toList x y a).a d w' ∧ Kr rb w w' := by
  have u1 := up_alloc w (.cells #[.int .i64 x, .int .i64 y, .int .i64 k, .int .i64 0, .int .i64 0, .bool false, .slice none 0 0, .string ⟨#[]⟩, .slice none 0 0, .slice none 0 0, .int .i64 0] 50)
  have g1 := heap_alloc_new w (.cells #[.int .i64 x, .int .i64 y, .int .i64 k, .int .i64 0, .int .i64 0, .bool false, .slice none 0 0, .string ⟨#[]⟩, .slice none 0 0, .slice none 0 0, .int .i64 0] 50)
  have z1 : (w.alloc (.cells #[.int .i64 x, .int .i64 y, .int .i64 k, .int .i64 0, .int .i64 0, .bool false, .slice none 0 0, .string ⟨#[]⟩, .slice none 0 0, .slice none 0 0, .int .i64 0] 50)).heap.size = w.heap.size + 1 := World.size_alloc _ _
  obtain ⟨W1, hW1⟩ : ∃ W1, W1 = w.alloc (.cells #[.int .i64 x, .int .i64 y, .int .i64 k, .int .i64 0, .int .i64 0, .bool false, .slice none 0 0, .string ⟨#[]⟩, .slice none 0 0, .slice none 0 0, .int .i64 0] 50) := ⟨_, rfl⟩
  rw [← hW1] at u1 g1 z1
  have u2 := up_alloc W1 zer11
  have g2 : (W1.alloc zer11).heap[w.heap.size + 1]? = some zer11 := by rw [← z1]; exact heap_alloc_new W1 zer11
  have g1' := u2.old g1
  have uB := u1.tr u2
  have h2 : RS w0 rb t a d (W1.alloc zer11) := h.more5 uB
  have KB := bytes_any w0 rb t a d x y k _ h2 (by omega) hy
  have hrs : (t.extract x y).size = y - x := by rw [ByteArray.size_extract]; omega
  have h3 : 2 ≤ (t.extract x y).size := by omega
  have h3I : (2 : Int) ≤ ((t.extract x y).size : Int) := by omega
  have e2 := ext_list (t.extract x y) 2 h3
  rw [ext_cut t x y] at e2
  have KL := fun (W : World) => letterOf_any ((t.extract x y).extract 2 (t.extract x y).size) W (by simp; omega)
  rw [e2] at KL
  unfold letP
  have hlt : rb < w.heap.size := h.lt
  have hsz : w0.heap.size ≤ w.heap.size := h.up.size
  have HB := hide KB
  have HG := hide (And.intro g1' (And.intro g2 (And.intro uB (And.intro hlt (And.intro hsz h2)))))
  rw [hW1] at HB HG
  unfold zer11 at HB HG
  match hm : letM ((cutL t.data.toList x y).drop 2) with
  | none =>
    rw [hm] at KL
    simp only [Option.isSome_none] at KL
    have HL := hide KL
    have KF := fun (W : World) => fault_any x 14 W
    have HF := hide KF
    show Calls _ _ _ _ (fun e w' => e = .returned (pcP (ftP x 14 a)) ∧ RS w0 rb t (ftP x 14 a).a d w' ∧ Kr rb w w')
    clear KB KL KF h u1 g1 z1 u2 g2 g1' uB h2 e2 hm hrs hlt hsz
    clear hW1 W1
    unfold pc0 pcV at *
    generalize t.extract x y = r at *
    go_enter Tryd.func25, Tryd.ntmps25
    go_wp2_with (first
      | (go_at_call 38; refine HB.out.mono ?_; rintro e w3 ⟨rfl, u3⟩; have b3 := u3.old HG.out.1; obtain ⟨d0, d1, d2, d3, d4, d5, d6, d7, d8, d9, d10⟩ := cells11 b3; have HU3 := hide u3; clear u3 b3)
      | (go_at_call 37; refine (HL.out _).mono ?_; rintro e w4 ⟨⟨v4, rfl, -⟩, rfl⟩)
      | (go_at_call 22; refine (HF.out _).mono ?_; rintro e w5 ⟨rfl, u5⟩; clear d0 d1 d2 d3 d4 d5 d6 d7 d8 d9 d10; have g5 := u5.old (HU3.out.old HG.out.2.1); obtain ⟨f0, f1, f2, f3, f4, f5, f6, f7, f8, f9, f10⟩ := frozen11 g5; obtain ⟨d0, d1, d2, d3, d4, d5, d6, d7, d8, d9, d10⟩ := cells11 g5; have HU5 := hide u5; have HG5 := hide g5; clear u5 g5))
    obtain ⟨q1, q2⟩ := sto11 HG5.out (.int .i64 (x : Int)) (.int .i64 (x : Int)) (.int .i64 11) (.int .i64 0) (.int .i64 0) (.bool false) (.slice none 0 0) (.string ⟨#[]⟩) (.slice none 0 0) (.slice none 0 0) (.int .i64 14)
    clear f0 f1 f2 f3 f4 f5 f6 f7 f8 f9 f10 d0 d1 d2 d3 d4 d5 d6 d7 d8 d9 d10
    generalize (((((((((((w5.setCell ⟨(w.heap.size + 1), 0, none⟩ (.int .i64 (x : Int))).setCell ⟨(w.heap.size + 1), 1, none⟩ (.int .i64 (x : Int))).setCell ⟨(w.heap.size + 1), 2, none⟩ (.int .i64 11)).setCell ⟨(w.heap.size + 1), 3, none⟩ (.int .i64 0)).setCell ⟨(w.heap.size + 1), 4, none⟩ (.int .i64 0)).setCell ⟨(w.heap.size + 1), 5, none⟩ (.bool false)).setCell ⟨(w.heap.size + 1), 6, none⟩ (.slice none 0 0)).setCell ⟨(w.heap.size + 1), 7, none⟩ (.string ⟨#[]⟩)).setCell ⟨(w.heap.size + 1), 8, none⟩ (.slice none 0 0)).setCell ⟨(w.heap.size + 1), 9, none⟩ (.slice none 0 0)).setCell ⟨(w.heap.size + 1), 10, none⟩ (.int .i64 14)) = W6 at *
    obtain ⟨d0, d1, d2, d3, d4, d5, d6, d7, d8, d9, d10⟩ := cells11 q1
    refine bodyPost_ret (by simp [results, Tryd.results25, go_sem, d0, d1, d2, d3, d4, d5, d6, d7, d8, d9, d10]; rfl) rfl ?_
    obtain ⟨-, -, uB, hlt, hsz, h2⟩ := HG.out
    have h5 := h2.more5 (HU3.out.tr HU5.out)
    exact ⟨by simp [pcP, pcV, ftP], ⟨q2.up h5.up (by omega), h5.ge, q2.old (by omega) h5.cs⟩, Kr.join uB (Kr.of_up (HU3.out.tr HU5.out)) q2 (by omega)⟩
  | some n =>
    rw [hm] at KL
    simp only [Option.isSome_some] at KL
    have HL := hide KL
    have KM := fun (W : World) => made_any x y 3 n false ⟨#[]⟩ none none none 0 0 0 0 0 0 W
    have HM := hide KM
    show Calls _ _ _ _ (fun e w' => e = .returned (pcP ⟨x, y, 10, 3, n, ⟨#[]⟩, 0, a⟩) ∧ RS w0 rb t a d w' ∧ Kr rb w w')
    clear KB KL KM h u1 g1 z1 u2 g2 g1' uB h2 e2 hm hrs hlt hsz
    clear hW1 W1
    unfold pc0 pcV at *
    generalize t.extract x y = r at *
    go_enter Tryd.func25, Tryd.ntmps25
    go_wp2_with (first
      | (go_at_call 38; refine HB.out.mono ?_; rintro e w3 ⟨rfl, u3⟩; have b3 := u3.old HG.out.1; obtain ⟨d0, d1, d2, d3, d4, d5, d6, d7, d8, d9, d10⟩ := cells11 b3; have HU3 := hide u3; clear u3 b3)
      | (go_at_call 37; refine (HL.out _).mono ?_; rintro e w4 ⟨⟨v4, rfl, h4⟩, rfl⟩; replace h4 := h4 n rfl; subst h4)
      | (go_at_call 35; refine (HM.out _).mono ?_; rintro e w5 ⟨rfl, u5⟩; clear d0 d1 d2 d3 d4 d5 d6 d7 d8 d9 d10; have g5 := u5.old (HU3.out.old HG.out.2.1); obtain ⟨f0, f1, f2, f3, f4, f5, f6, f7, f8, f9, f10⟩ := frozen11 g5; obtain ⟨d0, d1, d2, d3, d4, d5, d6, d7, d8, d9, d10⟩ := cells11 g5; have HU5 := hide u5; have HG5 := hide g5; clear u5 g5))
    obtain ⟨q1, q2⟩ := sto11 HG5.out (.int .i64 (x : Int)) (.int .i64 (y : Int)) (.int .i64 10) (.int .i64 3) (.int .i64 (n : Int)) (.bool false) (.slice none 0 0) (.string ⟨#[]⟩) (.slice none 0 0) (.slice none 0 0) (.int .i64 0)
    clear f0 f1 f2 f3 f4 f5 f6 f7 f8 f9 f10 d0 d1 d2 d3 d4 d5 d6 d7 d8 d9 d10
    generalize (((((((((((w5.setCell ⟨(w.heap.size + 1), 0, none⟩ (.int .i64 (x : Int))).setCell ⟨(w.heap.size + 1), 1, none⟩ (.int .i64 (y : Int))).setCell ⟨(w.heap.size + 1), 2, none⟩ (.int .i64 10)).setCell ⟨(w.heap.size + 1), 3, none⟩ (.int .i64 3)).setCell ⟨(w.heap.size + 1), 4, none⟩ (.int .i64 (n : Int))).setCell ⟨(w.heap.size + 1), 5, none⟩ (.bool false)).setCell ⟨(w.heap.size + 1), 6, none⟩ (.slice none 0 0)).setCell ⟨(w.heap.size + 1), 7, none⟩ (.string ⟨#[]⟩)).setCell ⟨(w.heap.size + 1), 8, none⟩ (.slice none 0 0)).setCell ⟨(w.heap.size + 1), 9, none⟩ (.slice none 0 0)).setCell ⟨(w.heap.size + 1), 10, none⟩ (.int .i64 0)) = W6 at *
    obtain ⟨d0, d1, d2, d3, d4, d5, d6, d7, d8, d9, d10⟩ := cells11 q1
    refine bodyPost_ret (by simp [results, Tryd.results25, go_sem, d0, d1, d2, d3, d4, d5, d6, d7, d8, d9, d10]; rfl) rfl ?_
    obtain ⟨-, -, uB, hlt, hsz, h2⟩ := HG.out
    have h5 := h2.more5 (HU3.out.tr HU5.out)
    exact ⟨by simp [pcP, pcV], ⟨q2.up h5.up (by omega), h5.ge, q2.old (by omega) h5.cs⟩, Kr.join uB (Kr.of_up (HU3.out.tr HU5.out)) q2 (by omega)⟩

/-- A datum that is wrong, or one from x to y, behind which the reader is at a. -/
abbrev RD (h : Nat) : Type := LP ⊕ (Nat × Nat × Tr h × Nat)

def DPost (w0 : World) (rb : Nat) (t : ByteArray) (d : Nat) (w : World) {h : Nat} (R : RD h) (e : Ending) (w' : World) : Prop :=
  Kr rb w w' ∧ match R with
    | .inl q => e = .returned (pcP q) ∧ q.k = 11 ∧ RS w0 rb t q.a d w'
    | .inr (x, y, tr, a) => ∃ (k n : Int) (b : Bool) (m1 : Option Addr) (m2 m3 : Nat) (s : ByteArray) (i1 : Option Addr) (i2 i3 : Nat) (r1 : Option Addr) (r2 r3 : Nat),
        e = .returned (pcV x y 10 (.int .i64 k) (.int .i64 n) (.bool b) (.slice m1 m2 m3) (.string s) (.slice i1 i2 i3) (.slice r1 r2 r3) 0) ∧
        DatQ (fun g => w.heap.size ≤ g) w' h tr [.int .i64 k, .int .i64 n, .bool b, .slice m1 m2 m3, .string s, .slice i1 i2 i3, .slice r1 r2 r3] ∧ RS w0 rb t a d w'

def lfT (h : Nat) (x : Lf) : Tr (h + 1) := (x.k, x.n, x.b, x.L, x.s, [], [])

theorem lfT_dat {Q : Nat → Prop} {w : World} {h : Nat} {x : Lf} {m1 : Option Addr} {m2 m3 : Nat} (hn : -9223372036854775808 ≤ x.n ∧ x.n ≤ 9223372036854775807) (h1 : Sl .u32 w (.slice m1 m2 m3) x.L.length (fun i => x.L.getD i 0)) (h2 : ∀ i, i < x.L.length → x.L.getD i 0 < 4294967296) (h3 : VQ Q (.slice m1 m2 m3) x.L.length) :
    DatQ Q w (h + 1) (lfT h x) [.int .i64 x.k, .int .i64 x.n, .bool x.b, .slice m1 m2 m3, .string x.s, .slice none 0 0, .slice none 0 0] :=
  ⟨_, _, _, rfl, hn, h1, h2, RowD.nil' _ _, RowD.nil' _ _, h3, .inl rfl, .inl rfl⟩

def ofLP (h : Nat) (q : LP) : RD (h + 1) := if q.k = 11 then .inl q else .inr (q.x, q.y, (lfT h ⟨q.dk, q.n, false, [], q.s⟩), q.a)

theorem ofLP_post {w0 : World} {rb : Nat} {t : ByteArray} {d : Nat} {w : World} {h : Nat} {q : LP} {e : Ending} {w' : World} (he : e = .returned (pcP q)) (hs : RS w0 rb t q.a d w') (hk : Kr rb w w') (hq : q.k = 11 ∨ (q.k = 10 ∧ q.er = 0 ∧ q.n ≤ 256)) : DPost w0 rb t d w (ofLP h q) e w' := by
  refine ⟨hk, ?_⟩
  unfold ofLP
  by_cases h1 : q.k = 11
  · rw [if_pos h1]; exact ⟨he, h1, hs⟩
  · rw [if_neg h1]
    rcases hq with h2 | ⟨h2, h3, h4⟩
    · exact absurd h2 h1
    · refine ⟨q.dk, q.n, false, none, 0, 0, q.s, none, 0, 0, none, 0, 0, ?_, ?_, hs⟩
      · rw [he]; unfold pcP; rw [h2, h3]; rfl
      · exact lfT_dat (by show (-9223372036854775808 : Int) ≤ (q.n : Int) ∧ (q.n : Int) ≤ 9223372036854775807; omega) (sl_nil _) (fun i hi => by simp at hi) (.inl rfl)

theorem letM_le (l : List UInt8) (n : Nat) (h : letM l = some n) : n ≤ 256 := by
  unfold letM at h
  split at h
  · cases h; have := (l.headD 0).toNat_lt; omega
  split at h
  · cases h; decide
  split at h
  · cases h; decide
  split at h
  · cases h; decide
  split at h
  · cases h; decide
  split at h
  · obtain ⟨N, D, eN, hN, -⟩ := hexP_nn (l.drop 1)
    rw [eN] at h
    split at h
    · cases h; simp; omega
    · cases h
  · cases h

theorem letP_ok (T : List UInt8) (x y a : Nat) : (letP T x y a).k = 11 ∨ ((letP T x y a).k = 10 ∧ (letP T x y a).er = 0 ∧ (letP T x y a).n ≤ 256) := by
  unfold letP
  split
  · exact .inl rfl
  · rename_i n hn
    exact .inr ⟨rfl, rfl, letM_le _ _ hn⟩

theorem quoP_ok (T : List UInt8) (x : Nat) : ∀ (f a : Nat) (acc : List UInt8), ((quoP T x f a acc).k = 11 ∧ (quoP T x f a acc).a ≤ max a T.length) ∨ ((quoP T x f a acc).k = 10 ∧ (quoP T x f a acc).er = 0 ∧ (quoP T x f a acc).n ≤ 256 ∧ (quoP T x f a acc).y = (quoP T x f a acc).a ∧ a < (quoP T x f a acc).a ∧ (quoP T x f a acc).a ≤ T.length ∧ (quoP T x f a acc).x = x)
  | 0, a, acc => .inl ⟨rfl, by show a ≤ _; omega⟩
  | f + 1, a, acc => by
    unfold quoP
    split
    · exact .inl ⟨rfl, by show a ≤ _; omega⟩
    · rename_i c l hl
      have hlen : T.length - a = l.length + 1 := by rw [← List.length_drop, hl]; rfl
      split
      · exact .inr ⟨rfl, rfl, Nat.zero_le _, rfl, Nat.lt_succ_self _, by show a + 1 ≤ _; omega, rfl⟩
      · split
        · have hok := escP_ok T.length a (c :: l)
          simp only [escOK, List.length_cons] at hok
          split
          · rename_i h1
            rcases hok with ⟨h2, h3⟩ | ⟨h2, -⟩
            · exact .inl ⟨h1, by rw [h3]; omega⟩
            · omega
          · rename_i h1
            rcases hok with ⟨h2, -⟩ | ⟨h2, h3, h4, -⟩
            · exact absurd h2 h1
            · have := quoP_ok T x f (escP T.length a (c :: l)).a (acc ++ [(escP T.length a (c :: l)).n.toUInt8])
              rcases this with ⟨h, g⟩ | ⟨g1, g2, g3, g4, g5, g6, g7⟩
              · exact .inl ⟨h, by omega⟩
              · exact .inr ⟨g1, g2, g3, g4, by omega, g6, g7⟩
        · have := quoP_ok T x f (a + 1) (acc ++ [c])
          rcases this with ⟨h, g⟩ | ⟨g1, g2, g3, g4, g5, g6, g7⟩
          · exact .inl ⟨h, by omega⟩
          · exact .inr ⟨g1, g2, g3, g4, by omega, g6, g7⟩

/-- What comes of a token. -/
def atomR (h : Nat) (T : List UInt8) (x y a : Nat) : RD (h + 1) :=
  match atomM (cutL T x y) with
  | none => .inl (ftP x 12 a)
  | some f => .inr (x, y, (lfT h f), a)

theorem atomM_n (l : List UInt8) (f : Lf) (h : atomM l = some f) : -9223372036854775808 ≤ f.n ∧ f.n ≤ 9223372036854775807 := by
  unfold atomM at h
  split at h
  · cases h; decide
  split at h
  · cases h; decide
  split at h
  · cases h; exact ⟨by show (-9223372036854775808 : Int) ≤ 0; decide, by show (0 : Int) ≤ _; decide⟩
  · split at h
    · cases h; exact ⟨by show (-9223372036854775808 : Int) ≤ 0; decide, by show (0 : Int) ≤ _; decide⟩
    · cases h

set_option maxHeartbeats 8000000 in
set_option maxRecDepth 100000 in
theorem atom_R (w0 : World) (rb : Nat) (t : ByteArray) (a d x y h : Nat) (k : Int) (w : World) (hs : RS w0 rb t a d w) (hxy : x < y) (hy : y ≤ t.size) (ht : t.size ≤ 100000000) :
    Calls Tryd.prog 26 #[.pointer (some ⟨rb, 0, none⟩), pc0 x y k] w fun e w' => DPost w0 rb t d w (atomR h t.data.toList x y a) e w' := by
  have u1 := up_alloc w (.cells #[.int .i64 x, .int .i64 y, .int .i64 k, .int .i64 0, .int .i64 0, .bool false, .slice none 0 0, .string ⟨#[]⟩, .slice none 0 0, .slice none 0 0, .int .i64 0] 50)
  have g1 := heap_alloc_new w (.cells #[.int .i64 x, .int .i64 y, .int .i64 k, .int .i64 0, .int .i64 0, .bool false, .slice none 0 0, .string ⟨#[]⟩, .slice none 0 0, .slice none 0 0, .int .i64 0] 50)
  have z1 : (w.alloc (.cells #[.int .i64 x, .int .i64 y, .int .i64 k, .int .i64 0, .int .i64 0, .bool false, .slice none 0 0, .string ⟨#[]⟩, .slice none 0 0, .slice none 0 0, .int .i64 0] 50)).heap.size = w.heap.size + 1 := World.size_alloc _ _
  obtain ⟨W1, hW1⟩ : ∃ W1, W1 = w.alloc (.cells #[.int .i64 x, .int .i64 y, .int .i64 k, .int .i64 0, .int .i64 0, .bool false, .slice none 0 0, .string ⟨#[]⟩, .slice none 0 0, .slice none 0 0, .int .i64 0] 50) := ⟨_, rfl⟩
  rw [← hW1] at u1 g1 z1
  have u2 := up_alloc W1 zer11
  have z2 : (W1.alloc zer11).heap.size = w.heap.size + 2 := by rw [World.size_alloc, z1]
  have g2 : (W1.alloc zer11).heap[w.heap.size + 1]? = some zer11 := by rw [← z1]; exact heap_alloc_new W1 zer11
  have g1' := u2.old g1
  have uB := u1.tr u2
  have h2 : RS w0 rb t a d (W1.alloc zer11) := hs.more5 uB
  have KB := bytes_any w0 rb t a d x y k _ h2 (by omega) hy
  have hrs : (t.extract x y).size = y - x := by rw [ByteArray.size_extract]; omega
  have KL := fun (W : World) => atomOf_any (t.extract x y) W (by omega) (by omega)
  rw [ext_cut t x y] at KL
  have hlt : rb < w.heap.size := hs.lt
  have hsz : w0.heap.size ≤ w.heap.size := hs.up.size
  have HB := hide KB
  have HG := hide (And.intro g1' (And.intro g2 (And.intro uB (And.intro hlt (And.intro hsz (And.intro h2 z2))))))
  obtain ⟨m0, m1, m2, m3, m4, m5, m6, m7, m8, m9, m10⟩ := cells11 g1'
  rw [hW1] at HB HG m0 m1 m2 m3 m4 m5 m6 m7 m8 m9 m10
  unfold zer11 at HB HG m0 m1 m2 m3 m4 m5 m6 m7 m8 m9 m10
  unfold atomR
  match hm : atomM (cutL t.data.toList x y) with
  | none =>
    rw [hm] at KL
    simp only [Option.isSome_none, Option.getD_none, zLf] at KL
    have HL := hide KL
    have KF := fun (W : World) => fault_any x 12 W
    have HF := hide KF
    clear KB KL KF hs u1 g1 z1 u2 g2 g1' uB h2 z2 hm hrs hlt hsz
    clear hW1 W1
    unfold pc0 pcV at *
    generalize t.extract x y = r at *
    go_enter Tryd.func26, Tryd.ntmps26
    go_wp2_with (first
      | (go_at_call 38; refine HB.out.mono ?_; rintro e w3 ⟨rfl, u3⟩; have HU3 := hide u3; clear u3)
      | (go_at_call 39; refine (HL.out _).mono ?_; rintro e w4 ⟨n1, n2, n3, rfl, -, -, -, u4⟩; have u5 := HU3.out.tr (u4.tr (up_alloc w4 (.cells #[.int .i64 0, .int .i64 0, .bool false, .slice n1 n2 n3, .string ⟨#[]⟩, .slice none 0 0, .slice none 0 0] 31))); have b5 := u5.old HG.out.1; clear m0 m1 m2 m3 m4 m5 m6 m7 m8 m9 m10; obtain ⟨m0, m1, m2, m3, m4, m5, m6, m7, m8, m9, m10⟩ := cells11 b5; have HU4 := hide u5; clear u4 u5 b5)
      | (go_at_call 22; refine (HF.out _).mono ?_; rintro e w5 ⟨rfl, u5⟩; clear m0 m1 m2 m3 m4 m5 m6 m7 m8 m9 m10; have g5 := u5.old (HU4.out.old HG.out.2.1); obtain ⟨f0, f1, f2, f3, f4, f5, f6, f7, f8, f9, f10⟩ := frozen11 g5; obtain ⟨d0, d1, d2, d3, d4, d5, d6, d7, d8, d9, d10⟩ := cells11 g5; have HU5 := hide (HU4.out.tr u5); have HG5 := hide g5; clear u5 g5))
    obtain ⟨q1, q2⟩ := sto11 HG5.out (.int .i64 (x : Int)) (.int .i64 (x : Int)) (.int .i64 11) (.int .i64 0) (.int .i64 0) (.bool false) (.slice none 0 0) (.string ⟨#[]⟩) (.slice none 0 0) (.slice none 0 0) (.int .i64 12)
    clear f0 f1 f2 f3 f4 f5 f6 f7 f8 f9 f10 d0 d1 d2 d3 d4 d5 d6 d7 d8 d9 d10
    generalize (((((((((((w5.setCell ⟨(w.heap.size + 1), 0, none⟩ (.int .i64 (x : Int))).setCell ⟨(w.heap.size + 1), 1, none⟩ (.int .i64 (x : Int))).setCell ⟨(w.heap.size + 1), 2, none⟩ (.int .i64 11)).setCell ⟨(w.heap.size + 1), 3, none⟩ (.int .i64 0)).setCell ⟨(w.heap.size + 1), 4, none⟩ (.int .i64 0)).setCell ⟨(w.heap.size + 1), 5, none⟩ (.bool false)).setCell ⟨(w.heap.size + 1), 6, none⟩ (.slice none 0 0)).setCell ⟨(w.heap.size + 1), 7, none⟩ (.string ⟨#[]⟩)).setCell ⟨(w.heap.size + 1), 8, none⟩ (.slice none 0 0)).setCell ⟨(w.heap.size + 1), 9, none⟩ (.slice none 0 0)).setCell ⟨(w.heap.size + 1), 10, none⟩ (.int .i64 12)) = W6 at *
    obtain ⟨d0, d1, d2, d3, d4, d5, d6, d7, d8, d9, d10⟩ := cells11 q1
    refine bodyPost_ret (by simp [results, Tryd.results26, go_sem, d0, d1, d2, d3, d4, d5, d6, d7, d8, d9, d10]; rfl) rfl ?_
    obtain ⟨-, -, uB, hlt, hsz, h2, -⟩ := HG.out
    have h5 := h2.more5 HU5.out
    refine ⟨Kr.join uB (Kr.of_up HU5.out) q2 (by omega), by simp [pcP, pcV, ftP], rfl, ⟨q2.up h5.up (by omega), h5.ge, q2.old (by omega) h5.cs⟩⟩
  | some f =>
    rw [hm] at KL
    simp only [Option.isSome_some, Option.getD_some] at KL
    have HL := hide KL
    have hfn := atomM_n _ _ hm
    have HFN := hide hfn
    have KM := fun (W : World) (n1 : Option Addr) (n2 n3 : Nat) => made_any x y f.k f.n f.b f.s n1 none none n2 n3 0 0 0 0 W
    have HM := hide KM
    clear KB KL KM hs u1 g1 z1 u2 g2 g1' uB h2 z2 hm hrs hlt hsz hfn
    clear hW1 W1
    unfold pc0 pcV at *
    generalize t.extract x y = r at *
    go_enter Tryd.func26, Tryd.ntmps26
    go_wp2_with (first
      | (go_at_call 38; refine HB.out.mono ?_; rintro e w3 ⟨rfl, u3⟩; have HU3 := hide u3; clear u3)
      | (go_at_call 39; refine (HL.out _).mono ?_; rintro e w4 ⟨n1, n2, n3, rfl, s4, l4, v4, u4⟩; have H4 := hide (And.intro s4 (And.intro l4 v4)); have u5 := HU3.out.tr (u4.tr (up_alloc w4 (.cells #[.int .i64 f.k, .int .i64 f.n, .bool f.b, .slice n1 n2 n3, .string f.s, .slice none 0 0, .slice none 0 0] 31))); have b5 := u5.old HG.out.1; clear m0 m1 m2 m3 m4 m5 m6 m7 m8 m9 m10; obtain ⟨m0, m1, m2, m3, m4, m5, m6, m7, m8, m9, m10⟩ := cells11 b5; have HU4 := hide u5; clear u4 u5 b5 s4 l4 v4)
      | (go_at_call 35; refine (HM.out _ n1 n2 n3).mono ?_; rintro e w5 ⟨rfl, u5⟩; clear m0 m1 m2 m3 m4 m5 m6 m7 m8 m9 m10; have g5 := u5.old (HU4.out.old HG.out.2.1); obtain ⟨f0, f1, f2, f3, f4, f5, f6, f7, f8, f9, f10⟩ := frozen11 g5; obtain ⟨d0, d1, d2, d3, d4, d5, d6, d7, d8, d9, d10⟩ := cells11 g5; have HU5 := hide (HU4.out.tr u5); have HG5 := hide g5; have HU6 := hide ((up_alloc w4 _).tr u5); clear u5 g5))
    obtain ⟨q1, q2⟩ := sto11 HG5.out (.int .i64 (x : Int)) (.int .i64 (y : Int)) (.int .i64 10) (.int .i64 f.k) (.int .i64 f.n) (.bool f.b) (.slice n1 n2 n3) (.string f.s) (.slice none 0 0) (.slice none 0 0) (.int .i64 0)
    clear f0 f1 f2 f3 f4 f5 f6 f7 f8 f9 f10 d0 d1 d2 d3 d4 d5 d6 d7 d8 d9 d10
    generalize (((((((((((w5.setCell ⟨(w.heap.size + 1), 0, none⟩ (.int .i64 (x : Int))).setCell ⟨(w.heap.size + 1), 1, none⟩ (.int .i64 (y : Int))).setCell ⟨(w.heap.size + 1), 2, none⟩ (.int .i64 10)).setCell ⟨(w.heap.size + 1), 3, none⟩ (.int .i64 f.k)).setCell ⟨(w.heap.size + 1), 4, none⟩ (.int .i64 f.n)).setCell ⟨(w.heap.size + 1), 5, none⟩ (.bool f.b)).setCell ⟨(w.heap.size + 1), 6, none⟩ (.slice n1 n2 n3)).setCell ⟨(w.heap.size + 1), 7, none⟩ (.string f.s)).setCell ⟨(w.heap.size + 1), 8, none⟩ (.slice none 0 0)).setCell ⟨(w.heap.size + 1), 9, none⟩ (.slice none 0 0)).setCell ⟨(w.heap.size + 1), 10, none⟩ (.int .i64 0)) = W6 at *
    obtain ⟨d0, d1, d2, d3, d4, d5, d6, d7, d8, d9, d10⟩ := cells11 q1
    refine bodyPost_ret (by simp [results, Tryd.results26, go_sem, d0, d1, d2, d3, d4, d5, d6, d7, d8, d9, d10]; rfl) rfl ?_
    obtain ⟨-, -, uB, hlt, hsz, h2, -⟩ := HG.out
    have h5 := h2.more5 HU5.out
    obtain ⟨s4, l4, v4⟩ := H4.out
    have hz := HU3.out.size
    have z2 := HG.out.2.2.2.2.2.2
    have v5 : VQ (fun g => w.heap.size + 2 ≤ g) (.slice n1 n2 n3) f.L.length := v4.mono (fun g hg => by omega)
    have hblk : ∀ g, g < w4.heap.size → w.heap.size + 2 ≤ g → W6.heap[g]? = w4.heap[g]? := fun g hg hq => (q2.2 g (Nat.lt_of_lt_of_le hg HU6.out.size) (by omega)).trans (HU6.out.block g hg)
    refine ⟨Kr.join uB (Kr.of_up HU5.out) q2 (by omega), f.k, f.n, f.b, n1, n2, n3, f.s, none, 0, 0, none, 0, 0, by simp [pcV], ?_, ⟨q2.up h5.up (by omega), h5.ge, q2.old (by omega) h5.cs⟩⟩
    exact lfT_dat HFN.out (s4.blk v5 hblk) l4 (v5.mono (fun g hg => by omega))

end Go.Proofs.YteipogfolnlblaaDoor
