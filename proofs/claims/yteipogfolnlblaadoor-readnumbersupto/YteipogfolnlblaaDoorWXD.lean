/-
  What is proved here: package read's isDigit, inSymbol, isSymbol.
-/
import Derived.Test.YteipogfolnlblaaDoorWXB
import Derived.Test.YteipogfolnlblaaDoorWRC
namespace Go.Proofs.YteipogfolnlblaaDoor
open Go Go.RowKit
theorem isDigit_any (c : UInt8) (w : World) :
    Calls Tryd.prog 75 #[.int .u8 (c.toNat : Int)] w fun e w' => e = .returned (.bool (isDg c)) ∧ w' = w := by
  unfold isDg
  generalize c.toNat = n at *
  by_cases h1 : 48 ≤ n
  · have i1 : (48 : Int) ≤ (n : Int) := by omega
    by_cases h2 : n ≤ 57
    · have i2 : (n : Int) ≤ 57 := by omega
      go_enter Tryd.func75, Tryd.ntmps75
      go_wp2_with fail
      go_ret
      exact ⟨by simp [h1, h2], rfl⟩
    · have i2 : ¬ ((n : Int) ≤ 57) := by omega
      go_enter Tryd.func75, Tryd.ntmps75
      go_wp2_with fail
      go_ret
      exact ⟨by simp , rfl⟩
  · have i1 : ¬ ((48 : Int) ≤ (n : Int)) := by omega
    go_enter Tryd.func75, Tryd.ntmps75
    go_wp2_with fail
    go_ret
    exact ⟨by simp , rfl⟩

/-- Where a byte stands among the symbols' marks, or less than 0. -/
def mkx (c : UInt8) : Int := Lib.indexByte [33, 36, 37, 38, 42, 43, 45, 46, 47, 58, 60, 61, 62, 63, 64, 94, 95, 126] c

/-- A byte that may stand in a symbol. -/
def symB (c : UInt8) : Bool := decide (97 ≤ c.toNat ∧ c.toNat ≤ 122) || decide (65 ≤ c.toNat ∧ c.toNat ≤ 90) || isDg c || decide (0 ≤ mkx c)

set_option maxHeartbeats 2000000 in
theorem inSymbol_any (c : UInt8) (w : World) :
    Calls Tryd.prog 74 #[.int .u8 (c.toNat : Int)] w fun e w' => e = .returned (.bool (symB c)) ∧ w' = w := by
  have KD := fun (W : World) => isDigit_any c W
  have KI : ∀ (W : World), Calls Tryd.prog 59 #[.string ⟨#[33, 36, 37, 38, 42, 43, 45, 46, 47, 58, 60, 61, 62, 63, 64, 94, 95, 126]⟩, .int .u8 (c.toNat : Int)] W fun e w' => e = .returned (.int .i64 (mkx c)) ∧ w' = W := fun W => index_any _ c W
  unfold symB
  generalize isDg c = D at *
  generalize mkx c = X at *
  generalize c.toNat = n at *
  have HD := hide KD
  have HI := hide KI
  clear KD KI
  by_cases a1 : 97 ≤ n
  · have i1 : (97 : Int) ≤ (n : Int) := by omega
    by_cases a2 : n ≤ 122
    · have i2 : (n : Int) ≤ 122 := by omega
      go_enter Tryd.func74, Tryd.ntmps74
      go_wp2_with (first
        | (go_at_call 75; refine (HD.out _).mono ?_; rintro e w1 ⟨rfl, rfl⟩)
        | (go_at_call 59; refine (HI.out _).mono ?_; rintro e w1 ⟨rfl, rfl⟩))
      go_ret
      exact ⟨by simp [a1, a2], rfl⟩
    · have i2 : ¬ ((n : Int) ≤ 122) := by omega
      have i3 : (65 : Int) ≤ (n : Int) := by omega
      have i4 : ¬ ((n : Int) ≤ 90) := by omega
      have a4 : ¬ (n ≤ 90) := by omega
      match D with
      | true =>
        go_enter Tryd.func74, Tryd.ntmps74
        go_wp2_with (first
          | (go_at_call 75; refine (HD.out _).mono ?_; rintro e w1 ⟨rfl, rfl⟩)
          | (go_at_call 59; refine (HI.out _).mono ?_; rintro e w1 ⟨rfl, rfl⟩))
        go_ret
        exact ⟨by simp [a2, a4], rfl⟩
      | false =>
        by_cases hx : 0 ≤ X
        · go_enter Tryd.func74, Tryd.ntmps74
          go_wp2_with (first
            | (go_at_call 75; refine (HD.out _).mono ?_; rintro e w1 ⟨rfl, rfl⟩)
            | (go_at_call 59; refine (HI.out _).mono ?_; rintro e w1 ⟨rfl, rfl⟩))
          go_ret
          exact ⟨by simp [a2, a4, hx], rfl⟩
        · go_enter Tryd.func74, Tryd.ntmps74
          go_wp2_with (first
            | (go_at_call 75; refine (HD.out _).mono ?_; rintro e w1 ⟨rfl, rfl⟩)
            | (go_at_call 59; refine (HI.out _).mono ?_; rintro e w1 ⟨rfl, rfl⟩))
          go_ret
          exact ⟨by simp [a2, a4], rfl⟩
  · have i1 : ¬ ((97 : Int) ≤ (n : Int)) := by omega
    by_cases b1 : 65 ≤ n
    · have i3 : (65 : Int) ≤ (n : Int) := by omega
      by_cases b2 : n ≤ 90
      · have i4 : (n : Int) ≤ 90 := by omega
        go_enter Tryd.func74, Tryd.ntmps74
        go_wp2_with (first
          | (go_at_call 75; refine (HD.out _).mono ?_; rintro e w1 ⟨rfl, rfl⟩)
          | (go_at_call 59; refine (HI.out _).mono ?_; rintro e w1 ⟨rfl, rfl⟩))
        go_ret
        exact ⟨by simp , rfl⟩
      · have i4 : ¬ ((n : Int) ≤ 90) := by omega
        match D with
        | true =>
          go_enter Tryd.func74, Tryd.ntmps74
          go_wp2_with (first
            | (go_at_call 75; refine (HD.out _).mono ?_; rintro e w1 ⟨rfl, rfl⟩)
            | (go_at_call 59; refine (HI.out _).mono ?_; rintro e w1 ⟨rfl, rfl⟩))
          go_ret
          exact ⟨by simp [a1, b2], rfl⟩
        | false =>
          by_cases hx : 0 ≤ X
          · go_enter Tryd.func74, Tryd.ntmps74
            go_wp2_with (first
              | (go_at_call 75; refine (HD.out _).mono ?_; rintro e w1 ⟨rfl, rfl⟩)
              | (go_at_call 59; refine (HI.out _).mono ?_; rintro e w1 ⟨rfl, rfl⟩))
            go_ret
            exact ⟨by simp [a1, b2, hx], rfl⟩
          · go_enter Tryd.func74, Tryd.ntmps74
            go_wp2_with (first
              | (go_at_call 75; refine (HD.out _).mono ?_; rintro e w1 ⟨rfl, rfl⟩)
              | (go_at_call 59; refine (HI.out _).mono ?_; rintro e w1 ⟨rfl, rfl⟩))
            go_ret
            exact ⟨by simp [a1, b2], rfl⟩
    · have i3 : ¬ ((65 : Int) ≤ (n : Int)) := by omega
      match D with
      | true =>
        go_enter Tryd.func74, Tryd.ntmps74
        go_wp2_with (first
          | (go_at_call 75; refine (HD.out _).mono ?_; rintro e w1 ⟨rfl, rfl⟩)
          | (go_at_call 59; refine (HI.out _).mono ?_; rintro e w1 ⟨rfl, rfl⟩))
        go_ret
        exact ⟨by simp [a1, b1], rfl⟩
      | false =>
        by_cases hx : 0 ≤ X
        · go_enter Tryd.func74, Tryd.ntmps74
          go_wp2_with (first
            | (go_at_call 75; refine (HD.out _).mono ?_; rintro e w1 ⟨rfl, rfl⟩)
            | (go_at_call 59; refine (HI.out _).mono ?_; rintro e w1 ⟨rfl, rfl⟩))
          go_ret
          exact ⟨by simp [a1, b1, hx], rfl⟩
        · go_enter Tryd.func74, Tryd.ntmps74
          go_wp2_with (first
            | (go_at_call 75; refine (HD.out _).mono ?_; rintro e w1 ⟨rfl, rfl⟩)
            | (go_at_call 59; refine (HI.out _).mono ?_; rintro e w1 ⟨rfl, rfl⟩))
          go_ret
          exact ⟨by simp [a1, b1], rfl⟩

/-- A token that is a symbol. -/
def symL (l : List UInt8) : Bool := l.all symB && !isDg (l.headD 0)

set_option maxHeartbeats 2000000 in
set_option maxRecDepth 100000 in
theorem isSymbol_any (s : ByteArray) (w : World) (h0 : 0 < s.size) (hs : s.size ≤ 1000000000) :
    Calls Tryd.prog 57 #[.string s] w fun e w' => e = .returned (.bool (symL s.data.toList)) ∧ w' = w := by
  have hsI : (s.size : Int) ≤ 1000000000 := by omega
  have HD := hide (fun (c : UInt8) (W : World) => isDigit_any c W)
  have HS := hide (fun (c : UInt8) (W : World) => inSymbol_any c W)
  go_enter Tryd.func57, Tryd.ntmps57
  go_wp2_with fail
  go_loopw [6] (fun a6 wr => wr = w ∧ ∃ k : Nat, k ≤ s.size ∧ a6 = .int .i64 (k : Int) ∧ ∀ i (h : i < s.data.toList.length), i < k → symB s.data.toList[i] = true) (fun a6 _ => s.size - (intOf a6).toNat)
  case atStart => exact ⟨rfl, 0, Nat.zero_le _, rfl, fun i h hi => by omega⟩
  case round =>
    obtain ⟨rfl, k, hk, rfl, hb⟩ := hrel
    by_cases hlt : k < s.size
    · have hkI : (k : Int) < (s.size : Int) := by omega
      have hl : k < s.data.toList.length := by rw [bytes_len]; exact hlt
      have e4 : s[k] = s.data.toList[k] := by simp [ByteArray.getElem_eq_getElem_data]
      have HB := hide hb
      clear hb
      have HE := hide e4
      clear e4
      match hn : symB s[k] with
      | true =>
        have KS := fun W => HS.out (s[k]) W
        rw [hn] at KS
        go_wp2_with (go_at_call 74; refine (KS _).mono ?_; rintro e w4 ⟨rfl, rfl⟩)
        refine ⟨⟨trivial, k + 1, by omega, by go_num, fun i h hi => ?_⟩, ?_⟩
        · by_cases hik : i = k
          · subst hik
            rw [← HE.out]; exact hn
          · exact HB.out i h (by omega)
        · simp [intOf]; omega
      | false =>
        have KS := fun W => HS.out (s[k]) W
        rw [hn] at KS
        go_wp2_with (go_at_call 74; refine (KS _).mono ?_; rintro e w4 ⟨rfl, rfl⟩)
        go_ret
        refine ⟨?_, rfl⟩
        have : s.data.toList.all symB = false := by
          rw [Bool.eq_false_iff]
          intro ha
          have := List.all_eq_true.1 ha _ (List.getElem_mem hl)
          rw [← HE.out, hn] at this
          cases this
        simp [symL, this]
    · have hkK : k = s.size := by omega
      subst hkK
      have hkI : ¬ ((s.size : Int) < (s.size : Int)) := by omega
      have hall : s.data.toList.all symB = true := List.all_eq_true.2 fun c hc => by
        obtain ⟨i, hi, rfl⟩ := List.getElem_of_mem hc
        exact hb i hi (by rw [bytes_len] at hi; exact hi)
      have e0 : s[0] = s.data.toList.headD 0 := by
        rw [get_list s 0 h0]
        match s.data.toList with
        | [] => rfl
        | _ :: _ => rfl
      have HA := hide (And.intro hall e0)
      clear hb hall e0
      have z0 : (0 : Int) < (s.size : Int) := by omega
      have KD := fun W => HD.out (s[0]) W
      go_wp2_with (go_at_call 75; refine (KD _).mono ?_; rintro e w4 ⟨rfl, rfl⟩)
      go_ret
      refine ⟨?_, rfl⟩
      simp [symL, HA.out.1, HA.out.2]

end Go.Proofs.YteipogfolnlblaaDoor
