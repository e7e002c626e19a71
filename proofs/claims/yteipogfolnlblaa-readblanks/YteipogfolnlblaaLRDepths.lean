/-
  What is proved here: tandemlaw05.ReadDepths.
-/
import Derived.Test.YteipogfolnlblaaUDA
import Derived.Test.YteipogfolnlblaaUQ
namespace Go.Proofs.Yteipogfolnlblaa
open Go Go.RowKit

theorem retI {k : IntKind} {a b : Int} (h : a = b) : Ending.returned (.int k a) = .returned (.int k b) := by rw [h]
theorem place_num (v : Int) (n : Nat) (hn : 1 ≤ n) : (v.tmod n < 0 → v.tmod n + n = ((v % (n : Int)).toNat : Int)) ∧ (0 ≤ v.tmod n → v.tmod n = ((v % (n : Int)).toNat : Int)) ∧ - (n : Int) < v.tmod n := by
  have hm1 : 0 ≤ v % (n : Int) := Int.emod_nonneg _ (by omega)
  have hm2 : v % (n : Int) < n := Int.emod_lt_of_pos _ (by omega)
  have e := @Int.tmod_eq_emod v n
  by_cases hv : 0 ≤ v ∨ (n : Int) ∣ v
  · rw [if_pos hv] at e
    simp only [Int.natCast_zero, Int.sub_zero] at e
    refine ⟨fun h => by omega, fun _ => by omega, by omega⟩
  · rw [if_neg hv, Int.natAbs_natCast] at e
    have : v % (n : Int) ≠ 0 := fun h => hv (.inr (Int.dvd_of_emod_eq_zero h))
    refine ⟨fun h => by omega, fun _ => by omega, by omega⟩

set_option maxRecDepth 20000 in
theorem place_any (v : Int) (n : Nat) (w : World) (h1 : 1 ≤ n) (h2 : n ≤ 4611686018427387903) (_hv1 : -9223372036854775808 ≤ v) (_hv2 : v ≤ 9223372036854775807) :
    Calls Try.prog 18 #[.int .i64 v, .int .i64 (n : Int)] w fun e w' => e = .returned (.int .i64 ((v % (n : Int)).toNat : Int)) ∧ w' = w := by
  have e1 : ((n : Int) != 0) = true := by rw [bne_iff_ne]; omega
  obtain ⟨p1, p2, p3⟩ := place_num v n h1
  have P1 := hide p1
  have P2 := hide p2
  clear p1 p2
  go_enter Try.func18, Try.ntmps18
  go_wp2
  · go_ret
    exact ⟨retI (P1.out ‹_›), rfl⟩
  · go_ret
    exact ⟨retI (P2.out ‹_›), rfl⟩


theorem size_arr (M : List UInt8) : (⟨M.toArray⟩ : ByteArray).size = M.length := by simp [ByteArray.size]
theorem cat_bytes (a b : List UInt8) : (⟨a.toArray⟩ : ByteArray) ++ ⟨b.toArray⟩ = ⟨(a ++ b).toArray⟩ := by
  apply ByteArray.ext
  simp [ByteArray.data_append]
theorem rep_cat (j : Nat) (op : List UInt8) : (⟨(rep j op).toArray⟩ : ByteArray) ++ ⟨op.toArray⟩ = ⟨(rep (j + 1) op).toArray⟩ := by
  rw [cat_bytes, rep_snoc]
theorem cl_cat (P : List UInt8) (j : Nat) (op : List UInt8) : (⟨(P ++ rep j op).toArray⟩ : ByteArray) ++ ⟨op.toArray⟩ = ⟨(P ++ rep (j + 1) op).toArray⟩ := by
  rw [cat_bytes, rep_snoc, List.append_assoc]
/-- What All comes to, of such a text. -/
theorem all_depths {op cl : List UInt8} {s : Nat} (O : Opn op cl s) (hcl : cl = [] ∨ cl = [41]) (k : Nat) (h1 : k ≤ 104) (_hop : 1 ≤ op.length) (hop3 : op.length ≤ 3) (hs : s * k + 2 ≤ 3 * (op.length * k + 1 + cl.length * k) + 4) (hs3 : s ≤ 3) (w : World) :
    Calls Try.prog 10 #[.string ⟨(rep k op ++ 120 :: rep k cl).toArray⟩] w fun e w' => Up w w' ∧ ((k ≤ 100 ∧ ∃ ao cap, e = .returned (.tuple #[.slice ao 1 cap, .int .i64 0, .int .i64 0])) ∨ (100 < k ∧ e = .returned (.tuple #[.slice none 0 0, .int .i64 ((op.length * 100 : Nat) : Int), .int .i64 16]))) := by
  have hl : (rep k op ++ 120 :: rep k cl).length = op.length * k + 1 + cl.length * k := by
    rw [List.length_append, List.length_cons, rep_len, rep_len]
    omega
  have hc2 : cl.length ≤ 1 := by rcases hcl with rfl | rfl <;> simp
  have b1 : op.length * k ≤ 3 * 104 := Nat.mul_le_mul hop3 h1
  have b2 : cl.length * k ≤ 1 * 104 := Nat.mul_le_mul hc2 h1
  have b3 : s * k ≤ 3 * 104 := Nat.mul_le_mul hs3 h1
  have h := all_fuel ⟨(rep k op ++ 120 :: rep k cl).toArray⟩ (3 * (op.length * k + 1 + cl.length * k) + 400) (op.length * k + 1 + cl.length * k + 2) w (by rw [size_arr, hl]; omega) (by rw [size_arr, hl]; omega) (by rw [size_arr, hl]; omega)
  have ed : (⟨(rep k op ++ 120 :: rep k cl).toArray⟩ : ByteArray).data.toList = rep k op ++ 120 :: rep k cl := rfl
  rw [ed] at h
  by_cases hk : k ≤ 100
  · obtain ⟨tr, e⟩ := deep_all_ok O hcl k (3 * (op.length * k + 1 + cl.length * k) + 400) (op.length * k + 1 + cl.length * k) hk (by omega) (by omega)
    refine (all_good e h).mono ?_
    rintro e w' ⟨u, ao, cap, rfl, -⟩
    exact ⟨u, .inl ⟨hk, ao, cap, rfl⟩⟩
  · have b4 : s * 100 ≤ 3 * 100 := Nat.mul_le_mul hs3 (Nat.le_refl _)
    obtain ⟨q, e, e1, e2⟩ := deep_all_bad O k (3 * (op.length * k + 1 + cl.length * k) + 400) (op.length * k + 1 + cl.length * k + 1) (120 :: rep k cl) (by omega) (by omega)
    have h' := all_bad e h
    rw [e1, e2] at h'
    exact h'.mono fun _ _ h => ⟨h.1, .inr ⟨by omega, h.2⟩⟩

set_option maxHeartbeats 8000000 in
set_option maxRecDepth 100000 in
theorem depths_0 (n kind : Int) (j : Nat) (w : World) (hj : j < 10) (hP : ∀ W : World, Calls Try.prog 18 #[.int .i64 n, .int .i64 10] W fun e w' => e = .returned (.int .i64 (j : Int)) ∧ w' = W) (hQ : ∀ W : World, Calls Try.prog 18 #[.int .i64 kind, .int .i64 4] W fun e w' => e = .returned (.int .i64 0) ∧ w' = W) :
    Calls Try.prog 8 #[.int .i64 n, .int .i64 kind] w fun e w' => e = .returned (.bool true) ∧ Up w w' := by
  have KA := fun (W : World) => all_depths (opn_row [40] 6 (.inl ⟨rfl, rfl⟩)) (.inr rfl) (95 + j) (by omega) (by decide) (by decide) (by simp only [List.length_cons, List.length_nil]; omega) (by decide) W
  have KA1 : ∀ (W : World), 95 + j ≤ 100 → Calls Try.prog 10 #[.string ⟨(rep (95 + j) [40] ++ 120 :: rep (95 + j) [41]).toArray⟩] W fun e w' => Up W w' ∧ ∃ ao cap, e = .returned (.tuple #[.slice ao 1 cap, .int .i64 0, .int .i64 0]) := fun W hk => (KA W).mono fun e w' h => ⟨h.1, by rcases h.2 with h | h; exact h.2; omega⟩
  have KA2 : ∀ (W : World), ¬ 95 + j ≤ 100 → Calls Try.prog 10 #[.string ⟨(rep (95 + j) [40] ++ 120 :: rep (95 + j) [41]).toArray⟩] W fun e w' => Up W w' ∧ e = .returned (.tuple #[.slice none 0 0, .int .i64 100, .int .i64 16]) := fun W hk => (KA W).mono fun e w' h => ⟨h.1, by rcases h.2 with h | h; omega; exact h.2⟩
  have HP := hide hP
  have HQ := hide hQ
  have HA1 := hide KA1
  have HA2 := hide KA2
  have HW := hide (fun (W : World) => awake_any W)
  have hjI : (j : Int) < 10 := by omega
  have hj0 : (0 : Int) ≤ (j : Int) := by omega
  clear hP hQ KA KA1 KA2
  go_enter Try.func8, Try.ntmps8
  go_wp2_with (first
    | (go_at_call_of 18 n; refine (HP.out _).mono ?_; rintro e w1 ⟨rfl, hw⟩; replace hw := hw.symm; subst hw)
    | (go_at_call_of 18 kind; refine (HQ.out _).mono ?_; rintro e w1 ⟨rfl, hw⟩; replace hw := hw.symm; subst hw))
  have HUW : Hid (Up w (w.alloc (.cells #[.string ⟨#[40]⟩, .string ⟨#[35, 40]⟩, .string ⟨#[39]⟩, .string ⟨#[40, 97, 32]⟩] 9))) := hide (up_alloc _ _)
  generalize w.alloc (.cells #[.string ⟨#[40]⟩, .string ⟨#[35, 40]⟩, .string ⟨#[39]⟩, .string ⟨#[40, 97, 32]⟩] 9) = W at *
  go_loopw [7, 8] (fun a7 a8 wr => wr = W ∧ ∃ i : Nat, i ≤ 95 + j ∧ a8 = .int .i64 (i : Int) ∧ a7 = .string ⟨(rep i [40]).toArray⟩) (fun _ a8 _ => 95 + j - (intOf a8).toNat)
  case atStart => exact ⟨rfl, 0, Nat.zero_le _, rfl, by simp [rep]⟩
  case round =>
    obtain ⟨hwW, i, hi, rfl, rfl⟩ := hrel
    replace hwW := hwW.symm
    subst hwW
    by_cases hlt : i < 95 + j
    · have hiI : (i : Int) < 95 + (j : Int) := by omega
      have e1 := rep_cat i [40]
      have zS : (⟨(rep i [40]).toArray⟩ : ByteArray).size ≤ 400 := by rw [size_arr, rep_len]; simp only [List.length_cons, List.length_nil]; omega
      generalize (⟨(rep i [40]).toArray⟩ : ByteArray) = S at *
      have HE := hide e1
      clear e1
      go_wp2_with fail
      refine ⟨⟨by trivial, i + 1, by omega, by go_num, by rw [← HE.out]⟩, ?_⟩
      simp [intOf]
      omega
    · obtain rfl : i = 95 + j := by omega
      have hiI : ¬ (((95 + j : Nat) : Int) < 95 + (j : Int)) := by omega
      have hiN : ¬ ((95 : Int) + (j : Int) < 95 + (j : Int)) := by omega
      have e1 := cat_bytes (rep (95 + j) [40]) [120]
      have zS : (⟨(rep (95 + j) [40]).toArray⟩ : ByteArray).size ≤ 400 := by rw [size_arr, rep_len]; simp only [List.length_cons, List.length_nil]; omega
      generalize hS : (⟨(rep (95 + j) [40]).toArray⟩ : ByteArray) = S at *
      have HE := hide e1
      clear e1 hS
      go_wp2_with fail
      rw [HE.out]
      clear HE zS
      go_loopw [7, 9] (fun a7 a9 wr => wr = W ∧ ∃ i : Nat, i ≤ 95 + j ∧ a9 = .int .i64 (i : Int) ∧ a7 = .string ⟨((rep (95 + j) [40] ++ [120]) ++ rep i [41]).toArray⟩) (fun _ a9 _ => 95 + j - (intOf a9).toNat)
      case atStart => exact ⟨rfl, 0, Nat.zero_le _, rfl, by simp [rep]⟩
      case round =>
        obtain ⟨hwW, i, hi, rfl, rfl⟩ := hrel
        replace hwW := hwW.symm
        subst hwW
        by_cases hlt : i < 95 + j
        · have hiI : (i : Int) < 95 + (j : Int) := by omega
          have e1 := cl_cat (rep (95 + j) [40] ++ [120]) i [41]
          have zS : (⟨((rep (95 + j) [40] ++ [120]) ++ rep i [41]).toArray⟩ : ByteArray).size ≤ 600 := by rw [size_arr, List.length_append, List.length_append, rep_len, rep_len]; simp only [List.length_cons, List.length_nil]; omega
          generalize (⟨((rep (95 + j) [40] ++ [120]) ++ rep i [41]).toArray⟩ : ByteArray) = S2 at *
          have HE := hide e1
          clear e1
          go_wp2_with fail
          refine ⟨⟨by trivial, i + 1, by omega, by go_num, by rw [← HE.out]⟩, ?_⟩
          simp [intOf]
          omega
        · obtain rfl : i = 95 + j := by omega
          have hiI2 : ¬ (((95 + j : Nat) : Int) < 95 + (j : Int)) := by omega
          have eT : rep (95 + j) [40] ++ 120 :: rep (95 + j) [41] = (rep (95 + j) [40] ++ [120]) ++ rep (95 + j) [41] := by simp
          generalize (rep (95 + j) [40] ++ [120]) ++ rep (95 + j) [41] = Z at *
          by_cases hk : 95 + j ≤ 100
          · have hkI : (95 : Int) + (j : Int) ≤ 100 := by omega
            have KB := HA1.out W hk
            rw [eT] at KB
            have HB := hide KB
            clear KB
            go_wp2_with (first
              | (go_at_call 10; refine HB.out.mono ?_; rintro e w2 ⟨u2, ao, cap, rfl⟩; have HU2 := hide u2; clear u2)
              | (go_at_call 13; refine (HW.out _).mono ?_; rintro e w3 ⟨rfl, u3⟩))
            go_ret
            exact ⟨rfl, (HUW.out.tr HU2.out).tr u3⟩
          · have hkI : ¬ ((95 : Int) + (j : Int) ≤ 100) := by omega
            have KB := HA2.out W hk
            rw [eT] at KB
            have HB := hide KB
            clear KB
            go_wp2_with (first
              | (go_at_call 10; refine HB.out.mono ?_; rintro e w2 ⟨u2, rfl⟩; have HU2 := hide u2; clear u2)
              | (go_at_call 13; refine (HW.out _).mono ?_; rintro e w3 ⟨rfl, u3⟩))
            go_ret
            exact ⟨rfl, (HUW.out.tr HU2.out).tr u3⟩

set_option maxHeartbeats 8000000 in
set_option maxRecDepth 100000 in
theorem depths_1 (n kind : Int) (j : Nat) (w : World) (hj : j < 10) (hP : ∀ W : World, Calls Try.prog 18 #[.int .i64 n, .int .i64 10] W fun e w' => e = .returned (.int .i64 (j : Int)) ∧ w' = W) (hQ : ∀ W : World, Calls Try.prog 18 #[.int .i64 kind, .int .i64 4] W fun e w' => e = .returned (.int .i64 1) ∧ w' = W) :
    Calls Try.prog 8 #[.int .i64 n, .int .i64 kind] w fun e w' => e = .returned (.bool true) ∧ Up w w' := by
  have KA := fun (W : World) => all_depths (opn_row [35, 40] 7 (.inr ⟨rfl, rfl⟩)) (.inr rfl) (95 + j) (by omega) (by decide) (by decide) (by simp only [List.length_cons, List.length_nil]; omega) (by decide) W
  have KA1 : ∀ (W : World), 95 + j ≤ 100 → Calls Try.prog 10 #[.string ⟨(rep (95 + j) [35, 40] ++ 120 :: rep (95 + j) [41]).toArray⟩] W fun e w' => Up W w' ∧ ∃ ao cap, e = .returned (.tuple #[.slice ao 1 cap, .int .i64 0, .int .i64 0]) := fun W hk => (KA W).mono fun e w' h => ⟨h.1, by rcases h.2 with h | h; exact h.2; omega⟩
  have KA2 : ∀ (W : World), ¬ 95 + j ≤ 100 → Calls Try.prog 10 #[.string ⟨(rep (95 + j) [35, 40] ++ 120 :: rep (95 + j) [41]).toArray⟩] W fun e w' => Up W w' ∧ e = .returned (.tuple #[.slice none 0 0, .int .i64 200, .int .i64 16]) := fun W hk => (KA W).mono fun e w' h => ⟨h.1, by rcases h.2 with h | h; omega; exact h.2⟩
  have HP := hide hP
  have HQ := hide hQ
  have HA1 := hide KA1
  have HA2 := hide KA2
  have HW := hide (fun (W : World) => awake_any W)
  have hjI : (j : Int) < 10 := by omega
  have hj0 : (0 : Int) ≤ (j : Int) := by omega
  clear hP hQ KA KA1 KA2
  go_enter Try.func8, Try.ntmps8
  go_wp2_with (first
    | (go_at_call_of 18 n; refine (HP.out _).mono ?_; rintro e w1 ⟨rfl, hw⟩; replace hw := hw.symm; subst hw)
    | (go_at_call_of 18 kind; refine (HQ.out _).mono ?_; rintro e w1 ⟨rfl, hw⟩; replace hw := hw.symm; subst hw))
  have HUW : Hid (Up w (w.alloc (.cells #[.string ⟨#[40]⟩, .string ⟨#[35, 40]⟩, .string ⟨#[39]⟩, .string ⟨#[40, 97, 32]⟩] 9))) := hide (up_alloc _ _)
  generalize w.alloc (.cells #[.string ⟨#[40]⟩, .string ⟨#[35, 40]⟩, .string ⟨#[39]⟩, .string ⟨#[40, 97, 32]⟩] 9) = W at *
  go_loopw [7, 8] (fun a7 a8 wr => wr = W ∧ ∃ i : Nat, i ≤ 95 + j ∧ a8 = .int .i64 (i : Int) ∧ a7 = .string ⟨(rep i [35, 40]).toArray⟩) (fun _ a8 _ => 95 + j - (intOf a8).toNat)
  case atStart => exact ⟨rfl, 0, Nat.zero_le _, rfl, by simp [rep]⟩
  case round =>
    obtain ⟨hwW, i, hi, rfl, rfl⟩ := hrel
    replace hwW := hwW.symm
    subst hwW
    by_cases hlt : i < 95 + j
    · have hiI : (i : Int) < 95 + (j : Int) := by omega
      have e1 := rep_cat i [35, 40]
      have zS : (⟨(rep i [35, 40]).toArray⟩ : ByteArray).size ≤ 400 := by rw [size_arr, rep_len]; simp only [List.length_cons, List.length_nil]; omega
      generalize (⟨(rep i [35, 40]).toArray⟩ : ByteArray) = S at *
      have HE := hide e1
      clear e1
      go_wp2_with fail
      refine ⟨⟨by trivial, i + 1, by omega, by go_num, by rw [← HE.out]⟩, ?_⟩
      simp [intOf]
      omega
    · obtain rfl : i = 95 + j := by omega
      have hiI : ¬ (((95 + j : Nat) : Int) < 95 + (j : Int)) := by omega
      have hiN : ¬ ((95 : Int) + (j : Int) < 95 + (j : Int)) := by omega
      have e1 := cat_bytes (rep (95 + j) [35, 40]) [120]
      have zS : (⟨(rep (95 + j) [35, 40]).toArray⟩ : ByteArray).size ≤ 400 := by rw [size_arr, rep_len]; simp only [List.length_cons, List.length_nil]; omega
      generalize hS : (⟨(rep (95 + j) [35, 40]).toArray⟩ : ByteArray) = S at *
      have HE := hide e1
      clear e1 hS
      go_wp2_with fail
      rw [HE.out]
      clear HE zS
      go_loopw [7, 9] (fun a7 a9 wr => wr = W ∧ ∃ i : Nat, i ≤ 95 + j ∧ a9 = .int .i64 (i : Int) ∧ a7 = .string ⟨((rep (95 + j) [35, 40] ++ [120]) ++ rep i [41]).toArray⟩) (fun _ a9 _ => 95 + j - (intOf a9).toNat)
      case atStart => exact ⟨rfl, 0, Nat.zero_le _, rfl, by simp [rep]⟩
      case round =>
        obtain ⟨hwW, i, hi, rfl, rfl⟩ := hrel
        replace hwW := hwW.symm
        subst hwW
        by_cases hlt : i < 95 + j
        · have hiI : (i : Int) < 95 + (j : Int) := by omega
          have e1 := cl_cat (rep (95 + j) [35, 40] ++ [120]) i [41]
          have zS : (⟨((rep (95 + j) [35, 40] ++ [120]) ++ rep i [41]).toArray⟩ : ByteArray).size ≤ 600 := by rw [size_arr, List.length_append, List.length_append, rep_len, rep_len]; simp only [List.length_cons, List.length_nil]; omega
          generalize (⟨((rep (95 + j) [35, 40] ++ [120]) ++ rep i [41]).toArray⟩ : ByteArray) = S2 at *
          have HE := hide e1
          clear e1
          go_wp2_with fail
          refine ⟨⟨by trivial, i + 1, by omega, by go_num, by rw [← HE.out]⟩, ?_⟩
          simp [intOf]
          omega
        · obtain rfl : i = 95 + j := by omega
          have hiI2 : ¬ (((95 + j : Nat) : Int) < 95 + (j : Int)) := by omega
          have eT : rep (95 + j) [35, 40] ++ 120 :: rep (95 + j) [41] = (rep (95 + j) [35, 40] ++ [120]) ++ rep (95 + j) [41] := by simp
          generalize (rep (95 + j) [35, 40] ++ [120]) ++ rep (95 + j) [41] = Z at *
          by_cases hk : 95 + j ≤ 100
          · have hkI : (95 : Int) + (j : Int) ≤ 100 := by omega
            have KB := HA1.out W hk
            rw [eT] at KB
            have HB := hide KB
            clear KB
            go_wp2_with (first
              | (go_at_call 10; refine HB.out.mono ?_; rintro e w2 ⟨u2, ao, cap, rfl⟩; have HU2 := hide u2; clear u2)
              | (go_at_call 13; refine (HW.out _).mono ?_; rintro e w3 ⟨rfl, u3⟩))
            go_ret
            exact ⟨rfl, (HUW.out.tr HU2.out).tr u3⟩
          · have hkI : ¬ ((95 : Int) + (j : Int) ≤ 100) := by omega
            have KB := HA2.out W hk
            rw [eT] at KB
            have HB := hide KB
            clear KB
            go_wp2_with (first
              | (go_at_call 10; refine HB.out.mono ?_; rintro e w2 ⟨u2, rfl⟩; have HU2 := hide u2; clear u2)
              | (go_at_call 13; refine (HW.out _).mono ?_; rintro e w3 ⟨rfl, u3⟩))
            go_ret
            exact ⟨rfl, (HUW.out.tr HU2.out).tr u3⟩

set_option maxHeartbeats 8000000 in
set_option maxRecDepth 100000 in
theorem depths_2 (n kind : Int) (j : Nat) (w : World) (hj : j < 10) (hP : ∀ W : World, Calls Try.prog 18 #[.int .i64 n, .int .i64 10] W fun e w' => e = .returned (.int .i64 (j : Int)) ∧ w' = W) (hQ : ∀ W : World, Calls Try.prog 18 #[.int .i64 kind, .int .i64 4] W fun e w' => e = .returned (.int .i64 2) ∧ w' = W) :
    Calls Try.prog 8 #[.int .i64 n, .int .i64 kind] w fun e w' => e = .returned (.bool true) ∧ Up w w' := by
  have KA := fun (W : World) => all_depths (opn_quote) (.inl rfl) (95 + j) (by omega) (by decide) (by decide) (by simp only [List.length_cons, List.length_nil]; omega) (by decide) W
  have KA1 : ∀ (W : World), 95 + j ≤ 100 → Calls Try.prog 10 #[.string ⟨(rep (95 + j) [39] ++ 120 :: rep (95 + j) []).toArray⟩] W fun e w' => Up W w' ∧ ∃ ao cap, e = .returned (.tuple #[.slice ao 1 cap, .int .i64 0, .int .i64 0]) := fun W hk => (KA W).mono fun e w' h => ⟨h.1, by rcases h.2 with h | h; exact h.2; omega⟩
  have KA2 : ∀ (W : World), ¬ 95 + j ≤ 100 → Calls Try.prog 10 #[.string ⟨(rep (95 + j) [39] ++ 120 :: rep (95 + j) []).toArray⟩] W fun e w' => Up W w' ∧ e = .returned (.tuple #[.slice none 0 0, .int .i64 100, .int .i64 16]) := fun W hk => (KA W).mono fun e w' h => ⟨h.1, by rcases h.2 with h | h; omega; exact h.2⟩
  have HP := hide hP
  have HQ := hide hQ
  have HA1 := hide KA1
  have HA2 := hide KA2
  have HW := hide (fun (W : World) => awake_any W)
  have hjI : (j : Int) < 10 := by omega
  have hj0 : (0 : Int) ≤ (j : Int) := by omega
  clear hP hQ KA KA1 KA2
  go_enter Try.func8, Try.ntmps8
  go_wp2_with (first
    | (go_at_call_of 18 n; refine (HP.out _).mono ?_; rintro e w1 ⟨rfl, hw⟩; replace hw := hw.symm; subst hw)
    | (go_at_call_of 18 kind; refine (HQ.out _).mono ?_; rintro e w1 ⟨rfl, hw⟩; replace hw := hw.symm; subst hw))
  have HUW : Hid (Up w (w.alloc (.cells #[.string ⟨#[40]⟩, .string ⟨#[35, 40]⟩, .string ⟨#[39]⟩, .string ⟨#[40, 97, 32]⟩] 9))) := hide (up_alloc _ _)
  generalize w.alloc (.cells #[.string ⟨#[40]⟩, .string ⟨#[35, 40]⟩, .string ⟨#[39]⟩, .string ⟨#[40, 97, 32]⟩] 9) = W at *
  go_loopw [7, 8] (fun a7 a8 wr => wr = W ∧ ∃ i : Nat, i ≤ 95 + j ∧ a8 = .int .i64 (i : Int) ∧ a7 = .string ⟨(rep i [39]).toArray⟩) (fun _ a8 _ => 95 + j - (intOf a8).toNat)
  case atStart => exact ⟨rfl, 0, Nat.zero_le _, rfl, by simp [rep]⟩
  case round =>
    obtain ⟨hwW, i, hi, rfl, rfl⟩ := hrel
    replace hwW := hwW.symm
    subst hwW
    by_cases hlt : i < 95 + j
    · have hiI : (i : Int) < 95 + (j : Int) := by omega
      have e1 := rep_cat i [39]
      have zS : (⟨(rep i [39]).toArray⟩ : ByteArray).size ≤ 400 := by rw [size_arr, rep_len]; simp only [List.length_cons, List.length_nil]; omega
      generalize (⟨(rep i [39]).toArray⟩ : ByteArray) = S at *
      have HE := hide e1
      clear e1
      go_wp2_with fail
      refine ⟨⟨by trivial, i + 1, by omega, by go_num, by rw [← HE.out]⟩, ?_⟩
      simp [intOf]
      omega
    · obtain rfl : i = 95 + j := by omega
      have hiI : ¬ (((95 + j : Nat) : Int) < 95 + (j : Int)) := by omega
      have hiN : ¬ ((95 : Int) + (j : Int) < 95 + (j : Int)) := by omega
      have e1 := cat_bytes (rep (95 + j) [39]) [120]
      have zS : (⟨(rep (95 + j) [39]).toArray⟩ : ByteArray).size ≤ 400 := by rw [size_arr, rep_len]; simp only [List.length_cons, List.length_nil]; omega
      generalize hS : (⟨(rep (95 + j) [39]).toArray⟩ : ByteArray) = S at *
      have HE := hide e1
      clear e1 hS
      have eT : rep (95 + j) [39] ++ 120 :: rep (95 + j) [] = rep (95 + j) [39] ++ [120] := by simp [rep]
      by_cases hk : 95 + j ≤ 100
      · have hkI : (95 : Int) + (j : Int) ≤ 100 := by omega
        have KB := HA1.out W hk
        rw [eT, ← HE.out] at KB
        have HB := hide KB
        clear KB
        go_wp2_with (first
          | (go_at_call 10; refine HB.out.mono ?_; rintro e w2 ⟨u2, ao, cap, rfl⟩; have HU2 := hide u2; clear u2)
          | (go_at_call 13; refine (HW.out _).mono ?_; rintro e w3 ⟨rfl, u3⟩))
        go_ret
        exact ⟨rfl, (HUW.out.tr HU2.out).tr u3⟩
      · have hkI : ¬ ((95 : Int) + (j : Int) ≤ 100) := by omega
        have KB := HA2.out W hk
        rw [eT, ← HE.out] at KB
        have HB := hide KB
        clear KB
        go_wp2_with (first
          | (go_at_call 10; refine HB.out.mono ?_; rintro e w2 ⟨u2, rfl⟩; have HU2 := hide u2; clear u2)
          | (go_at_call 13; refine (HW.out _).mono ?_; rintro e w3 ⟨rfl, u3⟩))
        go_ret
        exact ⟨rfl, (HUW.out.tr HU2.out).tr u3⟩

set_option maxHeartbeats 8000000 in
set_option maxRecDepth 100000 in
theorem depths_3 (n kind : Int) (j : Nat) (w : World) (hj : j < 10) (hP : ∀ W : World, Calls Try.prog 18 #[.int .i64 n, .int .i64 10] W fun e w' => e = .returned (.int .i64 (j : Int)) ∧ w' = W) (hQ : ∀ W : World, Calls Try.prog 18 #[.int .i64 kind, .int .i64 4] W fun e w' => e = .returned (.int .i64 3) ∧ w' = W) :
    Calls Try.prog 8 #[.int .i64 n, .int .i64 kind] w fun e w' => e = .returned (.bool true) ∧ Up w w' := by
  have KA := fun (W : World) => all_depths (opn_a) (.inr rfl) (95 + j) (by omega) (by decide) (by decide) (by simp only [List.length_cons, List.length_nil]; omega) (by decide) W
  have KA1 : ∀ (W : World), 95 + j ≤ 100 → Calls Try.prog 10 #[.string ⟨(rep (95 + j) [40, 97, 32] ++ 120 :: rep (95 + j) [41]).toArray⟩] W fun e w' => Up W w' ∧ ∃ ao cap, e = .returned (.tuple #[.slice ao 1 cap, .int .i64 0, .int .i64 0]) := fun W hk => (KA W).mono fun e w' h => ⟨h.1, by rcases h.2 with h | h; exact h.2; omega⟩
  have KA2 : ∀ (W : World), ¬ 95 + j ≤ 100 → Calls Try.prog 10 #[.string ⟨(rep (95 + j) [40, 97, 32] ++ 120 :: rep (95 + j) [41]).toArray⟩] W fun e w' => Up W w' ∧ e = .returned (.tuple #[.slice none 0 0, .int .i64 300, .int .i64 16]) := fun W hk => (KA W).mono fun e w' h => ⟨h.1, by rcases h.2 with h | h; omega; exact h.2⟩
  have HP := hide hP
  have HQ := hide hQ
  have HA1 := hide KA1
  have HA2 := hide KA2
  have HW := hide (fun (W : World) => awake_any W)
  have hjI : (j : Int) < 10 := by omega
  have hj0 : (0 : Int) ≤ (j : Int) := by omega
  clear hP hQ KA KA1 KA2
  go_enter Try.func8, Try.ntmps8
  go_wp2_with (first
    | (go_at_call_of 18 n; refine (HP.out _).mono ?_; rintro e w1 ⟨rfl, hw⟩; replace hw := hw.symm; subst hw)
    | (go_at_call_of 18 kind; refine (HQ.out _).mono ?_; rintro e w1 ⟨rfl, hw⟩; replace hw := hw.symm; subst hw))
  have HUW : Hid (Up w (w.alloc (.cells #[.string ⟨#[40]⟩, .string ⟨#[35, 40]⟩, .string ⟨#[39]⟩, .string ⟨#[40, 97, 32]⟩] 9))) := hide (up_alloc _ _)
  generalize w.alloc (.cells #[.string ⟨#[40]⟩, .string ⟨#[35, 40]⟩, .string ⟨#[39]⟩, .string ⟨#[40, 97, 32]⟩] 9) = W at *
  go_loopw [7, 8] (fun a7 a8 wr => wr = W ∧ ∃ i : Nat, i ≤ 95 + j ∧ a8 = .int .i64 (i : Int) ∧ a7 = .string ⟨(rep i [40, 97, 32]).toArray⟩) (fun _ a8 _ => 95 + j - (intOf a8).toNat)
  case atStart => exact ⟨rfl, 0, Nat.zero_le _, rfl, by simp [rep]⟩
  case round =>
    obtain ⟨hwW, i, hi, rfl, rfl⟩ := hrel
    replace hwW := hwW.symm
    subst hwW
    by_cases hlt : i < 95 + j
    · have hiI : (i : Int) < 95 + (j : Int) := by omega
      have e1 := rep_cat i [40, 97, 32]
      have zS : (⟨(rep i [40, 97, 32]).toArray⟩ : ByteArray).size ≤ 400 := by rw [size_arr, rep_len]; simp only [List.length_cons, List.length_nil]; omega
      generalize (⟨(rep i [40, 97, 32]).toArray⟩ : ByteArray) = S at *
      have HE := hide e1
      clear e1
      go_wp2_with fail
      refine ⟨⟨by trivial, i + 1, by omega, by go_num, by rw [← HE.out]⟩, ?_⟩
      simp [intOf]
      omega
    · obtain rfl : i = 95 + j := by omega
      have hiI : ¬ (((95 + j : Nat) : Int) < 95 + (j : Int)) := by omega
      have hiN : ¬ ((95 : Int) + (j : Int) < 95 + (j : Int)) := by omega
      have e1 := cat_bytes (rep (95 + j) [40, 97, 32]) [120]
      have zS : (⟨(rep (95 + j) [40, 97, 32]).toArray⟩ : ByteArray).size ≤ 400 := by rw [size_arr, rep_len]; simp only [List.length_cons, List.length_nil]; omega
      generalize hS : (⟨(rep (95 + j) [40, 97, 32]).toArray⟩ : ByteArray) = S at *
      have HE := hide e1
      clear e1 hS
      go_wp2_with fail
      rw [HE.out]
      clear HE zS
      go_loopw [7, 9] (fun a7 a9 wr => wr = W ∧ ∃ i : Nat, i ≤ 95 + j ∧ a9 = .int .i64 (i : Int) ∧ a7 = .string ⟨((rep (95 + j) [40, 97, 32] ++ [120]) ++ rep i [41]).toArray⟩) (fun _ a9 _ => 95 + j - (intOf a9).toNat)
      case atStart => exact ⟨rfl, 0, Nat.zero_le _, rfl, by simp [rep]⟩
      case round =>
        obtain ⟨hwW, i, hi, rfl, rfl⟩ := hrel
        replace hwW := hwW.symm
        subst hwW
        by_cases hlt : i < 95 + j
        · have hiI : (i : Int) < 95 + (j : Int) := by omega
          have e1 := cl_cat (rep (95 + j) [40, 97, 32] ++ [120]) i [41]
          have zS : (⟨((rep (95 + j) [40, 97, 32] ++ [120]) ++ rep i [41]).toArray⟩ : ByteArray).size ≤ 600 := by rw [size_arr, List.length_append, List.length_append, rep_len, rep_len]; simp only [List.length_cons, List.length_nil]; omega
          generalize (⟨((rep (95 + j) [40, 97, 32] ++ [120]) ++ rep i [41]).toArray⟩ : ByteArray) = S2 at *
          have HE := hide e1
          clear e1
          go_wp2_with fail
          refine ⟨⟨by trivial, i + 1, by omega, by go_num, by rw [← HE.out]⟩, ?_⟩
          simp [intOf]
          omega
        · obtain rfl : i = 95 + j := by omega
          have hiI2 : ¬ (((95 + j : Nat) : Int) < 95 + (j : Int)) := by omega
          have eT : rep (95 + j) [40, 97, 32] ++ 120 :: rep (95 + j) [41] = (rep (95 + j) [40, 97, 32] ++ [120]) ++ rep (95 + j) [41] := by simp
          generalize (rep (95 + j) [40, 97, 32] ++ [120]) ++ rep (95 + j) [41] = Z at *
          by_cases hk : 95 + j ≤ 100
          · have hkI : (95 : Int) + (j : Int) ≤ 100 := by omega
            have KB := HA1.out W hk
            rw [eT] at KB
            have HB := hide KB
            clear KB
            go_wp2_with (first
              | (go_at_call 10; refine HB.out.mono ?_; rintro e w2 ⟨u2, ao, cap, rfl⟩; have HU2 := hide u2; clear u2)
              | (go_at_call 13; refine (HW.out _).mono ?_; rintro e w3 ⟨rfl, u3⟩))
            go_ret
            exact ⟨rfl, (HUW.out.tr HU2.out).tr u3⟩
          · have hkI : ¬ ((95 : Int) + (j : Int) ≤ 100) := by omega
            have KB := HA2.out W hk
            rw [eT] at KB
            have HB := hide KB
            clear KB
            go_wp2_with (first
              | (go_at_call 10; refine HB.out.mono ?_; rintro e w2 ⟨u2, rfl⟩; have HU2 := hide u2; clear u2)
              | (go_at_call 13; refine (HW.out _).mono ?_; rintro e w3 ⟨rfl, u3⟩))
            go_ret
            exact ⟨rfl, (HUW.out.tr HU2.out).tr u3⟩

theorem readDepths_any (n kind : Int) (w : World) (h1 : -9223372036854775808 ≤ n) (h2 : n ≤ 9223372036854775807) (k1 : -9223372036854775808 ≤ kind) (k2 : kind ≤ 9223372036854775807) :
    Calls Try.prog 8 #[.int .i64 n, .int .i64 kind] w fun e w' => e = .returned (.bool true) ∧ Up w w' := by
  have hP := fun (W : World) => place_any n 10 W (by decide) (by decide) h1 h2
  have hQ := fun (W : World) => place_any kind 4 W (by decide) (by decide) k1 k2
  have hj : (n % ((10 : Nat) : Int)).toNat < 10 := by omega
  have hm : (kind % ((4 : Nat) : Int)).toNat = 0 ∨ (kind % ((4 : Nat) : Int)).toNat = 1 ∨ (kind % ((4 : Nat) : Int)).toNat = 2 ∨ (kind % ((4 : Nat) : Int)).toNat = 3 := by omega
  rcases hm with hm | hm | hm | hm
  · rw [hm] at hQ; exact depths_0 n kind _ w hj hP hQ
  · rw [hm] at hQ; exact depths_1 n kind _ w hj hP hQ
  · rw [hm] at hQ; exact depths_2 n kind _ w hj hP hQ
  · rw [hm] at hQ; exact depths_3 n kind _ w hj hP hQ


end Go.Proofs.Yteipogfolnlblaa
