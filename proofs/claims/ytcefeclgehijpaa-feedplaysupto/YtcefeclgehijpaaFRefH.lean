/-
  What is proved here: At and All (the document's table, tandemref14).
-/
import Derived.Test.YtcefeclgehijpaaFRefI
import Derived.Test.YtcefeclgehijpaaFSame
namespace Go.Proofs.Ytcefeclgehijpaa
open Go Go.RowKit

theorem look_at {p c : Int} : ∀ {M : List PM} {i : Nat} {x : PM}, (∀ j, j < i → ∀ y, M[j]? = some y → ¬ (p = y.p ∧ c = y.c)) → M[i]? = some x → p = x.p ∧ c = x.c → look p c M = (x.m, x.k)
  | [], _, _, _, h, _ => by simp at h
  | y :: M, 0, x, _, h, hk => by
    simp at h
    subst h
    simp [look, hk]
  | y :: M, i + 1, x, hn, h, hk => by
    have h0 : ¬ (p = y.p ∧ c = y.c) := hn 0 (by omega) y rfl
    simp only [look]
    rw [if_neg h0]
    exact look_at (M := M) (i := i) (fun j hj z hz => hn (j + 1) (by omega) z (by simpa using hz)) (by simpa using h) hk
theorem look_end {p c : Int} : ∀ {M : List PM}, (∀ j, j < M.length → ∀ y, M[j]? = some y → ¬ (p = y.p ∧ c = y.c)) → look p c M = (0, -1)
  | [], _ => rfl
  | y :: M, hn => by
    have h0 : ¬ (p = y.p ∧ c = y.c) := hn 0 (by simp) y rfl
    simp only [look]
    rw [if_neg h0]
    exact look_end (M := M) (fun j hj z hz => hn (j + 1) (by simpa using hj) z (by simpa using hz))

set_option maxRecDepth 20000 in
set_option maxHeartbeats 4000000 in
theorem rat_any (w : World) (base b : Nat) (M : List PM) (u v : Value) (h : RT w base b M u v) (p c : Int) (hM : M.length ≤ 9223372036854775807) :
    Calls Try.prog 17 #[.pointer (some ⟨b, 0, none⟩), .int .i64 p, .int .i64 c] w fun e w' => e = .returned (fdV p c (look p c M).1 (look p c M).2) ∧ Fr (fun _ => False) w w' := by
  obtain ⟨m0, hm0⟩ : ∃ m, m = (look p c M).1 := ⟨_, rfl⟩
  obtain ⟨k0, hk0⟩ : ∃ m, m = (look p c M).2 := ⟨_, rfl⟩
  rw [← hm0, ← hk0]
  obtain ⟨ao, cap, rfl⟩ := row_shape h.fs
  have hbl := lt_of_block h.tb
  have h1 := h.same ((Fr.refl _ w).alloc (.cells #[.int .i64 0, .int .i64 0, .int .i64 0, .int .i64 0] 37))
  have HT := hide h1
  have c0 := h1.c0
  have z0 := heap_alloc_new w (.cells #[.int .i64 0, .int .i64 0, .int .i64 0, .int .i64 0] 37)
  clear h h1
  go_enter Try.func17, Try.ntmps17
  go_wp2_with fail
  go_loopw [7] (fun x wr => wr = w.alloc (.cells #[.int .i64 0, .int .i64 0, .int .i64 0, .int .i64 0] 37) ∧ ∃ i : Nat, x = .int .i64 (i : Int) ∧ i ≤ M.length ∧ ∀ j, j < i → ∀ y, M[j]? = some y → ¬ (p = y.p ∧ c = y.c)) (fun x _ => M.length - (intOf x).toNat)
  case atStart => exact ⟨rfl, 0, rfl, Nat.zero_le _, fun j hj => by omega⟩
  case round =>
    obtain ⟨rfl, j, rfl, hj, hne⟩ := hrel
    by_cases hjl : j < M.length
    · have hjI : (j : Int) < (M.length : Int) := by omega
      obtain ⟨x, hx⟩ : ∃ x, M[j]? = some x := ⟨_, List.getElem?_eq_getElem hjl⟩
      obtain ⟨g, cap2, g', cap', e1, -, q0, q1, q2, q3, -, hml⟩ := HT.out.at hx
      cases e1
      by_cases h1 : x.p = p
      · by_cases h2 : x.c = c
        · subst h1 h2
          have e := look_at hne hx ⟨rfl, rfl⟩
          rw [e] at hm0 hk0
          dsimp only at hm0 hk0
          subst hm0 hk0
          clear hne e
          go_wp2_with fail
          refine bodyPost_ret (by simp [results, Try.results17, go_sem]; rfl) rfl ?_
          exact ⟨rfl, (Fr.refl _ _).alloc _⟩
        · subst h1
          have HNE := hide hne
          clear hne
          go_wp2_with fail
          refine ⟨⟨trivial, j + 1, by go_num, hjl, fun k hk y hy => ?_⟩, by simp [intOf]; omega⟩
          by_cases e : k = j
          · subst e
            rw [hx] at hy
            cases hy
            exact fun e => h2 e.2.symm
          · exact HNE.out k (by omega) y hy
      · have HNE := hide hne
        clear hne
        go_wp2_with fail
        refine ⟨⟨trivial, j + 1, by go_num, hjl, fun k hk y hy => ?_⟩, by simp [intOf]; omega⟩
        by_cases e : k = j
        · subst e
          rw [hx] at hy
          cases hy
          exact fun e => h1 e.1.symm
        · exact HNE.out k (by omega) y hy
    · have e : j = M.length := by omega
      subst e
      have e := look_end hne
      rw [e] at hm0 hk0
      dsimp only at hm0 hk0
      subst hm0 hk0
      have hjI : ¬ ((M.length : Int) < (M.length : Int)) := by omega
      clear hne hjl e
      go_wp2_with fail
      refine bodyPost_ret (by simp [results, Try.results17, go_sem]; rfl) rfl ?_
      exact ⟨rfl, (Fr.refl _ _).alloc _⟩

end Go.Proofs.Ytcefeclgehijpaa
