/-
  What is proved here: two tables that say the same have the same feeds; tandemlaw14.same.
-/
import Derived.Test.YtcefeclgehijpaaFPure
namespace Go.Proofs.Ytcefeclgehijpaa
open Go Go.RowKit

def keyF (f : Fd) : Int × Int := (f.p, f.c)
theorem look_of {T : List PL} (ky : (T.map fun x => (x.e.p, x.e.c)).Nodup) : ∀ x ∈ T, look x.e.p x.e.c (T.map PL.pm) = (x.m, x.k) := by
  induction T with
  | nil => intro x hx; cases hx
  | cons y T ih =>
    intro x hx
    simp only [List.map_cons, look]
    rw [List.map_cons, List.nodup_cons] at ky
    rcases List.mem_cons.1 hx with rfl | hx
    · rw [if_pos ⟨rfl, rfl⟩]
      rfl
    · rw [if_neg]
      · exact ih ky.2 x hx
      · rintro ⟨e1, e2⟩
        refine ky.1 (List.mem_map.2 ⟨x, hx, ?_⟩)
        simp only [PL.pm] at e1 e2
        rw [e1, e2]
theorem of_look {T : List PL} {p c : Int} {v : Int × Int} (h : look p c (T.map PL.pm) = v) (hv : v ≠ (0, -1)) : ∃ x ∈ T, x.e.p = p ∧ x.e.c = c ∧ (x.m, x.k) = v := by
  induction T with
  | nil => exact absurd h.symm hv
  | cons y T ih =>
    simp only [List.map_cons, look] at h
    split at h
    · rename_i hk
      exact ⟨y, by simp, hk.1.symm, hk.2.symm, h⟩
    · obtain ⟨x, hx, hr⟩ := ih h
      exact ⟨x, by simp [hx], hr⟩
theorem fds_mem {T : List PL} (ky : (T.map fun x => (x.e.p, x.e.c)).Nodup) (f : Fd) : f ∈ fds T ↔ look f.p f.c (T.map PL.pm) = f.mk2 ∧ f.mk2 ≠ (0, -1) := by
  constructor
  · intro h
    obtain ⟨x, hx, rfl⟩ := List.mem_map.1 h
    obtain ⟨hx, hs⟩ := List.mem_filter.1 hx
    refine ⟨look_of ky x hx, ?_⟩
    intro e
    simp only [Fd.mk2, PL.fd, Prod.mk.injEq] at e
    simp [PL.saw, e] at hs
  · rintro ⟨h1, h2⟩
    obtain ⟨x, hx, e1, e2, e3⟩ := of_look h1 h2
    refine List.mem_map.2 ⟨x, List.mem_filter.2 ⟨hx, ?_⟩, ?_⟩
    · unfold PL.saw
      simp only [Fd.mk2, Prod.mk.injEq] at e3 h2
      rw [e3.1, e3.2, Bool.not_eq_true', decide_eq_false_iff_not]
      rintro ⟨q1, q2⟩
      exact h2 (by rw [q1, q2])
    · simp only [Fd.mk2, Prod.mk.injEq] at e3
      cases f
      simp_all [PL.fd]
theorem fds_keys {T : List PL} (ky : (T.map fun x => (x.e.p, x.e.c)).Nodup) : ((fds T).map keyF).Nodup := by
  have e : (fds T).map keyF = (T.filter PL.saw).map fun x => (x.e.p, x.e.c) := by
    unfold fds
    rw [List.map_map]
    rfl
  rw [e]
  exact ((List.filter_sublist).map _).nodup ky
theorem strict_of {L : List Fd} (hk : (L.map keyF).Nodup) (h : L.Pairwise (fun x y => ¬ ltF y x)) : L.Pairwise ltF := by
  have h2 := List.pairwise_map.1 hk
  refine (h.and h2).imp ?_
  rintro a b ⟨h1, h3⟩
  unfold ltF at *
  simp only [keyF, ne_eq, Prod.mk.injEq] at h3
  omega
theorem all_same {T T' : List PL} {L L' : List Fd} (ky : (T.map fun x => (x.e.p, x.e.c)).Nodup) (ky' : (T'.map fun x => (x.e.p, x.e.c)).Nodup) (hv : ∀ p c, look p c (T.map PL.pm) = look p c (T'.map PL.pm))
    (h1 : L.Perm (fds T)) (h2 : L'.Perm (fds T')) (s1 : L.Pairwise (fun x y => ¬ ltF y x)) (s2 : L'.Pairwise (fun x y => ¬ ltF y x)) : L = L' := by
  have k1 := fds_keys ky
  have k2 := fds_keys ky'
  have n1 : (fds T).Nodup := (List.pairwise_map.1 k1).imp (fun h e => h (by rw [e]))
  have n2 : (fds T').Nodup := (List.pairwise_map.1 k2).imp (fun h e => h (by rw [e]))
  have hp : (fds T).Perm (fds T') := by
    rw [List.perm_ext_iff_of_nodup n1 n2]
    intro f
    rw [fds_mem ky, fds_mem ky', hv]
  refine sorted_uniq (strict_of ?_ s1) (strict_of ?_ s2) ((h1.trans hp).trans h2.symm)
  · exact ((h1.map keyF).nodup_iff).2 k1
  · exact ((h2.map keyF).nodup_iff).2 k2

set_option maxRecDepth 20000 in
set_option maxHeartbeats 4000000 in
theorem same_yes (w : World) (ao bo : Option Addr) (n cap cap' : Nat) (g : Nat → Fd) (hn : n ≤ 9223372036854775807) (ha : FRow w ao n g) (hb : FRow w bo n g) :
    Calls Try.prog 18 #[.slice ao n cap, .slice bo n cap'] w fun e w' => e = .returned (.bool true) ∧ Fr (fun _ => False) w w' := by
  have hnn : ((n : Int) != (n : Int)) = false := by simp
  have HA := hide ha
  have HB := hide hb
  clear ha hb
  go_enter Try.func18, Try.ntmps18
  go_wp2_with fail
  go_loopw [5] (fun u wr => ∃ i : Nat, u = .int .i64 (i : Int) ∧ i ≤ n ∧ ∃ q, wr = w.drewN q) (fun u _ => n - (intOf u).toNat)
  case atStart => exact ⟨0, rfl, Nat.zero_le _, 0, rfl⟩
  case round =>
    obtain ⟨i, rfl, hi, q, rfl⟩ := hrel
    by_cases hil : i < n
    · have hiI : (i : Int) < (n : Int) := by omega
      obtain ⟨b, off, rfl, hc⟩ : ∃ b off, ao = some ⟨b, off, none⟩ ∧ ∀ i, i < n → w.cell? ⟨b, off + i * 4, none⟩ = some (.int .i64 (g i).p) ∧ w.cell? ⟨b, off + i * 4 + 1, none⟩ = some (.int .i64 (g i).c) ∧ w.cell? ⟨b, off + i * 4 + 2, none⟩ = some (.int .i64 (g i).m) ∧ w.cell? ⟨b, off + i * 4 + 3, none⟩ = some (.int .i64 (g i).k) := by
        rcases HA.out with e | e
        · omega
        · exact e
      obtain ⟨b', off', rfl, hc'⟩ : ∃ b off, bo = some ⟨b, off, none⟩ ∧ ∀ i, i < n → w.cell? ⟨b, off + i * 4, none⟩ = some (.int .i64 (g i).p) ∧ w.cell? ⟨b, off + i * 4 + 1, none⟩ = some (.int .i64 (g i).c) ∧ w.cell? ⟨b, off + i * 4 + 2, none⟩ = some (.int .i64 (g i).m) ∧ w.cell? ⟨b, off + i * 4 + 3, none⟩ = some (.int .i64 (g i).k) := by
        rcases HB.out with e | e
        · omega
        · exact e
      obtain ⟨q0, q1, q2, q3⟩ := hc i hil
      obtain ⟨y0, y1, y2, y3⟩ := hc' i hil
      generalize g i = f at *
      clear hc hc'
      go_wp2_with fail
      go_quiet (fail)
      go_wp2_with fail
      exact ⟨⟨i + 1, by go_num, hil, _, rfl⟩, by simp [intOf]; omega⟩
    · have e : i = n := by omega
      subst e
      have hil' : ¬ ((i : Int) < (i : Int)) := by omega
      clear hil
      go_wp2_with fail
      go_ret
      exact ⟨rfl, (Fr.refl _ _).drewN _⟩

end Go.Proofs.Ytcefeclgehijpaa
