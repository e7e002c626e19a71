/-
  What is proved here: Call and Enter (package feed).
-/
import Derived.Test.YtcefeclgehijpaaFSee
namespace Go.Proofs.Ytcefeclgehijpaa
open Go Go.RowKit

/-- How often a place was entered goes up by one. -/
def entS (p c : Int) : List PM → List PM
  | [] => [⟨p, c, 0, -1, 1⟩]
  | x :: S => if p = x.p ∧ c = x.c then { x with n := x.n + 1 } :: S else x :: entS p c S
def times (p c : Int) : List PM → Int
  | [] => 0
  | x :: S => if p = x.p ∧ c = x.c then x.n else times p c S
theorem ent_none {p c : Int} : ∀ {T : List PL} {j : Nat}, fnd p c (T.map PL.e) j = none → entS p c (T.map PL.pm) = T.map PL.pm ++ [⟨p, c, 0, -1, 1⟩] ∧ times p c (T.map PL.pm) = 0
  | [], _, _ => ⟨rfl, rfl⟩
  | x :: T, j, h => by
    simp only [List.map_cons, fnd] at h
    split at h
    · cases h
    · rename_i hne
      obtain ⟨h1, h2⟩ := ent_none h
      simp only [List.map_cons, entS, times]
      rw [if_neg (show ¬ (p = x.pm.p ∧ c = x.pm.c) from hne), if_neg (show ¬ (p = x.pm.p ∧ c = x.pm.c) from hne), h1]
      exact ⟨rfl, h2⟩
theorem ent_some {p c : Int} : ∀ {T : List PL} {i j : Nat} {e : PE} {x : PL}, fnd p c (T.map PL.e) j = some (i, e) → T[i - j]? = some x → entS p c (T.map PL.pm) = (T.set (i - j) ⟨x.e, x.m, x.k, x.n + 1⟩).map PL.pm ∧ times p c (T.map PL.pm) = x.n
  | [], _, _, _, _, h, _ => by cases h
  | y :: T, i, j, e, x, h, hx => by
    simp only [List.map_cons, fnd] at h
    split at h
    · rename_i he
      cases h
      simp at hx
      subst hx
      simp only [List.map_cons, entS, times]
      rw [if_pos (show p = y.pm.p ∧ c = y.pm.c from he), if_pos (show p = y.pm.p ∧ c = y.pm.c from he)]
      simp [PL.pm]
    · rename_i hne
      have h1 := fnd_some h
      rw [show i - j = (i - (j + 1)) + 1 by omega] at hx ⊢
      obtain ⟨h2, h3⟩ := ent_some h (by simpa using hx)
      simp only [List.map_cons, entS, times, List.set_cons_succ]
      rw [if_neg (show ¬ (p = y.pm.p ∧ c = y.pm.c) from hne), if_neg (show ¬ (p = y.pm.p ∧ c = y.pm.c) from hne), h2]
      exact ⟨rfl, h3⟩

set_option maxRecDepth 20000 in
set_option maxHeartbeats 4000000 in
theorem call_any (w : World) (t r clock : Nat) (T : List PL) (h : TabAt w t r T clock) (p c cc : Int) :
    Calls Try.prog 10 #[.pointer (some ⟨t, 0, none⟩), .int .i64 p, .int .i64 c, .int .i64 cc] w fun e w' => e = .returned (.tuple #[]) ∧ Adv w w' t r T (addS (T.map PL.pm) ⟨p, c, 0, if cc < 0 then -2 else cc⟩) := by
  obtain ⟨k, hk⟩ : ∃ k, k = if cc < 0 then -2 else cc := ⟨_, rfl⟩
  rw [← hk]
  have HT := hide h
  have K1 := hide (fun W => unseen_eq W p c)
  clear h
  have fin : Hid (∀ (wr : World) (g : Nat), g = wr.heap.size → Fr (fun _ => False) w wr → Calls Try.prog 14 #[.pointer (some ⟨t, 0, none⟩), .slice (some ⟨g, 0, none⟩) 1 1] (wr.alloc (.cells #[.int .i64 p, .int .i64 c, .int .i64 0, .int .i64 k] 37)) fun e w' => e = .returned (.tuple #[]) ∧ Adv w w' t r T (addS (T.map PL.pm) ⟨p, c, 0, k⟩)) := by
    intro wr g hg F
    subst hg
    have hb2 : FB (wr.alloc (.cells #[.int .i64 p, .int .i64 c, .int .i64 0, .int .i64 k] 37)) wr.heap.size ⟨p, c, 0, k⟩ := heap_alloc_new wr _
    have F2 : Fr (fun _ => False) w (wr.alloc (.cells #[.int .i64 p, .int .i64 c, .int .i64 0, .int .i64 k] 37)) := F.alloc _
    refine (add_any _ t r clock T (HT.out.same F2) (some ⟨wr.heap.size, 0, none⟩) 1 1 (fun _ => ⟨p, c, 0, k⟩) (by omega) hb2.row (fun b off e _ => ?_)).mono ?_
    · cases e
      exact ⟨by simp, fun hk => by have := HT.out.lt _ hk; have := F.size; omega⟩
    · rintro e' w' ⟨rfl, A⟩
      exact ⟨rfl, Adv.ahead HT.out F2 A⟩
  by_cases hc : cc < 0
  · rw [if_pos hc] at hk
    subst hk
    go_enter Try.func10, Try.ntmps10
    go_wp2_with (first
      | (go_at_call 24; refine (K1.out _).mono ?_; rintro e1 w2 ⟨rfl, rfl⟩; unfold fdV)
      | (go_at_call 14; refine (fin.out ((w.alloc (.cells #[.int .i64 p, .int .i64 c, .int .i64 0, .int .i64 (-1)] 37)).alloc (.cells #[.int .i64 p, .int .i64 c, .int .i64 0, .int .i64 (-2)] 37)) _ (by simp) (((Fr.refl _ _).alloc _).alloc _)).mono ?_; rintro e3 w3 ⟨rfl, A3⟩; have HA3 := hide A3; clear A3))
    go_end0
    exact ⟨rfl, HA3.out⟩
  · rw [if_neg hc] at hk
    subst hk
    go_enter Try.func10, Try.ntmps10
    go_wp2_with (first
      | (go_at_call 24; refine (K1.out _).mono ?_; rintro e1 w2 ⟨rfl, rfl⟩; unfold fdV)
      | (go_at_call 14; refine (fin.out ((w.alloc (.cells #[.int .i64 p, .int .i64 c, .int .i64 0, .int .i64 (-1)] 37)).alloc (.cells #[.int .i64 p, .int .i64 c, .int .i64 0, .int .i64 k] 37)) _ (by simp) (((Fr.refl _ _).alloc _).alloc _)).mono ?_; rintro e3 w3 ⟨rfl, A3⟩; have HA3 := hide A3; clear A3))
    go_end0
    exact ⟨rfl, HA3.out⟩

theorem adv_newN {wc w3 wf : World} {t r c1 a : Nat} {T1 : List PL} {p c m k n : Int} (F3 : Fr (fun j => j = r) wc w3) (hal : wc.heap.size ≤ a)
    (A3 : TabAt w3 t r (T1 ++ [⟨⟨p, c, a, c1⟩, 0, -1, 0⟩]) (c1 + 1)) (D : PB wf a (.int .i64 p) (.int .i64 c) (.int .i64 m) (.int .i64 k) (.int .i64 n)) (Fs : Fr (fun j => j = a) w3 wf) :
    Adv wc wf t r T1 (T1.map PL.pm ++ [⟨p, c, m, k, n⟩]) := by
  have hx : (T1 ++ [(⟨⟨p, c, a, c1⟩, 0, -1, 0⟩ : PL)])[T1.length]? = some ⟨⟨p, c, a, c1⟩, 0, -1, 0⟩ := by simp
  refine ⟨(T1 ++ [(⟨⟨p, c, a, c1⟩, 0, -1, 0⟩ : PL)]).set T1.length ⟨⟨p, c, a, c1⟩, m, k, n⟩, c1 + 1, A3.put (m := m) (k := k) (n := n) hx D (fun j hj hl => Fs.block j hl hj), ?_, ?_, ?_⟩
  · have q1 : Fr (tfoot t r T1) wc w3 := F3.mono (fun _ _ e => .inr (.inl e))
    exact q1.trans Fs (fun j hj e => by omega)
  · intro j hj
    rcases hj with e | e | ⟨z, hz, rfl⟩
    · exact .inl (.inl e)
    · exact .inl (.inr (.inl e))
    · rcases set_mem hz with rfl | hz
      · exact .inr hal
      · rcases List.mem_append.1 hz with hz | hz
        · exact .inl (.inr (.inr ⟨z, hz, rfl⟩))
        · rw [List.mem_singleton] at hz
          subst hz
          exact .inr hal
  · simp [PL.pm]
theorem fr_set1 (w : World) (a i : Nat) (v : Value) : Fr (fun j => j = a) w (w.setCell ⟨a, i, none⟩ v) := by
  have h0 : Fr (fun j => j = a) w w := Fr.refl _ _
  exact h0.setCell (fun _ => rfl) _ _

set_option maxRecDepth 20000 in
set_option maxHeartbeats 4000000 in
theorem enter_any (w : World) (t r clock : Nat) (T : List PL) (h : TabAt w t r T clock) (p c : Int) (hn : ∀ x ∈ T, 0 ≤ x.n ∧ x.n < 9223372036854775807) :
    Calls Try.prog 12 #[.pointer (some ⟨t, 0, none⟩), .int .i64 p, .int .i64 c] w fun e w' => e = .returned (.int .i64 (times p c (T.map PL.pm) + 1)) ∧ Adv w w' t r T (entS p c (T.map PL.pm)) := by
  have HT := hide h
  cases hf : fnd p c (T.map PL.e) 0 with
  | none =>
    obtain ⟨e1, e2⟩ := ent_none hf
    rw [e1, e2]
    have K1 := hide (place_new w t r clock T h p c hf)
    clear h hf e1 e2 hn
    go_enter Try.func12, Try.ntmps12
    go_wp2_with (first
      | (go_at_call 26; refine K1.out.mono ?_; rintro e3 w3 ⟨a, rfl, F3, hal, A3⟩; have hp3 : PB w3 a _ _ _ _ _ := A3.pl ⟨⟨p, c, a, clock⟩, 0, -1, 0⟩ (by simp); have k4 := hp3.k4; have z4 := hp3.fz 4; have HD := hide (hp3.s4 (.int .i64 1)); have k5 := (hp3.s4 (.int .i64 1)).k4; have HF3 := hide F3; have HA3 := hide A3; clear F3 A3 hp3))
    go_ret
    exact ⟨rfl, adv_newN HF3.out hal HA3.out HD.out (fr_set1 _ _ _ _)⟩
  | some ie =>
    obtain ⟨ix, e0⟩ := ie
    obtain ⟨_, hex, -⟩ := fnd_some hf
    obtain ⟨x, hx, rfl⟩ : ∃ x, T[ix]? = some x ∧ x.e = e0 := by
      rw [Nat.sub_zero, List.getElem?_map, Option.map_eq_some_iff] at hex
      exact hex
    obtain ⟨e1, e2⟩ := ent_some (x := x) hf (by simpa using hx)
    rw [e1, e2]
    have K1 := hide (place_old w t r clock T h p c ix x.e hf)
    have hxn := hn x (List.mem_of_getElem? hx)
    have HP0 : Hid (PB w x.e.a (.int .i64 x.e.p) (.int .i64 x.e.c) (.int .i64 x.m) (.int .i64 x.k) (.int .i64 x.n)) := h.pl x (List.mem_of_getElem? hx)
    have HX := hide hx
    clear h hf e1 e2 hn hx hex
    go_enter Try.func12, Try.ntmps12
    go_wp2_with (first
      | (go_at_call 26; refine K1.out.mono ?_; rintro e3 w3 ⟨rfl, F3⟩; have hp3 : PB w3 x.e.a _ _ _ _ _ := (F3.block _ (lt_of_block HP0.out) (fun e => e)).trans HP0.out; have k4 := hp3.k4; have z4 := hp3.fz 4; have HD := hide (hp3.s4 (.int .i64 (x.n + 1))); have k5 := (hp3.s4 (.int .i64 (x.n + 1))).k4; have HF3 := hide F3; clear F3 hp3))
    go_ret
    refine ⟨rfl, ?_⟩
    have := adv_old HT.out HF3.out HX.out (Fr.refl _ _) HD.out (fr_set1 _ _ _ _)
    simpa using this

end Go.Proofs.Ytcefeclgehijpaa
