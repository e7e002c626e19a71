/-
  What is proved here: a program and it with one thing turned have the same bytes only if they are the same; no walk.
-/
import Derived.Test.YtilcigjhogcjkaaPKSp0
import Derived.Test.YtilcigjhogcjkaaPKBulk
namespace Go.Proofs.Ytilcigjhogcjkaa
open Go Go.RowKit

theorem numB_inj : ∀ (a b : Nat), a < 128 ^ 10 → b < 128 ^ 10 → numB a = numB b → a = b := fun a => by
  induction a using Nat.strongRecOn with
  | ind a ih =>
    intro b ha hb h
    by_cases h1 : a < 128
    · by_cases h2 : b < 128
      · rw [numB_lt h1, numB_lt h2] at h
        simpa using h
      · rw [numB_lt h1, numB_ge (by omega) hb] at h
        injection h with h0 _
        omega
    · by_cases h2 : b < 128
      · rw [numB_lt h2, numB_ge (by omega) ha] at h
        injection h with h0 _
        omega
      · rw [numB_ge (by omega) ha, numB_ge (by omega) hb] at h
        injection h with h0 h3
        have := ih (a / 128) (by omega) (b / 128) (by omega) (by omega) h3
        omega
theorem numB_mono : ∀ (a b : Nat), a ≤ b → b < 128 ^ 10 → (numB a).length ≤ (numB b).length := fun a => by
  induction a using Nat.strongRecOn with
  | ind a ih =>
    intro b hab hb
    by_cases h1 : a < 128
    · rw [numB_lt h1]
      exact numB_pos b
    · rw [numB_ge (by omega) (by omega), numB_ge (by omega) hb]
      have := ih (a / 128) (by omega) (b / 128) (by omega) (by omega)
      simp only [List.length_cons]
      omega
/-- A row of bytes as letters. -/
def mp (l : List Nat) : List UInt8 := l.map fun n => UInt8.ofNat n
theorem mp_app (a b : List Nat) : mp (a ++ b) = mp a ++ mp b := List.map_append
theorem mp_len (a : List Nat) : (mp a).length = a.length := List.length_map _
theorem mp_inj {l m : List Nat} (hl : By8 l) (hm : By8 m) (h : mp l = mp m) : l = m := (strL_same hl hm).1 (by rw [beq_iff_eq, strL_list, strL_list]; exact h)
theorem mp_num {a b : Nat} (ha : a ≤ 1099511627776) (hb : b ≤ 1099511627776) (h : mp (numB a) = mp (numB b)) : a = b :=
  numB_inj a b (by omega) (by omega) (mp_inj (num_by8 (by omega)) (num_by8 (by omega)) h)
theorem pg_split {N : Nat} (A C : List (PC N)) (p : PC N) : pgB (A ++ p :: C) = (([84, 65, 78, 68] ++ numB (A.length + (C.length + 1))) ++ A.flatMap proB) ++ (proB p ++ C.flatMap proB) := by
  unfold pgB
  simp only [List.flatMap_append, List.flatMap_cons, List.length_append, List.length_cons, List.append_assoc]
theorem same_turn {N : Nat} (A C : List (PC N)) (p p' : PC N) (h : mp (proB p) = mp (proB p') → p = p') : ((strL (pgB (A ++ p :: C))).toList == (strL (pgB (A ++ p' :: C))).toList) = true ↔ A ++ p :: C = A ++ p' :: C := by
  rw [beq_iff_eq, strL_list, strL_list]
  refine ⟨fun e => ?_, fun e => by rw [e]⟩
  have e' : mp (pgB (A ++ p :: C)) = mp (pgB (A ++ p' :: C)) := e
  rw [pg_split, pg_split, mp_app, mp_app (([84, 65, 78, 68] ++ numB (A.length + (C.length + 1))) ++ A.flatMap proB) (proB p' ++ C.flatMap proB), List.append_cancel_left_eq, mp_app, mp_app, List.append_cancel_right_eq] at e'
  rw [h e']
/-- Fields that are turned. -/
theorem turn_args {N : Nat} (p : PC N) (a : Int) (h : goodP p = true) (ha : 0 ≤ a ∧ a ≤ 1099511627776) (e : mp (proB p) = mp (proB { p with args := a })) : p = { p with args := a } := by
  simp only [goodP, Bool.and_eq_true] at h
  have hn := num_le h.1
  simp only [proB, mp_app, List.append_cancel_left_eq, List.append_cancel_right_eq] at e
  have := mp_num (by omega) (by omega) e
  have : p.args = a := by omega
  rw [← this]
theorem turn_free {N : Nat} (p : PC N) (a : Int) (h : goodP p = true) (ha : 0 ≤ a ∧ a ≤ 1099511627776) (e : mp (proB p) = mp (proB { p with free := a })) : p = { p with free := a } := by
  simp only [goodP, Bool.and_eq_true] at h
  have hn := num_le h.2.1
  simp only [proB, mp_app, List.append_cancel_left_eq, List.append_cancel_right_eq] at e
  have := mp_num (by omega) (by omega) e
  have : p.free = a := by omega
  rw [← this]
theorem turn_rest {N : Nat} (p : PC N) (e : mp (proB p) = mp (proB { p with rest := !p.rest })) : p = { p with rest := !p.rest } := by
  simp only [proB, mp_app, List.append_cancel_left_eq, List.append_cancel_right_eq] at e
  have := mp_inj (flg_by8 _) (flg_by8 _) e
  cases hr : p.rest <;> rw [hr] at this <;> simp [flgB] at this
theorem turn_name {N : Nat} (p : PC N) (s : ByteArray) (hs : s.size = p.nm.size + 1) (hl : p.nm.size ≤ 1099511627776) (e : mp (proB p) = mp (proB { p with nm := s })) : p = { p with nm := s } := by
  exfalso
  have hl2 := congrArg List.length e
  rw [mp_len, mp_len] at hl2
  have hm := numB_mono p.nm.size s.size (by omega) (by omega)
  have h1 : p.nm.data.toList.length = p.nm.size := by rw [Array.length_toList]; rfl
  have h2 : s.data.toList.length = s.size := by rw [Array.length_toList]; rfl
  simp only [proB, txtB, byL, List.length_append, List.length_map, h1, h2] at hl2
  omega
theorem turn_code {N : Nat} (p : PC N) (x : Int × Int × Int) (hl : p.code.length ≤ 1099511627776) (e : mp (proB p) = mp (proB { p with code := p.code ++ [x] })) : p = { p with code := p.code ++ [x] } := by
  exfalso
  have hl2 := congrArg List.length e
  rw [mp_len, mp_len] at hl2
  have hm := numB_mono p.code.length (p.code.length + 1) (by omega) (by omega)
  have h0 : 0 < (insB x).length := by
    unfold insB
    have := numB_pos x.1.toNat
    simp only [List.length_append]
    omega
  simp only [proB, List.flatMap_append, List.flatMap_cons, List.flatMap_nil, List.length_append, List.length_cons, List.length_nil, List.append_nil, Nat.zero_add] at hl2
  omega
theorem turn_names {N : Nat} (p : PC N) (s : ByteArray) (hl : p.ns.length ≤ 1099511627776) (e : mp (proB p) = mp (proB { p with ns := p.ns ++ [s] })) : p = { p with ns := p.ns ++ [s] } := by
  exfalso
  have hl2 := congrArg List.length e
  rw [mp_len, mp_len] at hl2
  have hm := numB_mono p.ns.length (p.ns.length + 1) (by omega) (by omega)
  have h0 : 0 < (txtB s).length := by
    unfold txtB
    have := numB_pos s.size
    simp only [List.length_append]
    omega
  simp only [proB, List.flatMap_append, List.flatMap_cons, List.flatMap_nil, List.length_append, List.length_cons, List.length_nil, List.append_nil, Nat.zero_add] at hl2
  omega
/-- What the statement wants of a program of which one proto is turned. -/
structure Turned {N : Nat} (ps qs : List (PC N)) : Prop where
  len : qs.length = ps.length
  ks : ∀ i (h1 : i < ps.length) (h2 : i < qs.length), ps[i].ks = qs[i].ks
  cd : ∀ i (h1 : i < ps.length) (h2 : i < qs.length), ps[i].code = qs[i].code ∨ ps[i].code.length ≠ qs[i].code.length
  ns : ∀ i (h1 : i < ps.length) (h2 : i < qs.length), ps[i].ns = qs[i].ns ∨ ps[i].ns.length ≠ qs[i].ns.length
  may : mayW qs = true
  bd : ∀ p, p ∈ qs → p.code.length ≤ 10000000 ∧ p.ns.length ≤ 10000000 ∧ (p.ks.map (bk N)).sum ≤ 10000000
  pg : (pgB qs).length ≤ 900000000
  same : ((strL (pgB ps)).toList == (strL (pgB qs)).toList) = true ↔ ps = qs
theorem turned_of {N : Nat} (ps : List (PC N)) (j : Nat) (hj : j < ps.length) (p' : PC N) (hB : (ps.map pbk).sum + 1 ≤ 1048576) (hm : mayW ps = true) (hk : p'.ks = ps[j].ks) (hc : ps[j].code = p'.code ∨ ps[j].code.length ≠ p'.code.length) (hs : ps[j].ns = p'.ns ∨ ps[j].ns.length ≠ p'.ns.length) (hg : goodP p' = true) (hb : pbk p' ≤ pbk ps[j] + 10) (he : mp (proB ps[j]) = mp (proB p') → ps[j] = p') :
    Turned ps (ps.set j p') := by
  have hsplit : ps = ps.take j ++ ps[j] :: ps.drop (j + 1) := by rw [List.getElem_cons_drop, List.take_append_drop]
  have hset : ps.set j p' = ps.take j ++ p' :: ps.drop (j + 1) := by rw [List.set_eq_take_append_cons_drop, if_pos hj]
  have hsum : ((ps.set j p').map pbk).sum + 1 ≤ 2000000 := by
    have h1 : (ps.map pbk).sum = ((ps.take j).map pbk).sum + (pbk ps[j] + ((ps.drop (j + 1)).map pbk).sum) := by
      conv => lhs; rw [hsplit]
      rw [List.map_append, List.sum_append, List.map_cons, List.sum_cons]
    rw [hset, List.map_append, List.sum_append, List.map_cons, List.sum_cons]
    omega
  have hpt := bulk_parts hsum
  have hpg := pg_len (ps.set j p')
  have hk2 : ∀ q : List (PC N), kA q q.length = (q.map fun p => ptsA N p.ks).sum := fun q => by
    unfold kA
    rw [List.take_length]
  refine ⟨List.length_set, fun i h1 h2 => ?_, fun i h1 h2 => ?_, fun i h1 h2 => ?_, ?_, fun p hp => by have := hpt.1 p hp; omega, by omega, ?_⟩
  · rw [List.getElem_set]
    split
    · rename_i e; subst e; exact hk.symm
    · rfl
  · rw [List.getElem_set]
    split
    · rename_i e; subst e; exact hc
    · exact .inl rfl
  · rw [List.getElem_set]
    split
    · rename_i e; subst e; exact hs
    · exact .inl rfl
  · unfold mayW at hm ⊢
    rw [Bool.and_eq_true, decide_eq_true_eq] at hm ⊢
    rw [hk2] at hm ⊢
    refine ⟨?_, ?_⟩
    · rw [List.all_eq_true]
      intro x hx
      rcases List.mem_or_eq_of_mem_set hx with h | h
      · exact List.all_eq_true.1 hm.1 x h
      · rw [h]; exact hg
    · have h2 := hm.2
      rw [hsplit, List.map_append, List.sum_append, List.map_cons, List.sum_cons] at h2
      rw [hset, List.map_append, List.sum_append, List.map_cons, List.sum_cons, hk]
      exact h2
  · have := same_turn (ps.take j) (ps.drop (j + 1)) ps[j] p' he
    rw [← hsplit, ← hset] at this
    exact this

end Go.Proofs.Ytilcigjhogcjkaa
