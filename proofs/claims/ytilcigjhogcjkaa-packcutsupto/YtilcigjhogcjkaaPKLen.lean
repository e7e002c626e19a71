/-
  What is proved here: how many bytes a program has at the most; no walk.
-/
import Derived.Test.YtilcigjhogcjkaaPKLift
import Derived.Test.YtilcigjhogcjkaaRPNum
namespace Go.Proofs.Ytilcigjhogcjkaa
open Go Go.RowKit

theorem flat_len {α : Type} (f : α → List Nat) (m : α → Nat) (c : Nat) (L : List α) (h : ∀ x, x ∈ L → (f x).length ≤ c * m x) : (L.flatMap f).length ≤ c * (L.map m).sum := by
  induction L with
  | nil => simp
  | cons x L ih =>
    have h1 := h x (List.mem_cons_self ..)
    have h2 := ih (fun y hy => h y (List.mem_cons_of_mem _ hy))
    simp only [List.flatMap_cons, List.length_append, List.map_cons, List.sum_cons, Nat.mul_add]
    omega
theorem sum_ones {α : Type} : ∀ L : List α, (L.map (fun _ => 1)).sum = L.length
  | [] => rfl
  | x :: L => by
    rw [List.map_cons, List.sum_cons, sum_ones L, List.length_cons]
    omega
theorem txt_len (s : ByteArray) : (txtB s).length ≤ 11 + s.size := by
  have h1 := numB_le s.size
  have h2 := byL_len s
  unfold txtB
  rw [List.length_append]
  omega
theorem dat_len : (h : Nat) → (d : Tr h) → (datB h d).length ≤ 24 * bk h d
  | 0, d => (show Empty from d).elim
  | h + 1, (k, n, b, L, t, I, R) => by
    have h0 := numB_le k.toNat
    have h1 := numB_le L.length
    have h2 := numB_le (sgnN n)
    have h3 := txt_len t
    have h4 := numB_le I.length
    have h5 := flat_len numB (fun _ => 1) 11 L (fun x _ => numB_le x)
    have h6 := flat_len (datB h) (bk h) 24 I (fun x _ => dat_len h x)
    have h7 := flat_len (datB h) (bk h) 24 R (fun x _ => dat_len h x)
    have h8 : (L.map (fun _ => 1)).sum = L.length := sum_ones L
    rw [h8] at h5
    have e1 : ∀ c : Bool, (flgB c).length = 1 := fun c => rfl
    simp only [datB, bk, List.length_append]
    split
    · simp only [List.length_append, e1]; omega
    · split
      · omega
      · split
        · omega
        · split
          · simp only [List.length_append]; omega
          · split
            · simp only [List.length_append, e1]; omega
            · split
              · simp only [List.length_append]; omega
              · simp only [List.length_nil]; omega
theorem pro_len {N : Nat} (p : PC N) : (proB p).length ≤ 40 * pbk p := by
  have h0 := txt_len p.nm
  have h1 := numB_le p.args.toNat
  have h2 := numB_le p.free.toNat
  have h3 := numB_le p.code.length
  have h4 := flat_len insB (fun _ => 1) 33 p.code (fun x _ => by
    have a1 := numB_le x.1.toNat
    have a2 := numB_le (sgnN x.2.1)
    have a3 := numB_le (sgnN x.2.2)
    simp only [insB, List.length_append]
    omega)
  have h5 := numB_le p.ks.length
  have h6 := flat_len (datB N) (bk N) 24 p.ks (fun x _ => dat_len N x)
  have h7 := numB_le p.ns.length
  have h8 := flat_len txtB (fun s => s.size + 1) 11 p.ns (fun x _ => by have := txt_len x; omega)
  have h9 : (p.code.map (fun _ => 1)).sum = p.code.length := sum_ones _
  have e1 : ∀ c : Bool, (flgB c).length = 1 := fun c => rfl
  rw [h9] at h4
  simp only [proB, pbk, List.length_append, e1]
  omega
theorem pg_len {N : Nat} (ps : List (PC N)) : (pgB ps).length ≤ 40 * ((ps.map pbk).sum + 1) := by
  have h1 := numB_le ps.length
  have h2 := flat_len proB pbk 40 ps (fun p _ => pro_len p)
  simp only [pgB, List.length_append]
  have : ([84, 65, 78, 68] : List Nat).length = 4 := rfl
  omega

/-- They are bytes. -/
def By8 (l : List Nat) : Prop := ∀ x, x ∈ l → x < 256
theorem By8.app {a b : List Nat} (ha : By8 a) (hb : By8 b) : By8 (a ++ b) := fun x hx => by
  rcases List.mem_append.1 hx with h | h
  · exact ha x h
  · exact hb x h
theorem By8.flat {α : Type} {f : α → List Nat} {L : List α} (h : ∀ x, x ∈ L → By8 (f x)) : By8 (L.flatMap f) := fun y hy => by
  obtain ⟨x, hx, hy⟩ := List.mem_flatMap.1 hy
  exact h x hx y hy
theorem grp_by8 : ∀ (f v : Nat), v < 128 ^ (f + 1) → By8 (grpB f v)
  | 0, v, h => fun x hx => by
    simp [grpB] at hx
    subst hx
    have : x < 128 := by simpa using h
    omega
  | f + 1, v, h => fun x hx => by
    unfold grpB at hx
    split at hx
    · simp at hx; omega
    · rcases List.mem_cons.1 hx with e | hx
      · omega
      · refine grp_by8 f (v / 128) ?_ x hx
        rw [Nat.div_lt_iff_lt_mul (by decide), ← Nat.pow_succ]
        exact h
theorem num_by8 {n : Nat} (h : n ≤ 9223372036854775807) : By8 (numB n) := grp_by8 10 n (by omega)
theorem flg_by8 (b : Bool) : By8 (flgB b) := fun x hx => by
  cases b <;> simp [flgB] at hx <;> omega
theorem byl_by8 (l : List UInt8) : By8 (byL l) := fun x hx => by
  simp only [byL, List.mem_map] at hx
  obtain ⟨u, -, rfl⟩ := hx
  exact u.toNat_lt
theorem txt_by8 {s : ByteArray} (h : s.size ≤ 9223372036854775807) : By8 (txtB s) := (num_by8 h).app (byl_by8 _)
theorem sgn_by8 {v : Int} (h : -549755813888 ≤ v ∧ v ≤ 549755813888) : By8 (numB (sgnN v)) := num_by8 (by unfold sgnN; split <;> omega)

end Go.Proofs.Ytilcigjhogcjkaa
