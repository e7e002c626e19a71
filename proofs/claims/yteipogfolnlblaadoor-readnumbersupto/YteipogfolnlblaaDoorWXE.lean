/-
  What is proved here: numbers' limbs; package read's atomOf.
-/
import Derived.Test.YteipogfolnlblaaDoorWXC
import Derived.Test.YteipogfolnlblaaDoorWXD
import Derived.Test.YteipogfolnlblaaDoorWR2
namespace Go.Proofs.YteipogfolnlblaaDoor
open Go Go.RowKit
/-- The limbs of a number. -/
def limbL : Nat → Nat → List Nat
  | 0, _ => []
  | f + 1, x => if x = 0 then [] else (x % 4294967296) :: limbL f (x / 4294967296)

theorem num_cons (a : Nat) (L : List Nat) : num 4294967296 (fun i => (a :: L).getD i 0) (L.length + 1) = a + 4294967296 * num 4294967296 (fun i => L.getD i 0) L.length := by
  rw [Nat.add_comm L.length 1, num_split]
  have e : (fun i => (a :: L).getD (1 + i) 0) = fun i => L.getD i 0 := by
    funext i
    rw [Nat.add_comm]
    rfl
  rw [e]
  simp [num]

theorem limbL_can : ∀ (f x : Nat), x ≤ f → Can 4294967296 (fun i => (limbL f x).getD i 0) (limbL f x).length ∧ num 4294967296 (fun i => (limbL f x).getD i 0) (limbL f x).length = x
  | 0, x, h => by
    have : x = 0 := by omega
    subst this
    exact ⟨⟨fun i hi => by simp [limbL] at hi, .inl rfl⟩, rfl⟩
  | f + 1, x, h => by
    unfold limbL
    by_cases h0 : x = 0
    · rw [if_pos h0]
      exact ⟨⟨fun i hi => by simp at hi, .inl rfl⟩, by rw [h0]; rfl⟩
    · rw [if_neg h0]
      have hd : x / 4294967296 ≤ f := by omega
      obtain ⟨⟨c1, c2⟩, e⟩ := limbL_can f (x / 4294967296) hd
      refine ⟨⟨fun i hi => ?_, .inr ?_⟩, ?_⟩
      · match i with
        | 0 => show x % 4294967296 < _; omega
        | i + 1 => exact c1 i (by simpa using hi)
      · rcases c2 with c2 | c2
        · have e0 : x / 4294967296 = 0 := by rw [← e, c2]; rfl
          show ((x % 4294967296) :: limbL f (x / 4294967296)).getD ((x % 4294967296 :: limbL f (x / 4294967296)).length - 1) 0 ≠ 0
          rw [List.length_cons, c2]
          show x % 4294967296 ≠ 0
          omega
        · show ((x % 4294967296) :: limbL f (x / 4294967296)).getD ((x % 4294967296 :: limbL f (x / 4294967296)).length - 1) 0 ≠ 0
          rw [List.length_cons]
          match hL : limbL f (x / 4294967296) with
          | [] =>
            rw [hL] at e
            have e0 : x / 4294967296 = 0 := e.symm
            show x % 4294967296 ≠ 0
            omega
          | b :: L => rw [hL] at c2; exact c2
      · rw [List.length_cons, num_cons, e]
        omega

theorem dataB (s : ByteArray) : (⟨s.data.toList.toArray⟩ : ByteArray) = s := by simp

/-- A datum without parts: kind, number, sign, limbs, bytes. -/
structure Lf where
  k : Int
  n : Int
  b : Bool
  L : List Nat
  s : ByteArray

def zLf : Lf := ⟨0, 0, false, [], ⟨#[]⟩⟩

/-- The datum of a whole number. -/
def intLf (X : Int) : Lf := ⟨1, 0, decide (X < 0), limbL X.natAbs X.natAbs, ⟨#[]⟩⟩

/-- The datum of a token. -/
def atomM (l : List UInt8) : Option Lf :=
  if l = [35, 116] ∨ l = [35, 116, 114, 117, 101] then some ⟨2, 1, false, [], ⟨#[]⟩⟩
  else if l = [35, 102] ∨ l = [35, 102, 97, 108, 115, 101] then some ⟨2, 0, false, [], ⟨#[]⟩⟩
  else match numM l with
    | some X => some (intLf X)
    | none => if symL l = true then some ⟨5, 0, false, [], ⟨l.toArray⟩⟩ else none

theorem intLf_sl {w : World} {base : Nat} {v : Value} {b : Bool} {n : Nat} {f : Nat → Nat} {X : Int} (ho : Own .u32 63 w base v n f) (hc : CanZ b f n) (hX : sgn b (num 4294967296 f n) = X) :
    b = (intLf X).b ∧ Sl .u32 w v (intLf X).L.length (fun i => (intLf X).L.getD i 0) ∧ (∀ i, i < (intLf X).L.length → (intLf X).L.getD i 0 < 4294967296) ∧ VQ (fun k => base ≤ k) v (intLf X).L.length := by
  have hA : X.natAbs = num 4294967296 f n := by rw [← hX]; unfold sgn; split <;> omega
  obtain ⟨k1, k2⟩ := limbL_can X.natAbs X.natAbs (Nat.le_refl _)
  obtain ⟨e1, e2⟩ := can_uniq (by decide) hc.1 k1 (by rw [k2, hA])
  have hs := (ho.congr e2).sl
  refine ⟨?_, ?_, k1.1, ?_⟩
  · show b = decide (X < 0)
    have hp : b = true → 0 < num 4294967296 f n := fun hb => by
      have h0 := hc.2 hb
      have := num_ge (B := 4294967296) (f := f) (n := n) (by omega) (by rcases hc.1.2 with h | h; omega; exact h)
      have h1 : 0 < 4294967296 ^ (n - 1) := Nat.pow_pos (by decide)
      omega
    unfold sgn at hX
    cases b
    · have : ¬ (X < 0) := by simp at hX; omega
      simp [this]
    · have := hp rfl
      have : X < 0 := by simp at hX; omega
      simp [this]
  · rw [e1] at hs; exact hs
  · rcases ho with ⟨-, h0⟩ | ⟨g, cap, e, h1, -⟩
    · exact .inl (by show (limbL _ _).length = 0; omega)
    · exact .inr ⟨_, _, _, e, h1⟩

set_option maxHeartbeats 8000000 in
set_option maxRecDepth 100000 in
theorem atomOf_any (r : ByteArray) (w : World) (hr : r.size ≤ 100000000) (h0 : 0 < r.size) :
    Calls Tryd.prog 39 #[.string r] w fun e w' => ∃ m1 m2 m3, e = .returned (.tuple #[.agg #[.int .i64 ((atomM r.data.toList).getD zLf).k, .int .i64 ((atomM r.data.toList).getD zLf).n, .bool ((atomM r.data.toList).getD zLf).b, .slice m1 m2 m3, .string ((atomM r.data.toList).getD zLf).s, .slice none 0 0, .slice none 0 0], .bool (atomM r.data.toList).isSome]) ∧
      Sl .u32 w' (.slice m1 m2 m3) ((atomM r.data.toList).getD zLf).L.length (fun i => ((atomM r.data.toList).getD zLf).L.getD i 0) ∧ (∀ i, i < ((atomM r.data.toList).getD zLf).L.length → ((atomM r.data.toList).getD zLf).L.getD i 0 < 4294967296) ∧ VQ (fun k => w.heap.size ≤ k) (.slice m1 m2 m3) ((atomM r.data.toList).getD zLf).L.length ∧ Up w w' := by
  have hlist : r.toList = r.data.toList := ByteArray.toList_eq r
  have uA := up_alloc w zer7
  have gA : (w.alloc zer7).heap[w.heap.size]? = some zer7 := heap_alloc_new w zer7
  have zA : (w.alloc zer7).heap.size = w.heap.size + 1 := World.size_alloc _ _
  obtain ⟨f0, f1, f2, f3, f4, f5, f6⟩ := frozen7k gA
  obtain ⟨d0, d1, d2, d3, d4, d5, d6⟩ := cells7 gA
  have HG := hide (And.intro gA (And.intro uA zA))
  unfold zer7 at HG f0 f1 f2 f3 f4 f5 f6 d0 d1 d2 d3 d4 d5 d6
  clear gA uA zA
  unfold atomM
  by_cases B1 : r.data.toList = [35, 116] ∨ r.data.toList = [35, 116, 114, 117, 101]
  · rw [if_pos B1]
    rcases B1 with B | B
    · have q1 : (r.toList == [35, 116]) = true := by rw [hlist, B]; rfl
      clear B hlist 
      go_enter Tryd.func39, Tryd.ntmps39
      go_wp2_with fail
      clear f0 f1 f2 f3 f4 f5 f6 d0 d1 d2 d3 d4 d5 d6
      refine bodyPost_ret (by simp [results, Tryd.results39, go_sem]; rfl) rfl ?_
      exact ⟨_, _, _, rfl, sl_nil _, fun i hi => by simp at hi, .inl rfl, up_alloc w _⟩
    · have q2 : (r.toList == [35, 116, 114, 117, 101]) = true := by rw [hlist, B]; rfl
      have q1 : (r.toList == [35, 116]) = false := by rw [hlist, B]; rfl
      clear B hlist 
      go_enter Tryd.func39, Tryd.ntmps39
      go_wp2_with fail
      clear f0 f1 f2 f3 f4 f5 f6 d0 d1 d2 d3 d4 d5 d6
      refine bodyPost_ret (by simp [results, Tryd.results39, go_sem]; rfl) rfl ?_
      exact ⟨_, _, _, rfl, sl_nil _, fun i hi => by simp at hi, .inl rfl, up_alloc w _⟩
  rw [if_neg B1]
  have q1 : (r.toList == [35, 116]) = false := by rw [hlist]; exact beq_eq_false_iff_ne.2 (fun e => B1 (.inl e))
  have q2 : (r.toList == [35, 116, 114, 117, 101]) = false := by rw [hlist]; exact beq_eq_false_iff_ne.2 (fun e => B1 (.inr e))
  by_cases B2 : r.data.toList = [35, 102] ∨ r.data.toList = [35, 102, 97, 108, 115, 101]
  · rw [if_pos B2]
    rcases B2 with B | B
    · have q3 : (r.toList == [35, 102]) = true := by rw [hlist, B]; rfl
      clear B hlist B1
      go_enter Tryd.func39, Tryd.ntmps39
      go_wp2_with fail
      clear f0 f1 f2 f3 f4 f5 f6 d0 d1 d2 d3 d4 d5 d6
      refine bodyPost_ret (by simp [results, Tryd.results39, go_sem]; rfl) rfl ?_
      exact ⟨_, _, _, rfl, sl_nil _, fun i hi => by simp at hi, .inl rfl, up_alloc w _⟩
    · have q4 : (r.toList == [35, 102, 97, 108, 115, 101]) = true := by rw [hlist, B]; rfl
      have q3 : (r.toList == [35, 102]) = false := by rw [hlist, B]; rfl
      clear B hlist B1
      go_enter Tryd.func39, Tryd.ntmps39
      go_wp2_with fail
      clear f0 f1 f2 f3 f4 f5 f6 d0 d1 d2 d3 d4 d5 d6
      refine bodyPost_ret (by simp [results, Tryd.results39, go_sem]; rfl) rfl ?_
      exact ⟨_, _, _, rfl, sl_nil _, fun i hi => by simp at hi, .inl rfl, up_alloc w _⟩
  rw [if_neg B2]
  have q3 : (r.toList == [35, 102]) = false := by rw [hlist]; exact beq_eq_false_iff_ne.2 (fun e => B2 (.inl e))
  have q4 : (r.toList == [35, 102, 97, 108, 115, 101]) = false := by rw [hlist]; exact beq_eq_false_iff_ne.2 (fun e => B2 (.inr e))
  have KP := fun (W : World) => numparse_any r W hr
  match hn : numM r.data.toList with
  | some X =>
    rw [hn] at KP
    have HP := hide KP
    clear KP hn B1 B2 hlist
    show Calls _ _ _ _ (fun e w' => ∃ m1 m2 m3, e = .returned (.tuple #[.agg #[.int .i64 (intLf X).k, .int .i64 (intLf X).n, .bool (intLf X).b, .slice m1 m2 m3, .string (intLf X).s, .slice none 0 0, .slice none 0 0], .bool true]) ∧ Sl .u32 w' (.slice m1 m2 m3) (intLf X).L.length (fun i => (intLf X).L.getD i 0) ∧ (∀ i, i < (intLf X).L.length → (intLf X).L.getD i 0 < 4294967296) ∧ VQ (fun k => w.heap.size ≤ k) (.slice m1 m2 m3) (intLf X).L.length ∧ Up w w')
    go_enter Tryd.func39, Tryd.ntmps39
    go_wp2_with (go_at_call 56; refine (HP.out _).mono ?_; rintro e w1 ⟨a1, b1, n1, g1, rfl, ⟨v1, rfl, o1⟩, u1, c1, -, s1⟩; obtain ⟨ao1, cap1, rfl, -⟩ := id o1.sl; have u2 := up_alloc w1 (.cells #[.bool b1, .slice ao1 n1 cap1] 24); clear d0 d1 d2 d3 d4 d5 d6 f0 f1 f2 f3 f4 f5 f6; have b2 := u2.old (u1.old HG.out.1); obtain ⟨f0, f1, f2, f3, f4, f5, f6⟩ := frozen7k b2; obtain ⟨d0, d1, d2, d3, d4, d5, d6⟩ := cells7 b2; have H1 := hide (And.intro b2 (And.intro o1 (And.intro c1 (And.intro s1 (u1.tr u2))))); clear o1 u1 c1 s1 u2 b2)
    obtain ⟨b2, o1, c1, s1, u2⟩ := H1.out
    have hI := intLf_sl (o1.mono (base' := w.heap.size + 1) (by simp)) c1 (show sgn b1 (num 4294967296 g1 n1) = X from s1)
    obtain ⟨eb, i2, i3, i4⟩ := hI
    subst eb
    obtain ⟨q1, q2⟩ := sto7k b2 (.int .i64 1) (.int .i64 0) (.bool (intLf X).b) (.slice ao1 n1 cap1) (.string ⟨#[]⟩) (.slice none 0 0) (.slice none 0 0)
    clear f0 f1 f2 f3 f4 f5 f6 d0 d1 d2 d3 d4 d5 d6
    have u3 := up_alloc w1 (.cells #[.bool (intLf X).b, .slice ao1 n1 cap1] 24)
    generalize w1.alloc (.cells #[.bool (intLf X).b, .slice ao1 n1 cap1] 24) = W5 at *
    generalize (((((((W5.setCell ⟨w.heap.size, 0, none⟩ (.int .i64 1)).setCell ⟨w.heap.size, 1, none⟩ (.int .i64 0)).setCell ⟨w.heap.size, 2, none⟩ (.bool (intLf X).b)).setCell ⟨w.heap.size, 3, none⟩ (.slice ao1 n1 cap1)).setCell ⟨w.heap.size, 4, none⟩ (.string ⟨#[]⟩)).setCell ⟨w.heap.size, 5, none⟩ (.slice none 0 0)).setCell ⟨w.heap.size, 6, none⟩ (.slice none 0 0)) = W6 at *
    obtain ⟨d0, d1, d2, d3, d4, d5, d6⟩ := cells7 q1
    refine bodyPost_ret (by simp [results, Tryd.results39, go_sem, d0, d1, d2, d3, d4, d5, d6]; rfl) rfl ?_
    exact ⟨_, _, _, rfl, i2.blk i4 (fun k hk hq => (q2.2 k (Nat.lt_of_lt_of_le hk u3.size) (by omega)).trans (u3.block k hk)), i3, i4.mono (fun k hk => by omega), q2.up (HG.out.2.1.tr u2) (Nat.le_refl _)⟩
  | none =>
    rw [hn] at KP
    have HP := hide KP
    have KS := fun (W : World) => isSymbol_any r W h0 (by omega)
    have KC := fun (W : World) => clone_up r W (by omega)
    have HC := hide KC
    clear KP hn B1 B2 hlist KC
    match hsym : symL r.data.toList with
    | true =>
      rw [hsym] at KS
      have HS := hide KS
      clear KS hsym
      show Calls _ _ _ _ (fun e w' => ∃ m1 m2 m3, e = .returned (.tuple #[.agg #[.int .i64 5, .int .i64 0, .bool false, .slice m1 m2 m3, .string ⟨r.data.toList.toArray⟩, .slice none 0 0, .slice none 0 0], .bool true]) ∧ Sl .u32 w' (.slice m1 m2 m3) ([] : List Nat).length (fun i => ([] : List Nat).getD i 0) ∧ (∀ i, i < ([] : List Nat).length → ([] : List Nat).getD i 0 < 4294967296) ∧ VQ (fun k => w.heap.size ≤ k) (.slice m1 m2 m3) ([] : List Nat).length ∧ Up w w')
      rw [dataB]
      go_enter Tryd.func39, Tryd.ntmps39
      go_wp2_with (first
        | (go_at_call 56; refine (HP.out _).mono ?_; rintro e w1 ⟨a1, b1, n1, g1, rfl, ⟨v1, rfl, o1⟩, u1, -, -, -⟩; obtain ⟨ao1, cap1, rfl, -⟩ := id o1.sl; have u2 := up_alloc w1 (.cells #[.bool b1, .slice ao1 n1 cap1] 24); have H1 := hide (u1.tr u2); clear o1 u1 u2)
        | (go_at_call 57; refine (HS.out _).mono ?_; rintro e w2 ⟨rfl, rfl⟩)
        | (go_at_call 58; refine (HC.out _).mono ?_; rintro e w3 ⟨rfl, u3⟩; have H3 := hide (H1.out.tr u3); clear d0 d1 d2 d3 d4 d5 d6 f0 f1 f2 f3 f4 f5 f6; have b2 := H3.out.old HG.out.1; obtain ⟨f0, f1, f2, f3, f4, f5, f6⟩ := frozen7k b2; obtain ⟨d0, d1, d2, d3, d4, d5, d6⟩ := cells7 b2; have HB2 := hide b2; clear b2 u3))
      obtain ⟨q1, q2⟩ := sto7k HB2.out (.int .i64 5) (.int .i64 0) (.bool false) (.slice none 0 0) (.string r) (.slice none 0 0) (.slice none 0 0)
      clear f0 f1 f2 f3 f4 f5 f6 d0 d1 d2 d3 d4 d5 d6
      generalize (((((((w3.setCell ⟨w.heap.size, 0, none⟩ (.int .i64 5)).setCell ⟨w.heap.size, 1, none⟩ (.int .i64 0)).setCell ⟨w.heap.size, 2, none⟩ (.bool false)).setCell ⟨w.heap.size, 3, none⟩ (.slice none 0 0)).setCell ⟨w.heap.size, 4, none⟩ (.string r)).setCell ⟨w.heap.size, 5, none⟩ (.slice none 0 0)).setCell ⟨w.heap.size, 6, none⟩ (.slice none 0 0)) = W6 at *
      obtain ⟨d0, d1, d2, d3, d4, d5, d6⟩ := cells7 q1
      refine bodyPost_ret (by simp [results, Tryd.results39, go_sem, d0, d1, d2, d3, d4, d5, d6]; rfl) rfl ?_
      exact ⟨_, _, _, rfl, sl_nil _, fun i hi => by simp at hi, .inl rfl, q2.up (HG.out.2.1.tr H3.out) (Nat.le_refl _)⟩
    | false =>
      rw [hsym] at KS
      have HS := hide KS
      clear KS hsym
      show Calls _ _ _ _ (fun e w' => ∃ m1 m2 m3, e = .returned (.tuple #[.agg #[.int .i64 0, .int .i64 0, .bool false, .slice m1 m2 m3, .string ⟨#[]⟩, .slice none 0 0, .slice none 0 0], .bool false]) ∧ Sl .u32 w' (.slice m1 m2 m3) ([] : List Nat).length (fun i => ([] : List Nat).getD i 0) ∧ (∀ i, i < ([] : List Nat).length → ([] : List Nat).getD i 0 < 4294967296) ∧ VQ (fun k => w.heap.size ≤ k) (.slice m1 m2 m3) ([] : List Nat).length ∧ Up w w')
      go_enter Tryd.func39, Tryd.ntmps39
      go_wp2_with (first
        | (go_at_call 56; refine (HP.out _).mono ?_; rintro e w1 ⟨a1, b1, n1, g1, rfl, ⟨v1, rfl, o1⟩, u1, -, -, -⟩; obtain ⟨ao1, cap1, rfl, -⟩ := id o1.sl; have u2 := up_alloc w1 (.cells #[.bool b1, .slice ao1 n1 cap1] 24); clear d0 d1 d2 d3 d4 d5 d6 f0 f1 f2 f3 f4 f5 f6; have b2 := u2.old (u1.old HG.out.1); obtain ⟨f0, f1, f2, f3, f4, f5, f6⟩ := frozen7k b2; obtain ⟨d0, d1, d2, d3, d4, d5, d6⟩ := cells7 b2; have H1 := hide (And.intro (u1.tr u2) b2); clear o1 u1 u2 b2)
        | (go_at_call 57; refine (HS.out _).mono ?_; rintro e w2 ⟨rfl, rfl⟩))
      obtain ⟨q1, q2⟩ := sto7k H1.out.2 (.int .i64 0) (.int .i64 0) (.bool false) (.slice none 0 0) (.string ⟨#[]⟩) (.slice none 0 0) (.slice none 0 0)
      clear f0 f1 f2 f3 f4 f5 f6 d0 d1 d2 d3 d4 d5 d6
      generalize w1.alloc (.cells #[.bool b1, .slice ao1 n1 cap1] 24) = W5 at *
      generalize (((((((W5.setCell ⟨w.heap.size, 0, none⟩ (.int .i64 0)).setCell ⟨w.heap.size, 1, none⟩ (.int .i64 0)).setCell ⟨w.heap.size, 2, none⟩ (.bool false)).setCell ⟨w.heap.size, 3, none⟩ (.slice none 0 0)).setCell ⟨w.heap.size, 4, none⟩ (.string ⟨#[]⟩)).setCell ⟨w.heap.size, 5, none⟩ (.slice none 0 0)).setCell ⟨w.heap.size, 6, none⟩ (.slice none 0 0)) = W6 at *
      obtain ⟨d0, d1, d2, d3, d4, d5, d6⟩ := cells7 q1
      refine bodyPost_ret (by simp [results, Tryd.results39, go_sem, d0, d1, d2, d3, d4, d5, d6]; rfl) rfl ?_
      exact ⟨_, _, _, rfl, sl_nil _, fun i hi => by simp at hi, .inl rfl, q2.up (HG.out.2.1.tr H1.out.1) (Nat.le_refl _)⟩

end Go.Proofs.YteipogfolnlblaaDoor
