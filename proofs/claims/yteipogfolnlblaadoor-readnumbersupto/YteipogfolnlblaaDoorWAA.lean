/-
  What is proved here: what is written of data without parts is read as they are; no walk. data that are read, and only such, are written so that they are read as they are; no walk. what is read can be written and read again; the data of a text, written with a blank behind each; no walk. how much there is of what is read: at most so much a byte; no walk.
-/
import Derived.Test.YteipogfolnlblaaDoorVSD
import Derived.Test.YteipogfolnlblaaDoorUQ
namespace Go.Proofs.YteipogfolnlblaaDoor
open Go Go.RowKit

/-- A delimiter and more, or nothing. -/
def Dlm (r : List UInt8) : Prop := r = [] ∨ ∃ d r', r = d :: r' ∧ ¬ dlx d < 0
theorem tok_full (l r : List UInt8) (hr : Dlm r) (hl : ∀ c ∈ l, dlx c < 0) : tokL (l ++ r) = l.length := by
  unfold tokL
  induction l with
  | nil =>
    rcases hr with rfl | ⟨d, r', rfl, hd⟩
    · rfl
    · simp [hd]
  | cons c l ih =>
    have h1 := hl c (by simp)
    rw [List.cons_append, List.takeWhile_cons, if_pos (by simpa using h1), List.length_cons, ih (fun x hx => hl x (by simp [hx])), List.length_cons]
/-- A token. -/
theorem rd_tok {T : List UInt8} {h a : Nat} {l r : List UInt8} {v : Lf} (hd : T.drop a = l ++ r) (hr : Dlm r) (hall : ∀ c ∈ l, dlx c < 0) (hp : pieceP T.length a (l ++ r) = tokP a (l ++ r)) (hdot : l ≠ [46]) (hv : atomM l = some v) : RdAll T h a (.inr (a, a + l.length, lfT h v, a + l.length)) 1 := by
  intro g hg
  obtain ⟨g, rfl⟩ : ∃ g', g = g' + 1 := ⟨g - 1, by omega⟩
  have ht := tok_full l r hr hall
  have hp2 : pieceP T.length a (T.drop a) = tkP a l.length 9 := by
    rw [hd, hp]
    unfold tokP
    rw [ht, List.take_left, if_neg hdot]
  have e1 : (rdM T (g + 1) h).nx 0 a = tkP a l.length 9 := by
    rw [← hp2]
    exact nx_first (by rw [hp2]; show (9 : Nat) ≠ 1; decide) (by rw [hp2]; show (9 : Nat) ≠ 2; decide)
  rw [e1]
  show dtS T (rdM T g) h (tkP a l.length 9) = _
  unfold dtS
  have k9 : (tkP a l.length 9).k = 9 := rfl
  rw [if_neg (by omega), if_neg (by omega), if_neg (by omega), if_neg (by omega), if_neg (by omega), if_neg (by omega), if_pos k9]
  unfold atomR
  have hx : cutL T (tkP a l.length 9).x (tkP a l.length 9).y = l := by
    show cutL T a (a + l.length) = l
    rw [cut_drop, hd, List.take_left]
  rw [hx, hv]
  rfl
theorem piece_tok (n a : Nat) (c : UInt8) (l : List UInt8) (h1 : dlx c < 0) (h2 : c ≠ 96) (h3 : c ≠ 44) (h4 : c ≠ 35) : pieceP n a (c :: l) = tokP a (c :: l) := by
  have d : ∀ x : UInt8, ¬ dlx x < 0 → c ≠ x := fun x hx e => hx (e ▸ h1)
  have n1 := d 32 (by decide)
  have n2 := d 9 (by decide)
  have n3 := d 10 (by decide)
  have n4 := d 13 (by decide)
  have n5 := d 59 (by decide)
  have n6 := d 40 (by decide)
  have n7 := d 41 (by decide)
  have n8 := d 34 (by decide)
  have n9 := d 39 (by decide)
  unfold pieceP
  simp [n1, n2, n3, n4, n5, n6, n7, n8, n9, h2, h3, h4]
theorem all_bytes {P : UInt8 → Prop} (h : ∀ n : Nat, n < 256 → P n.toUInt8) (c : UInt8) : P c := by
  have h1 := h c.toNat c.toNat_lt
  have h2 : c.toNat.toUInt8 = c := by
    apply UInt8.toNat_inj.1
    simp
  rw [h2] at h1
  exact h1
theorem sym_fact (c : UInt8) : symB c = true → dlx c < 0 ∧ c ≠ 96 ∧ c ≠ 44 ∧ c ≠ 35 := all_bytes (P := fun c => symB c = true → dlx c < 0 ∧ c ≠ 96 ∧ c ≠ 44 ∧ c ≠ 35) (by decide +kernel) c
theorem dig_fact (c : UInt8) : isDg c = true → dlx c < 0 ∧ c ≠ 96 ∧ c ≠ 44 ∧ c ≠ 35 ∧ c ≠ 43 ∧ c ≠ 45 ∧ c ≠ 46 := all_bytes (P := fun c => isDg c = true → dlx c < 0 ∧ c ≠ 96 ∧ c ≠ 44 ∧ c ≠ 35 ∧ c ≠ 43 ∧ c ≠ 45 ∧ c ≠ 46) (by decide +kernel) c

/-- The digits of a number. -/
theorem dgs_fold : ∀ (f n : Nat), n < f → (dgs f n).foldl (fun x c => x * 10 + (c.toNat - 48)) 0 = n ∧ (dgs f n).all isDg = true ∧ dgs f n ≠ []
  | 0, n, h => by omega
  | f + 1, n, h => by
    unfold dgs
    by_cases h1 : n < 10
    · rw [if_pos h1]
      have e : ((48 + n).toUInt8).toNat = 48 + n := by simp; omega
      refine ⟨?_, ?_, by simp⟩
      · simp only [List.foldl_cons, List.foldl_nil, e]; omega
      · simp only [List.all_cons, List.all_nil, Bool.and_true, isDg, e, decide_eq_true_eq]; omega
    · rw [if_neg h1]
      obtain ⟨i1, i2, i3⟩ := dgs_fold f (n / 10) (by omega)
      have e : ((48 + n % 10).toUInt8).toNat = 48 + n % 10 := by simp; omega
      refine ⟨?_, ?_, by simp⟩
      · rw [List.foldl_append, i1]
        simp only [List.foldl_cons, List.foldl_nil, e]
        omega
      · rw [List.all_append, i2]
        simp only [List.all_cons, List.all_nil, Bool.and_true, Bool.true_and, isDg, e, decide_eq_true_eq]
        omega
theorem digM_dgs (n : Nat) : digM (dgs (n + 1) n) = some n := by
  obtain ⟨h1, h2, h3⟩ := dgs_fold (n + 1) n (by omega)
  unfold digM
  rw [if_pos ⟨h3, h2⟩, h1]
theorem ztx_facts (X : Int) : numM (ztx X) = some X ∧ (∃ c l, ztx X = c :: l ∧ (isDg c = true ∨ c = 45) ∧ ∀ x ∈ l, isDg x = true) ∧ ztx X ≠ [46] := by
  obtain ⟨h1, h2, h3⟩ := dgs_fold (X.natAbs + 1) X.natAbs (by omega)
  have hm := digM_dgs X.natAbs
  obtain ⟨c, l, hc⟩ : ∃ c l, dgs (X.natAbs + 1) X.natAbs = c :: l := by
    match hd : dgs (X.natAbs + 1) X.natAbs with
    | [] => exact absurd hd h3
    | c :: l => exact ⟨c, l, rfl⟩
  have hall : ∀ x ∈ c :: l, isDg x = true := by
    rw [hc] at h2
    exact fun x hx => List.all_eq_true.1 h2 x hx
  have hcd := hall c (by simp)
  have hf := dig_fact c hcd
  unfold ztx
  by_cases hX : X < 0
  · rw [if_pos hX]
    refine ⟨?_, ⟨45, dgs (X.natAbs + 1) X.natAbs, rfl, .inr rfl, by rw [hc]; exact hall⟩, fun e => by simp at e⟩
    show (if (45 : UInt8) = 43 then (digM (dgs (X.natAbs + 1) X.natAbs)).map (fun x => sgn false x) else if (45 : UInt8) = 45 then (digM (dgs (X.natAbs + 1) X.natAbs)).map (fun x => sgn true x) else (digM (45 :: dgs (X.natAbs + 1) X.natAbs)).map (fun x => sgn false x)) = some X
    rw [if_neg (by decide), if_pos rfl, hm]
    have e2 : sgn true X.natAbs = X := by unfold sgn; simp; omega
    simp [e2]
  · rw [if_neg hX]
    refine ⟨?_, ⟨c, l, hc, .inl hcd, fun x hx => hall x (by simp [hx])⟩, fun e => ?_⟩
    · rw [hc]
      show (if c = 43 then (digM l).map (fun x => sgn false x) else if c = 45 then (digM l).map (fun x => sgn true x) else (digM (c :: l)).map (fun x => sgn false x)) = some X
      rw [if_neg hf.2.2.2.2.1, if_neg hf.2.2.2.2.2.1, ← hc, hm]
      have e2 : sgn false X.natAbs = X := by unfold sgn; simp; omega
      simp [e2]
    · rw [hc] at e
      have : c = 46 := by simpa using (List.cons.inj e).1
      exact hf.2.2.2.2.2.2 this
theorem ztx_len (X : Int) : 1 ≤ (ztx X).length := by
  obtain ⟨-, ⟨c, l, e, -⟩, -⟩ := ztx_facts X
  rw [e]
  simp
theorem rd_int {T : List UInt8} {h a : Nat} {r : List UInt8} (X : Int) (hd : T.drop a = ztx X ++ r) (hr : Dlm r) : RdAll T h a (.inr (a, a + (ztx X).length, lfT h (intLf X), a + (ztx X).length)) 1 := by
  obtain ⟨h1, ⟨c, l, hc, h2, h3⟩, h4⟩ := ztx_facts X
  have hcf : dlx c < 0 ∧ c ≠ 96 ∧ c ≠ 44 ∧ c ≠ 35 := by
    rcases h2 with h2 | rfl
    · have := dig_fact c h2; exact ⟨this.1, this.2.1, this.2.2.1, this.2.2.2.1⟩
    · exact ⟨by decide, by decide, by decide, by decide⟩
  refine rd_tok hd hr ?_ ?_ h4 ?_
  · rw [hc]
    intro x hx
    rcases List.mem_cons.1 hx with rfl | hx
    · exact hcf.1
    · exact (dig_fact x (h3 x hx)).1
  · rw [hc, List.cons_append]
    exact piece_tok _ _ c _ hcf.1 hcf.2.1 hcf.2.2.1 hcf.2.2.2
  · unfold atomM
    rw [h1]
    have hne : ∀ m : List UInt8, ztx X ≠ 35 :: m := fun m e => by
      rw [hc] at e
      exact hcf.2.2.2 (List.cons.inj e).1
    rw [if_neg (fun e => e.elim (hne _) (hne _)), if_neg (fun e => e.elim (hne _) (hne _))]

/-- A symbol that can be read. -/
def SymOK (l : List UInt8) : Prop := l ≠ [] ∧ l ≠ [46] ∧ symL l = true ∧ numM l = none
theorem rd_symb {T : List UInt8} {h a : Nat} {r : List UInt8} (t : ByteArray) (hs : SymOK t.data.toList) (hd : T.drop a = t.data.toList ++ r) (hr : Dlm r) : RdAll T h a (.inr (a, a + t.data.toList.length, lfT h ⟨5, 0, false, [], t⟩, a + t.data.toList.length)) 1 := by
  obtain ⟨h1, h2, h3, h4⟩ := hs
  have hall : ∀ c ∈ t.data.toList, symB c = true := by
    have h3' := h3
    unfold symL at h3'
    rw [Bool.and_eq_true] at h3'
    exact fun x hx => List.all_eq_true.1 h3'.1 x hx
  match hl : t.data.toList with
  | [] => exact absurd hl h1
  | c :: l =>
    rw [← hl]
    have hcf := sym_fact c (hall c (by rw [hl]; simp))
    refine rd_tok hd hr (fun x hx => (sym_fact x (hall x hx)).1) ?_ h2 ?_
    · rw [hl, List.cons_append]
      exact piece_tok _ _ c _ hcf.1 hcf.2.1 hcf.2.2.1 hcf.2.2.2
    · have hne : ∀ m : List UInt8, t.data.toList ≠ 35 :: m := fun m e => by
        rw [hl] at e
        exact hcf.2.2.2 (List.cons.inj e).1
      unfold atomM
      rw [if_neg (fun e => e.elim (hne _) (hne _)), if_neg (fun e => e.elim (hne _) (hne _)), h4]
      simp only []
      rw [if_pos h3, dataB]
theorem rd_bool {T : List UInt8} {h a : Nat} {r : List UInt8} (c : UInt8) (n : Int) (hc : (c = 116 ∧ n = 1) ∨ (c = 102 ∧ n = 0)) (hd : T.drop a = [35, c] ++ r) (hr : Dlm r) : RdAll T h a (.inr (a, a + 2, lfT h ⟨2, n, false, [], ⟨#[]⟩⟩, a + 2)) 1 := by
  rcases hc with ⟨rfl, rfl⟩ | ⟨rfl, rfl⟩
  · refine rd_tok (l := [35, 116]) hd hr (by decide) ?_ (by decide) rfl
    unfold pieceP
    simp [shP, Lib.hasPrefix, List.isPrefixOf]
  · refine rd_tok (l := [35, 102]) hd hr (by decide) ?_ (by decide) rfl
    unfold pieceP
    simp [shP, Lib.hasPrefix, List.isPrefixOf]

theorem ch_facts : ∀ n : Nat, n < 256 → letM (chW (n : Int)) = some n ∧ chW (n : Int) ≠ [] ∧ (((chW (n : Int)).drop 1).all fun c => decide (dlx c < 0)) = true := by decide +kernel
theorem rd_char {T : List UInt8} {h a : Nat} {r : List UInt8} (n : Nat) (hn : n < 256) (hd : T.drop a = [35, 92] ++ chW (n : Int) ++ r) (hr : Dlm r) : RdAll T h a (.inr (a, a + (2 + (chW (n : Int)).length), lfT h ⟨3, n, false, [], ⟨#[]⟩⟩, a + (2 + (chW (n : Int)).length))) 1 := by
  obtain ⟨h1, h2, h3⟩ := ch_facts n hn
  intro g hg
  obtain ⟨g, rfl⟩ : ∃ g', g = g' + 1 := ⟨g - 1, by omega⟩
  match hl : chW (n : Int) with
  | [] => exact absurd hl h2
  | c :: l =>
    rw [hl] at h3 hd h1
    have h3 : ∀ x ∈ l, dlx x < 0 := fun x hx => by simpa using List.all_eq_true.1 h3 x hx
    have hd' : T.drop a = 35 :: 92 :: c :: (l ++ r) := by rw [hd]; simp
    have ht := tok_full l r hr h3
    have hp2 : pieceP T.length a (T.drop a) = tkP a (2 + (c :: l).length) 7 := by
      rw [hd']
      unfold pieceP
      have e1 : min 3 (35 :: 92 :: c :: (l ++ r)).length = 3 := by simp
      have e2 : (35 :: 92 :: c :: (l ++ r)).drop 3 = l ++ r := rfl
      simp only []
      rw [if_neg (by decide), if_neg (by decide), if_neg (by decide), if_neg (by decide), if_neg (by decide), if_neg (by decide), if_neg (by decide), if_pos trivial]
      unfold shP
      rw [if_neg (by simp [Lib.hasPrefix, List.isPrefixOf]), if_neg (by simp [Lib.hasPrefix, List.isPrefixOf]), if_neg (by simp [Lib.hasPrefix, List.isPrefixOf]), if_pos (by simp [Lib.hasPrefix, List.isPrefixOf]), e1, e2, ht]
      congr 1
      simp
      omega
    have e1 : (rdM T (g + 1) h).nx 0 a = tkP a (2 + (c :: l).length) 7 := by
      rw [← hp2]
      exact nx_first (by rw [hp2]; show (7 : Nat) ≠ 1; decide) (by rw [hp2]; show (7 : Nat) ≠ 2; decide)
    rw [e1]
    show dtS T (rdM T g) h (tkP a (2 + (c :: l).length) 7) = _
    unfold dtS
    have k7 : (tkP a (2 + (c :: l).length) 7).k = 7 := rfl
    rw [if_neg (by omega), if_neg (by omega), if_neg (by omega), if_neg (by omega), if_neg (by omega), if_pos k7]
    unfold letP
    have hx : (cutL T (tkP a (2 + (c :: l).length) 7).x (tkP a (2 + (c :: l).length) 7).y).drop 2 = c :: l := by
      show (cutL T a (a + (2 + (c :: l).length))).drop 2 = c :: l
      rw [cut_drop, hd', show 2 + (c :: l).length = (l.length + 1) + 1 + 1 by simp; omega]
      simp
    rw [hx, h1]
    rfl

theorem hexP_two (v : Nat) (hv : v < 256) (l : List UInt8) : hexP (hexd (v / 16) :: hexd (v % 16) :: l) = ((v : Int), 2) := by
  have key : ∀ v : Nat, v < 256 → ¬ hx (hexd (v / 16)) < 0 ∧ ¬ hx (hexd (v % 16)) < 0 ∧ hx (hexd (v / 16)) * 16 + hx (hexd (v % 16)) = (v : Int) := by decide +kernel
  obtain ⟨h1, h2, h3⟩ := key v hv
  simp [hexP, h1, h2, h3]
/-- A byte as it is written between quotes. -/
theorem quo_byte (T : List UInt8) (x f a : Nat) (acc : List UInt8) (b : UInt8) (r : List UInt8) (c2 : UInt8) (hd : T.drop a = tbW b ++ c2 :: r) : quoP T x (f + 1) a acc = quoP T x f (a + (tbW b).length) (acc ++ [b]) := by
  have hb : b.toNat.toUInt8 = b := by
    apply UInt8.toNat_inj.1
    simp
  have st : ∀ (n k : Nat) (L : Nat), (stP a L n).k ≠ 11 := fun n k L => by show (10 : Nat) ≠ 11; decide
  conv => lhs; unfold quoP
  unfold tbW at hd ⊢
  by_cases h1 : b = 34 ∨ b = 92
  · rw [if_pos h1] at hd ⊢
    rw [hd]
    have he : escP T.length a (92 :: b :: c2 :: r) = stP a 2 b.toNat := by
      unfold escP
      rcases h1 with rfl | rfl <;> rfl
    simp only [List.cons_append, List.nil_append]
    rw [if_neg (by decide), if_pos trivial, he, if_neg (st _ 0 _)]
    show quoP T x f (a + 2) (acc ++ [b.toNat.toUInt8]) = _
    rw [hb]
    rfl
  rw [if_neg h1] at hd ⊢
  by_cases h2 : b = 10
  · rw [if_pos h2] at hd ⊢
    subst h2
    rw [hd]
    rfl
  rw [if_neg h2] at hd ⊢
  by_cases h3 : b = 9
  · rw [if_pos h3] at hd ⊢
    subst h3
    rw [hd]
    rfl
  rw [if_neg h3] at hd ⊢
  by_cases h4 : b < 32 ∨ 126 < b
  · rw [if_pos h4] at hd ⊢
    have hlt : b.toNat < 256 := b.toNat_lt
    have he : escP T.length a (92 :: 120 :: hexd (b.toNat / 16) :: hexd (b.toNat % 16) :: 59 :: c2 :: r) = stP a 5 b.toNat := by
      unfold escP
      simp only []
      rw [if_neg (by decide), if_neg (by decide), if_neg (by decide), if_neg (by decide), if_pos trivial]
      unfold hexeP
      have d1 : (92 :: 120 :: hexd (b.toNat / 16) :: hexd (b.toNat % 16) :: 59 :: c2 :: r : List UInt8).drop 2 = hexd (b.toNat / 16) :: hexd (b.toNat % 16) :: (59 :: c2 :: r) := rfl
      rw [d1, hexP_two b.toNat hlt]
      simp
    have hd' : T.drop a = 92 :: 120 :: hexd (b.toNat / 16) :: hexd (b.toNat % 16) :: 59 :: c2 :: r := by rw [hd]; simp [two]
    rw [hd']
    simp only []
    rw [if_neg (by decide), if_pos trivial, he, if_neg (st _ 0 _)]
    show quoP T x f (a + 5) (acc ++ [b.toNat.toUInt8]) = _
    rw [hb]
    simp [two]
  · rw [if_neg h4] at hd ⊢
    rw [hd]
    have n1 : b ≠ 34 := fun e => h1 (.inl e)
    have n2 : b ≠ 92 := fun e => h1 (.inr e)
    simp only [List.cons_append, List.nil_append]
    rw [if_neg n1, if_neg n2]
    rfl
theorem tb_len (b : UInt8) : 1 ≤ (tbW b).length := by
  unfold tbW
  split
  · simp
  split
  · simp
  split
  · simp
  split
  · simp
  · simp
theorem quo_text (T : List UInt8) (x : Nat) (r : List UInt8) : ∀ (l : List UInt8) (f a : Nat) (acc : List UInt8), l.length + 1 ≤ f → T.drop a = tsW l ++ 34 :: r → quoP T x f a acc = ⟨x, a + (tsW l).length + 1, 10, 4, 0, ⟨(acc ++ l).toArray⟩, 0, a + (tsW l).length + 1⟩
  | [], f, a, acc, hf, hd => by
    obtain ⟨f, rfl⟩ : ∃ f', f = f' + 1 := ⟨f - 1, by simp at hf; omega⟩
    have hd : T.drop a = 34 :: r := hd
    unfold quoP
    rw [hd]
    simp [tsW]
  | b :: l, f, a, acc, hf, hd => by
    obtain ⟨f, rfl⟩ : ∃ f', f = f' + 1 := ⟨f - 1, by simp at hf; omega⟩
    have e : tsW (b :: l) = tbW b ++ tsW l := List.flatMap_cons
    rw [e, List.append_assoc] at hd
    have hd2 := drop_more (tbW b) hd
    obtain ⟨c2, r2, hc⟩ : ∃ c2 r2, tsW l ++ 34 :: r = c2 :: r2 := by
      match h : tsW l ++ 34 :: r with
      | [] => simp at h
      | c2 :: r2 => exact ⟨c2, r2, rfl⟩
    rw [quo_byte T x f a acc b r2 c2 (by rw [hd, hc]), quo_text T x r l f _ _ (by simp at hf; omega) hd2, e, List.length_append]
    simp
    omega
theorem rd_text {T : List UInt8} {h a : Nat} {r : List UInt8} (t : ByteArray) (hd : T.drop a = [34] ++ tsW t.data.toList ++ [34] ++ r) : RdAll T h a (.inr (a, a + (1 + (tsW t.data.toList).length + 1), lfT h ⟨4, 0, false, [], t⟩, a + (1 + (tsW t.data.toList).length + 1))) 1 := by
  intro g hg
  obtain ⟨g, rfl⟩ : ∃ g', g = g' + 1 := ⟨g - 1, by omega⟩
  have hd' : T.drop a = 34 :: (tsW t.data.toList ++ 34 :: r) := by rw [hd]; simp
  have hd2 : T.drop (a + 1) = tsW t.data.toList ++ 34 :: r := drop_more [34] hd'
  have hp2 : pieceP T.length a (T.drop a) = tkP a 1 6 := by
    rw [hd']
    unfold pieceP
    simp
  have e1 : (rdM T (g + 1) h).nx 0 a = tkP a 1 6 := by
    rw [← hp2]
    exact nx_first (by rw [hp2]; show (6 : Nat) ≠ 1; decide) (by rw [hp2]; show (6 : Nat) ≠ 2; decide)
  rw [e1]
  show dtS T (rdM T g) h (tkP a 1 6) = _
  unfold dtS
  have k6 : (tkP a 1 6).k = 6 := rfl
  rw [if_neg (by omega), if_neg (by omega), if_neg (by omega), if_neg (by omega), if_pos k6]
  have hlen : t.data.toList.length + 1 ≤ T.length + 1 := by
    have h1 := congrArg List.length hd'
    rw [List.length_drop] at h1
    have h2 : ∀ l : List UInt8, l.length ≤ (tsW l).length := fun l => by
      induction l with
      | nil => simp
      | cons b l ih =>
        have e : tsW (b :: l) = tbW b ++ tsW l := List.flatMap_cons
        have := tb_len b
        rw [e, List.length_append, List.length_cons]
        omega
    have h3 := h2 t.data.toList
    simp at h1
    omega
  have hq : quoP T (tkP a 1 6).x (T.length + 1) (tkP a 1 6).a [] = ⟨a, a + 1 + (tsW t.data.toList).length + 1, 10, 4, 0, ⟨([] ++ t.data.toList).toArray⟩, 0, a + 1 + (tsW t.data.toList).length + 1⟩ := quo_text T a r t.data.toList (T.length + 1) (a + 1) [] hlen hd2
  rw [hq, List.nil_append, dataB, show a + 1 + (tsW t.data.toList).length + 1 = a + (1 + (tsW t.data.toList).length + 1) by omega]
  unfold ofLP
  rw [if_neg (show ¬ ((10 : Nat) = 11) by decide)]
  rfl

/-- Data without parts that can be read. -/
def LeafOK (v : Lf) : Prop := (∃ X, v = intLf X) ∨ v = ⟨2, 1, false, [], ⟨#[]⟩⟩ ∨ v = ⟨2, 0, false, [], ⟨#[]⟩⟩ ∨ (∃ n : Nat, n < 256 ∧ v = ⟨3, n, false, [], ⟨#[]⟩⟩) ∨ (∃ t, v = ⟨4, 0, false, [], t⟩) ∨ (∃ t, v = ⟨5, 0, false, [], t⟩ ∧ SymOK t.data.toList)
theorem LeafOK.kind {v : Lf} (h : LeafOK v) : v.k ≠ 6 := by
  rcases h with ⟨X, rfl⟩ | rfl | rfl | ⟨n, -, rfl⟩ | ⟨t, rfl⟩ | ⟨t, rfl, -⟩
  · show (1 : Int) ≠ 6; decide
  · show (2 : Int) ≠ 6; decide
  · show (2 : Int) ≠ 6; decide
  · show (3 : Int) ≠ 6; decide
  · show (4 : Int) ≠ 6; decide
  · show (5 : Int) ≠ 6; decide
/-- Data that can be read with h levels left. -/
def Rb : (h : Nat) → Tr (h + 1) → Prop
  | 0, tr => ∃ v, tr = lfT 0 v ∧ LeafOK v
  | h + 1, tr => (∃ v, tr = lfT (h + 1) v ∧ LeafOK v) ∨ (∃ kk I, (kk = 6 ∨ kk = 7) ∧ tr = seqT kk I [] ∧ ∀ x ∈ I, Rb h x) ∨ (∃ I r, tr = seqT 6 I [r] ∧ I ≠ [] ∧ (∀ x ∈ I, Rb h x) ∧ Rb h r ∧ r.1 ≠ 6)
theorem Rb.leaf {h : Nat} {v : Lf} (hv : LeafOK v) : Rb h (lfT h v) := by
  cases h with
  | zero => exact ⟨v, rfl, hv⟩
  | succ h => exact .inl ⟨v, rfl, hv⟩

theorem leaf_wr {h : Nat} {v : Lf} (hv : LeafOK v) {T : List UInt8} {a : Nat} {r : List UInt8} (hd : T.drop a = wr (h + 1) false (lfT h v) ++ r) (hr : Dlm r) : RdAll T h a (.inr (a, a + (wr (h + 1) false (lfT h v)).length, lfT h v, a + (wr (h + 1) false (lfT h v)).length)) 1 := by
  rcases hv with ⟨X, rfl⟩ | rfl | rfl | ⟨n, hn, rfl⟩ | ⟨t, rfl⟩ | ⟨t, rfl, hs⟩
  · have e : wr (h + 1) false (lfT h (intLf X)) = ztx X := by
      have h1 := (limbL_can X.natAbs X.natAbs (Nat.le_refl _)).2
      show (if (1 : Int) = 1 then ztx (sgn (decide (X < 0)) (num 4294967296 (fun i => (limbL X.natAbs X.natAbs).getD i 0) (limbL X.natAbs X.natAbs).length)) else _) = _
      rw [if_pos rfl, h1]
      congr 1
      unfold sgn
      by_cases hX : X < 0
      · simp [hX]; omega
      · simp [hX]; omega
    rw [e] at hd ⊢
    exact rd_int X hd hr
  · exact rd_bool 116 1 (.inl ⟨rfl, rfl⟩) hd hr
  · exact rd_bool 102 0 (.inr ⟨rfl, rfl⟩) hd hr
  · have e : wr (h + 1) false (lfT h ⟨3, n, false, [], ⟨#[]⟩⟩) = [35, 92] ++ chW (n : Int) := rfl
    rw [e] at hd ⊢
    have := rd_char (h := h) n hn hd hr
    rw [List.length_append]
    exact this
  · have e : wr (h + 1) false (lfT h ⟨4, 0, false, [], t⟩) = [34] ++ tsW t.data.toList ++ [34] := rfl
    rw [e] at hd ⊢
    have := rd_text (h := h) t hd
    rw [List.length_append, List.length_append]
    exact this
  · have e : wr (h + 1) false (lfT h ⟨5, 0, false, [], t⟩) = t.data.toList := rfl
    rw [e] at hd ⊢
    exact rd_symb t hs hd hr

theorem drop_le {T : List UInt8} {a : Nat} {c : UInt8} {l : List UInt8} (hd : T.drop a = c :: l) : a + 1 ≤ T.length := by
  have := congrArg List.length hd
  rw [List.length_drop] at this
  simp at this
  omega
/-- A blank ahead. -/
theorem RdAll.blank {T : List UInt8} {h a x y : Nat} {tr : Tr (h + 1)} {a' G : Nat} {c : UInt8} {l : List UInt8} (H : RdAll T h (a + 1) (.inr (x, y, tr, a')) G) (hd : T.drop a = c :: l) (hc : c = 32 ∨ c = 9 ∨ c = 10 ∨ c = 13) : RdAll T h a (.inr (x, y, tr, a')) (G + 1) := by
  intro g hg
  obtain ⟨g, rfl⟩ : ∃ g', g = g' + 1 := ⟨g - 1, by omega⟩
  have h1 := H g (by omega)
  have h2 := H (g + 1) (by omega)
  have ha := drop_le hd
  rw [skip1 hd hc, ← nx_mono (Nat.le_succ g) ha (dt_good h1).2.1]
  exact h2
def RwAll (T : List UInt8) (h x : Nat) (kk : Int) (I : List (Tr (h + 1))) (a : Nat) (R : RD (h + 2)) (G : Nat) : Prop := ∀ g, G ≤ g → (rdM T g h).rw x kk I a = R
theorem RwAll.item {T : List UInt8} {h x : Nat} {kk : Int} {I : List (Tr (h + 1))} {a x1 y1 : Nat} {tr : Tr (h + 1)} {a1 G G2 : Nat} {R : RD (h + 2)} (H : RdAll T h a (.inr (x1, y1, tr, a1)) G) (H2 : RwAll T h x kk (I ++ [tr]) a1 R G2) : RwAll T h x kk I a R (G + G2 + 1) := by
  intro g hg
  obtain ⟨g, rfl⟩ : ∃ g', g = g' + 1 := ⟨g - 1, by omega⟩
  have h1 := H g (by omega)
  have n4 : ((rdM T g h).nx 0 a).k ≠ 4 := fun e => by
    match g, h1, e with
    | 0, h1, _ => cases h1
    | g + 1, h1, e =>
      have h1 : dtS T (rdM T g) h _ = _ := h1
      unfold dtS at h1
      rw [if_neg (by omega), if_pos e] at h1
      cases h1
  have n8 : ((rdM T g h).nx 0 a).k ≠ 8 := fun e => by
    match g, h1, e with
    | 0, h1, _ => cases h1
    | g + 1, h1, e =>
      have h1 : dtS T (rdM T g) h _ = _ := h1
      unfold dtS at h1
      rw [if_neg (by omega), if_neg (by omega), if_pos e] at h1
      cases h1
  show rwS (rdM T g h) x kk I a = _
  unfold rwS
  rw [if_neg n4, if_neg (fun e => n8 e.1), h1]
  exact H2 g (by omega)
theorem RwAll.close {T : List UInt8} {h x : Nat} {kk : Int} {I : List (Tr (h + 1))} {a : Nat} {r : List UInt8} (hd : T.drop a = 41 :: r) : RwAll T h x kk I a (.inr (x, a + 1, seqT kk I [], a + 1)) 2 := by
  intro g hg
  obtain ⟨g, rfl⟩ : ∃ g', g = g' + 2 := ⟨g - 2, by omega⟩
  exact rw_close hd
/-- What stands behind a dot. -/
theorem RwAll.dot {T : List UInt8} {h x : Nat} {I : List (Tr (h + 1))} {a x1 y1 : Nat} {tr : Tr (h + 1)} {a1 G : Nat} {l r : List UInt8} (hI : I ≠ []) (hd : T.drop a = 32 :: 46 :: 32 :: l) (H : RdAll T h (a + 2) (.inr (x1, y1, tr, a1)) G) (hk : tr.1 ≠ 6) (hd1 : T.drop a1 = 41 :: r) : RwAll T h x 6 I a (.inr (x, a1 + 1, seqT 6 I [tr], a1 + 1)) (G + 4) := by
  intro g hg
  obtain ⟨g, rfl⟩ : ∃ g', g = g' + 1 + 1 + 1 := ⟨g - 3, by omega⟩
  have hd2 : T.drop (a + 1) = 46 :: 32 :: l := drop_more [32] hd
  have hp : pieceP T.length (a + 1) (T.drop (a + 1)) = tkP (a + 1) 1 8 := by
    rw [hd2]
    have ht : tokL (46 :: 32 :: l) = 1 := by
      have h1 : dlx 46 < 0 := by decide
      have h2 : ¬ dlx 32 < 0 := by decide
      unfold tokL
      simp [h1, h2]
    rw [piece_tok _ _ 46 _ (by decide) (by decide) (by decide) (by decide)]
    unfold tokP
    rw [ht]
    rfl
  have e1 : (rdM T (g + 1 + 1) h).nx 0 a = tkP (a + 1) 1 8 := by
    rw [skip1 hd (.inl rfl), ← hp]
    exact nx_first (by rw [hp]; show (8 : Nat) ≠ 1; decide) (by rw [hp]; show (8 : Nat) ≠ 2; decide)
  have h1 := H (g + 1 + 1) (by omega)
  have n4 : ((rdM T (g + 1 + 1) h).nx 0 (a + 2)).k ≠ 4 := fun e => by
    have h1 : dtS T (rdM T (g + 1)) h _ = _ := h1
    unfold dtS at h1
    rw [if_neg (by omega), if_pos e] at h1
    cases h1
  have hp1 : pieceP T.length a1 (T.drop a1) = tkP a1 1 4 := by rw [hd1]; exact pieceC _ _ _
  have e3 : (rdM T (g + 1 + 1) h).nx 0 a1 = tkP a1 1 4 := by
    rw [← hp1]
    exact nx_first (by rw [hp1]; show (4 : Nat) ≠ 1; decide) (by rw [hp1]; show (4 : Nat) ≠ 2; decide)
  show rwS (rdM T (g + 1 + 1) h) x 6 I a = _
  unfold rwS
  have k8 : (tkP (a + 1) 1 8).k = 8 := rfl
  rw [e1, if_neg (by omega), if_pos ⟨k8, rfl, hI⟩]
  show dotM (rdM T (g + 1 + 1) h) x I (a + 2) = _
  unfold dotM
  rw [if_neg n4, h1]
  simp only []
  rw [e3, if_pos (show (tkP a1 1 4).k = 4 from rfl)]
  have hj : joinT I tr = seqT 6 I [tr] := by
    obtain ⟨k, n, b, L, t, J, R⟩ := tr
    have hk : k ≠ 6 := hk
    unfold joinT
    simp only []
    rw [if_neg hk]
  rw [hj]
  rfl

def W2R (h : Nat) : Prop := ∀ tr, Rb h tr → ∀ (T : List UInt8) (a : Nat) (r : List UInt8), T.drop a = wr (h + 1) false tr ++ r → Dlm r → ∃ G, RdAll T h a (.inr (a, a + (wr (h + 1) false tr).length, tr, a + (wr (h + 1) false tr).length)) G
theorem dlm_its {h : Nat} (I : List (Tr (h + 1))) (r : List UInt8) (hr : Dlm r) : Dlm (its (wr (h + 1) false) [32] I ++ r) := by
  cases I with
  | nil => exact hr
  | cons d I => exact .inr ⟨32, wr (h + 1) false d ++ (its (wr (h + 1) false) [32] I ++ r), by simp [its], by decide⟩
/-- Items, one behind the other. -/
theorem items_wr {h : Nat} (ih : W2R h) (T : List UInt8) (x : Nat) (kk : Int) (R : RD (h + 2)) (G2 : Nat) (tail : List UInt8) (ht : Dlm tail) : ∀ (I acc : List (Tr (h + 1))) (b : List UInt8) (a : Nat), (b = [] ∨ b = [32]) → (∀ d ∈ I, Rb h d) → T.drop a = its (wr (h + 1) false) b I ++ tail → RwAll T h x kk (acc ++ I) (a + (its (wr (h + 1) false) b I).length) R G2 → ∃ G, RwAll T h x kk acc a R G
  | [], acc, b, a, _, _, _, H => ⟨G2, by simpa [its] using H⟩
  | d :: I, acc, b, a, hb, hI, hd, H => by
    have e : its (wr (h + 1) false) b (d :: I) = b ++ wr (h + 1) false d ++ its (wr (h + 1) false) [32] I := rfl
    rw [e] at hd H
    have hd' : T.drop a = b ++ (wr (h + 1) false d ++ (its (wr (h + 1) false) [32] I ++ tail)) := by rw [hd]; simp
    have hdb := drop_more b hd'
    have hdl := dlm_its I tail ht
    obtain ⟨G1, h1⟩ := ih d (hI d (by simp)) T (a + b.length) _ hdb hdl
    have hd2 := drop_more (wr (h + 1) false d) hdb
    obtain ⟨G3, h3⟩ := items_wr ih T x kk R G2 tail ht I (acc ++ [d]) [32] (a + b.length + (wr (h + 1) false d).length) (.inr rfl) (fun y hy => hI y (by simp [hy])) hd2 (by
      have e2 : a + b.length + (wr (h + 1) false d).length + (its (wr (h + 1) false) [32] I).length = a + (b ++ wr (h + 1) false d ++ its (wr (h + 1) false) [32] I).length := by simp; omega
      rw [e2, List.append_assoc]
      exact H)
    rcases hb with rfl | rfl
    · exact ⟨_, RwAll.item h1 h3⟩
    · have hd4 : T.drop a = 32 :: (wr (h + 1) false d ++ (its (wr (h + 1) false) [32] I ++ tail)) := hd'
      exact ⟨_, RwAll.item (h1.blank hd4 (.inl rfl)) h3⟩
/-- A list or a vector from its beginning on. -/
theorem open_wr {T : List UInt8} {h a G : Nat} {kk : Int} {op : List UInt8} {R : RD (h + 2)} {l : List UInt8} (hop : (op = [40] ∧ kk = 6) ∨ (op = [35, 40] ∧ kk = 7)) (hd : T.drop a = op ++ l) (H : RwAll T h a kk [] (a + op.length) R G) : RdAll T (h + 1) a R (G + 2) := by
  intro g hg
  obtain ⟨g, rfl⟩ : ∃ g', g = g' + 1 := ⟨g - 1, by omega⟩
  have hp : pieceP T.length a (T.drop a) = tkP a op.length 3 := by
    rw [hd]
    rcases hop with ⟨rfl, -⟩ | ⟨rfl, -⟩
    · exact pieceO _ _ _
    · exact pieceV _ _ _
  have e1 : (rdM T (g + 1) (h + 1)).nx 0 a = tkP a op.length 3 := by
    rw [← hp]
    exact nx_first (by rw [hp]; show (3 : Nat) ≠ 1; decide) (by rw [hp]; show (3 : Nat) ≠ 2; decide)
  rw [e1]
  show dtS T (rdM T g) (h + 1) (tkP a op.length 3) = _
  unfold dtS
  have k3 : (tkP a op.length 3).k = 3 := rfl
  rw [if_neg (by omega), if_neg (by omega), if_neg (by omega), if_pos (.inl k3)]
  show nestM T (rdM T g h) (tkP a op.length 3) = _
  unfold nestM
  have hx : cutL T (tkP a op.length 3).x (tkP a op.length 3).y = op := by
    show cutL T a (a + op.length) = op
    rw [cut_drop, hd, List.take_left]
  rw [hx]
  rcases hop with ⟨rfl, rfl⟩ | ⟨rfl, rfl⟩
  · rw [if_pos rfl]
    exact H g (by omega)
  · rw [if_neg (by decide), if_pos rfl]
    exact H g (by omega)
theorem w2r : ∀ h, W2R h
  | 0 => fun tr hb T a r hd hr => by
    obtain ⟨v, rfl, hv⟩ := hb
    exact ⟨1, leaf_wr hv hd hr⟩
  | h + 1 => fun tr hb T a r hd hr => by
    have ih := w2r h
    rcases hb with ⟨v, rfl, hv⟩ | ⟨kk, I, hk, rfl, hI⟩ | ⟨I, d, rfl, hI0, hI, hdr, hk⟩
    · exact ⟨1, leaf_wr hv hd hr⟩
    · obtain ⟨op, hop, hw⟩ : ∃ op, ((op = [40] ∧ kk = 6) ∨ (op = [35, 40] ∧ kk = 7)) ∧ wr (h + 1 + 1) false (seqT kk I []) = op ++ its (wr (h + 1) false) [] I ++ [41] := by
        rcases hk with rfl | rfl
        · refine ⟨[40], .inl ⟨rfl, rfl⟩, ?_⟩
          cases I with
          | nil => simp [wr, seqT, its, dotW]
          | cons i I => simp [wr, seqT, dotW]
        · exact ⟨[35, 40], .inr ⟨rfl, rfl⟩, by simp [wr, seqT]⟩
      rw [hw] at hd ⊢
      have hd' : T.drop a = op ++ (its (wr (h + 1) false) [] I ++ (41 :: r)) := by rw [hd]; simp
      have hd2 := drop_more op hd'
      have hd3 := drop_more (its (wr (h + 1) false) [] I) hd2
      obtain ⟨G, hG⟩ := items_wr ih T a kk _ 2 (41 :: r) (.inr ⟨41, r, rfl, by decide⟩) I [] [] (a + op.length) (.inl rfl) hI hd2 (RwAll.close hd3)
      refine ⟨G + 2, ?_⟩
      have := open_wr hop hd' hG
      rw [List.nil_append] at this
      have e : a + op.length + (its (wr (h + 1) false) [] I).length + 1 = a + (op ++ its (wr (h + 1) false) [] I ++ [41]).length := by simp; omega
      rw [e] at this
      exact this
    · have hw : wr (h + 1 + 1) false (seqT 6 I [d]) = [40] ++ its (wr (h + 1) false) [] I ++ ([32, 46, 32] ++ wr (h + 1) false d) ++ [41] := by
        cases I with
        | nil => exact absurd rfl hI0
        | cons i I => simp [wr, seqT, dotW]
      rw [hw] at hd ⊢
      have hd' : T.drop a = [40] ++ (its (wr (h + 1) false) [] I ++ (32 :: 46 :: 32 :: (wr (h + 1) false d ++ (41 :: r)))) := by rw [hd]; simp
      have hd2 := drop_more [40] hd'
      have hd3 := drop_more (its (wr (h + 1) false) [] I) hd2
      have hd4 := drop_more [32, 46] hd3
      have hd5 := drop_more [32] hd4
      obtain ⟨G1, h1⟩ := ih d hdr T _ _ hd5 (.inr ⟨41, r, rfl, by decide⟩)
      have hd6 := drop_more (wr (h + 1) false d) hd5
      have h2 := h1.blank hd4 (.inl rfl)
      have h3 := RwAll.dot (x := a) (I := [] ++ I) (by simpa using hI0) hd3 h2 hk hd6
      obtain ⟨G, hG⟩ := items_wr ih T a 6 _ _ (32 :: 46 :: 32 :: (wr (h + 1) false d ++ (41 :: r))) (.inr ⟨32, _, rfl, by decide⟩) I [] [] (a + [40].length) (.inl rfl) hI hd2 h3
      refine ⟨G + 2, ?_⟩
      have := open_wr (.inl ⟨rfl, rfl⟩) hd' hG
      rw [List.nil_append] at this
      have e : a + ([40] : List UInt8).length + (its (wr (h + 1) false) [] I).length + ([32, 46] : List UInt8).length + ([32] : List UInt8).length + (wr (h + 1) false d).length + 1 = a + ([40] ++ its (wr (h + 1) false) [] I ++ ([32, 46, 32] ++ wr (h + 1) false d) ++ [41]).length := by simp; omega
      rw [e] at this
      exact this

theorem Rb.up : ∀ (h : Nat) (tr : Tr (h + 1)), Rb h tr → Rb (h + 1) (upT (h + 1) tr)
  | 0, tr, hb => by
    obtain ⟨v, rfl, hv⟩ := hb
    exact .inl ⟨v, rfl, hv⟩
  | h + 1, tr, hb => by
    rcases hb with ⟨v, rfl, hv⟩ | ⟨kk, I, hk, rfl, hI⟩ | ⟨I, d, rfl, hI0, hI, hdr, hk⟩
    · exact .inl ⟨v, rfl, hv⟩
    · refine .inr (.inl ⟨kk, I.map (upT (h + 1)), hk, rfl, fun x hx => ?_⟩)
      obtain ⟨y, hy, rfl⟩ := List.mem_map.1 hx
      exact Rb.up h y (hI y hy)
    · refine .inr (.inr ⟨I.map (upT (h + 1)), upT (h + 1) d, rfl, by simpa using hI0, fun x hx => ?_, Rb.up h d hdr, ?_⟩)
      · obtain ⟨y, hy, rfl⟩ := List.mem_map.1 hx
        exact Rb.up h y (hI y hy)
      · exact hk
theorem let_lt {l : List UInt8} {n : Nat} (h : letM l = some n) : n < 256 := by
  unfold letM at h
  split at h
  · simp only [Option.some.injEq] at h
    rw [← h]
    exact UInt8.toNat_lt _
  split at h
  · simp at h; omega
  split at h
  · simp at h; omega
  split at h
  · simp at h; omega
  split at h
  · simp at h; omega
  split at h
  · split at h
    · simp only [Option.some.injEq] at h
      obtain ⟨N, D, e, hN, -⟩ := hexP_nn (l.drop 1)
      rw [e] at h
      simp at h
      omega
    · cases h
  · cases h
theorem quo_res (T : List UInt8) (x : Nat) : ∀ (f a : Nat) (acc : List UInt8), (quoP T x f a acc).k ≠ 11 → (quoP T x f a acc).dk = 4 ∧ (quoP T x f a acc).n = 0
  | 0, a, acc, h => absurd rfl h
  | f + 1, a, acc, h => by
    unfold quoP at h ⊢
    match hd : T.drop a with
    | [] => rw [hd] at h; exact absurd rfl h
    | c :: l =>
      rw [hd] at h
      simp only [] at h ⊢
      split
      · exact ⟨rfl, rfl⟩
      rename_i c1
      rw [if_neg c1] at h
      split
      · rename_i c2
        rw [if_pos c2] at h
        split
        · rename_i c3
          rw [if_pos c3] at h
          exact absurd c3 h
        · rename_i c3
          rw [if_neg c3] at h
          exact quo_res T x f _ _ h
      · rename_i c2
        rw [if_neg c2] at h
        exact quo_res T x f _ _ h
theorem atom_leaf {l : List UInt8} {v : Lf} (h : atomM l = some v) (h0 : l ≠ []) (h1 : l ≠ [46]) : LeafOK v := by
  unfold atomM at h
  split at h
  · simp only [Option.some.injEq] at h
    exact .inr (.inl h.symm)
  split at h
  · simp only [Option.some.injEq] at h
    exact .inr (.inr (.inl h.symm))
  split at h
  · rename_i X hX
    simp only [Option.some.injEq] at h
    exact .inl ⟨X, h.symm⟩
  · rename_i hn
    split at h
    · rename_i hs
      simp only [Option.some.injEq] at h
      exact .inr (.inr (.inr (.inr (.inr ⟨⟨l.toArray⟩, h.symm, h0, h1, hs, hn⟩))))
    · cases h
/-- A token is no dot. -/
def TokOK (T : List UInt8) (p : LP) : Prop := p.k = 9 → cutL T p.x p.y ≠ [46] ∧ p.x < p.y
theorem piece_tokok (T : List UInt8) (a : Nat) (ha : a ≤ T.length) : TokOK T (pieceP T.length a (T.drop a)) := by
  intro hk
  have hP := piece_ok T.length a (T.drop a) List.length_drop ha
  have hat := hP.1.at (by omega)
  refine ⟨?_, hat.2.2.1 (by omega)⟩
  have tk : ∀ l : List UInt8, T.drop a = l → (tokP a l).k = 9 → cutL T (tokP a l).x (tokP a l).y ≠ [46] := fun l hl h9 e => by
    have e : cutL T a (a + tokL l) = [46] := e
    rw [cut_drop, hl] at e
    have h9 : (if l.take (tokL l) = [46] then 8 else 9) = 9 := h9
    rw [if_pos e] at h9
    omega
  match hd : T.drop a with
  | [] => rw [hd] at hk; exact absurd hk (by show ¬ ((0 : Nat) = 9); decide)
  | c :: l =>
    rw [hd] at hk
    have n9 : ∀ L k : Nat, (tkP a L k).k = k := fun _ _ => rfl
    unfold pieceP at hk ⊢
    simp only [] at hk ⊢
    split
    · rename_i c1; rw [if_pos c1, n9] at hk; omega
    rename_i c1
    rw [if_neg c1] at hk
    split
    · rename_i c1; rw [if_pos c1, n9] at hk; omega
    rename_i c1
    rw [if_neg c1] at hk
    split
    · rename_i c1; rw [if_pos c1, n9] at hk; omega
    rename_i c1
    rw [if_neg c1] at hk
    split
    · rename_i c1; rw [if_pos c1, n9] at hk; omega
    rename_i c1
    rw [if_neg c1] at hk
    split
    · rename_i c1; rw [if_pos c1, n9] at hk; omega
    rename_i c1
    rw [if_neg c1] at hk
    split
    · rename_i c1; rw [if_pos c1, n9] at hk; omega
    rename_i c1
    rw [if_neg c1] at hk
    split
    · rename_i c1
      rw [if_pos c1] at hk
      split at hk
      · rw [n9] at hk; omega
      · rw [n9] at hk; omega
    rename_i c1
    rw [if_neg c1] at hk
    split
    · rename_i c1
      rw [if_pos c1] at hk
      unfold shP at hk ⊢
      split
      · rename_i g1
        rw [if_pos g1] at hk
        split at hk
        · have hk : (11 : Nat) = 9 := hk
          omega
        · rw [n9] at hk; omega
      rename_i g1
      rw [if_neg g1] at hk
      split
      · rename_i g1; rw [if_pos g1, n9] at hk; omega
      rename_i g1
      rw [if_neg g1] at hk
      split
      · rename_i g1; rw [if_pos g1, n9] at hk; omega
      rename_i g1
      rw [if_neg g1] at hk
      split
      · rename_i g1; rw [if_pos g1, n9] at hk; omega
      · rename_i g1
        rw [if_neg g1] at hk
        exact tk _ hd hk
    · rename_i c1
      rw [if_neg c1] at hk
      exact tk _ hd hk
theorem long_sym (l : List UInt8) : SymOK (longN l).data.toList := by
  unfold longN SymOK
  split
  · exact ⟨by decide, by decide, by decide +kernel, by decide +kernel⟩
  split
  · exact ⟨by decide, by decide, by decide +kernel, by decide +kernel⟩
  split
  · exact ⟨by decide, by decide, by decide +kernel, by decide +kernel⟩
  · exact ⟨by decide, by decide, by decide +kernel, by decide +kernel⟩
structure RdB (T : List UInt8) {h : Nat} (r : RM h) : Prop where
  nx : ∀ ps a, a ≤ T.length → TokOK T (r.nx ps a)
  dt : ∀ p x y tr a', PieceOK T.length p → p.k ≠ 1 → p.k ≠ 2 → TokOK T p → r.dt p = .inr (x, y, tr, a') → Rb h tr
  rw : ∀ x k I a x' y' tr a', a ≤ T.length → (k = 6 ∨ k = 7) → (∀ d ∈ I, Rb h d) → r.rw x k I a = .inr (x', y', tr, a') → Rb (h + 1) tr
theorem nd_rb {T : List UInt8} {f h : Nat} (ih : RdB T (rdM T f h)) {a x y : Nat} {tr : Tr (h + 1)} {a' : Nat} (ha : a ≤ T.length) (e : (rdM T f h).dt ((rdM T f h).nx 0 a) = .inr (x, y, tr, a')) : Rb h tr := by
  have hn := (rdM_ok T f h).1 0 a ha
  exact ih.dt _ x y tr a' hn.1.1 hn.1.2.1 hn.1.2.2 (ih.nx 0 a ha) e
theorem rdb_all (T : List UInt8) : ∀ (f h : Nat), RdB T (rdM T f h)
  | 0, h => ⟨fun ps a _ e => (by have e : (11 : Nat) = 9 := e; omega), fun p x y tr a' _ _ _ _ e => (by cases e), fun x k I a x' y' tr a' _ _ _ e => (by cases e)⟩
  | f + 1, h => by
    have ih := rdb_all T f
    have ok := rdM_ok T f
    refine ⟨fun ps a ha => ?_, fun p x y tr a' hp k1 k2 htk e => ?_, fun x k I a x' y' tr a' ha hk hI e => ?_⟩
    · have hP := piece_ok T.length a (T.drop a) List.length_drop ha
      have htk := piece_tokok T a ha
      show TokOK T (nxS T (rdM T f h) ps a)
      unfold nxS
      generalize pieceP T.length a (T.drop a) = q0 at *
      by_cases c1 : q0.k = 1
      · rw [if_pos c1]; exact (ih h).nx ps _ hP.2.2.1
      rw [if_neg c1]
      by_cases c2 : q0.k = 2
      · rw [if_pos c2]; exact (ih h).nx _ _ hP.2.2.1
      rw [if_neg c2]
      by_cases c3 : 0 < ps
      · rw [if_pos c3]
        have hd := (ok h).2.1 q0 hP.1 c1 c2
        match hr : (rdM T f h).dt q0 with
        | .inl q =>
          rw [hr] at hd
          have hd : q.k = 11 := hd
          intro e
          have e : q.k = 9 := e
          omega
        | .inr (x2, y2, tr2, a2) => rw [hr] at hd; exact (ih h).nx (ps - 1) a2 hd.2.1
      · rw [if_neg c3]; exact htk
    · have hgd := dt_good e
      have e : dtS T (rdM T f) h p = .inr (x, y, tr, a') := e
      obtain ⟨hpa, hpy, hpx, hp7⟩ := hp.at hgd.2.1
      unfold dtS at e
      rw [if_neg hgd.1] at e
      by_cases c4 : p.k = 4
      · rw [if_pos c4] at e; cases e
      rw [if_neg c4] at e
      by_cases c8 : p.k = 8
      · rw [if_pos c8] at e; cases e
      rw [if_neg c8] at e
      by_cases c35 : p.k = 3 ∨ p.k = 5
      · rw [if_pos c35] at e
        cases h with
        | zero => cases e
        | succ h' =>
          have e : nestM T (rdM T f h') p = .inr (x, y, tr, a') := e
          unfold nestM at e
          split at e
          · exact (ih h').rw _ _ _ _ _ _ _ _ hpa (.inl rfl) (fun d hd => by cases hd) e
          split at e
          · exact (ih h').rw _ _ _ _ _ _ _ _ hpa (.inr rfl) (fun d hd => by cases hd) e
          · unfold abM at e
            match hr : (rdM T f h').dt ((rdM T f h').nx 0 p.a) with
            | .inl q' => rw [hr] at e; cases e
            | .inr (x2, y2, tr2, a2) =>
              rw [hr] at e
              simp only [Sum.inr.injEq, Prod.mk.injEq] at e
              obtain ⟨-, -, rfl, -⟩ := e
              refine .inr (.inl ⟨6, _, .inl rfl, rfl, fun d hd => ?_⟩)
              rcases List.mem_cons.1 hd with rfl | hd
              · exact Rb.leaf (.inr (.inr (.inr (.inr (.inr ⟨_, rfl, long_sym _⟩)))))
              · rw [List.mem_singleton] at hd
                subst hd
                exact nd_rb (ih h') hpa hr
      rw [if_neg c35] at e
      by_cases c6 : p.k = 6
      · rw [if_pos c6] at e
        unfold ofLP at e
        split at e
        · cases e
        · rename_i hk
          have hq := quo_res T p.x (T.length + 1) p.a [] hk
          simp only [Sum.inr.injEq, Prod.mk.injEq] at e
          obtain ⟨-, -, rfl, -⟩ := e
          rw [hq.1, hq.2]
          exact Rb.leaf (.inr (.inr (.inr (.inr (.inl ⟨_, rfl⟩)))))
      rw [if_neg c6] at e
      by_cases c7 : p.k = 7
      · rw [if_pos c7] at e
        unfold letP at e
        match hl : letM ((cutL T p.x p.y).drop 2) with
        | none =>
          rw [hl] at e
          have e : ofLP h (ftP p.x 14 p.a) = .inr (x, y, tr, a') := e
          unfold ofLP at e
          rw [if_pos (show (ftP p.x 14 p.a).k = 11 from rfl)] at e
          cases e
        | some v =>
          rw [hl] at e
          have e : (Sum.inr (p.x, p.y, lfT h ⟨3, v, false, [], ⟨#[]⟩⟩, p.a) : RD (h + 1)) = .inr (x, y, tr, a') := e
          simp only [Sum.inr.injEq, Prod.mk.injEq] at e
          obtain ⟨-, -, rfl, -⟩ := e
          exact Rb.leaf (.inr (.inr (.inr (.inl ⟨v, let_lt hl, rfl⟩))))
      rw [if_neg c7] at e
      by_cases c9 : p.k = 9
      · rw [if_pos c9] at e
        have ht := htk c9
        unfold atomR at e
        match hl : atomM (cutL T p.x p.y) with
        | none => rw [hl] at e; cases e
        | some v =>
          rw [hl] at e
          simp only [Sum.inr.injEq, Prod.mk.injEq] at e
          obtain ⟨-, -, rfl, -⟩ := e
          refine Rb.leaf (atom_leaf hl (fun e0 => ?_) ht.1)
          have := congrArg List.length e0
          unfold cutL at this
          rw [List.length_drop, List.length_take, List.length_nil] at this
          omega
      · rw [if_neg c9] at e
        cases e
    · have e : rwS (rdM T f h) x k I a = .inr (x', y', tr, a') := e
      have hn := (ok h).1 0 a ha
      unfold rwS at e
      by_cases c4 : ((rdM T f h).nx 0 a).k = 4
      · rw [if_pos c4] at e
        simp only [Sum.inr.injEq, Prod.mk.injEq] at e
        obtain ⟨-, -, rfl, -⟩ := e
        exact .inr (.inl ⟨k, I, hk, rfl, hI⟩)
      rw [if_neg c4] at e
      by_cases c8 : ((rdM T f h).nx 0 a).k = 8 ∧ k = 6 ∧ I ≠ []
      · rw [if_pos c8] at e
        have h1 := hn.2 (by omega)
        have ha2 := h1.2.1
        generalize ((rdM T f h).nx 0 a).a = a2 at *
        unfold dotM at e
        split at e
        · cases e
        match hr : (rdM T f h).dt ((rdM T f h).nx 0 a2) with
        | .inl q' => rw [hr] at e; cases e
        | .inr (x3, y3, tr3, a3) =>
          rw [hr] at e
          have hrb := nd_rb (ih h) ha2 hr
          simp only [] at e
          split at e
          · simp only [Sum.inr.injEq, Prod.mk.injEq] at e
            obtain ⟨-, -, rfl, -⟩ := e
            by_cases hk6 : tr3.1 = 6
            · cases h with
              | zero =>
                obtain ⟨v, rfl, hv⟩ := hrb
                exact absurd hk6 hv.kind
              | succ h' =>
                rcases hrb with ⟨v, rfl, hv⟩ | ⟨kk, J, hkk, rfl, hJ⟩ | ⟨J, d, rfl, hJ0, hJ, hdr, hkd⟩
                · exact absurd hk6 hv.kind
                · have hk6 : kk = 6 := hk6
                  subst hk6
                  refine .inr (.inl ⟨6, I ++ J.map (upT (h' + 1)), .inl rfl, rfl, fun z hz => ?_⟩)
                  rcases List.mem_append.1 hz with hz | hz
                  · exact hI z hz
                  · obtain ⟨w, hw, rfl⟩ := List.mem_map.1 hz
                    exact Rb.up h' w (hJ w hw)
                · refine .inr (.inr ⟨I ++ J.map (upT (h' + 1)), upT (h' + 1) d, rfl, by simp [c8.2.2], fun z hz => ?_, Rb.up h' d hdr, hkd⟩)
                  rcases List.mem_append.1 hz with hz | hz
                  · exact hI z hz
                  · obtain ⟨w, hw, rfl⟩ := List.mem_map.1 hz
                    exact Rb.up h' w (hJ w hw)
            · have hj : joinT I tr3 = seqT 6 I [tr3] := by
                obtain ⟨k', n, b, L, t, J, R⟩ := tr3
                have hk6 : k' ≠ 6 := hk6
                unfold joinT
                simp only []
                rw [if_neg hk6]
              rw [hj]
              exact .inr (.inr ⟨I, tr3, rfl, c8.2.2, hI, hrb, hk6⟩)
          · split at e
            · split at e <;> cases e
            · cases e
      · rw [if_neg c8] at e
        match hr : (rdM T f h).dt ((rdM T f h).nx 0 a) with
        | .inl q' => rw [hr] at e; cases e
        | .inr (x3, y3, tr3, a3) =>
          rw [hr] at e
          refine (ih h).rw x k (I ++ [tr3]) a3 x' y' tr a' ((nd_ok (ok h) ha).2 _ _ _ _ hr).2.1 hk (fun d hd => ?_) e
          rcases List.mem_append.1 hd with hd | hd
          · exact hI d hd
          · rw [List.mem_singleton] at hd
            subst hd
            exact nd_rb (ih h) ha hr
/-- All that is read can be. -/
theorem allR_rb {T : List UInt8} {F h : Nat} : ∀ (g a : Nat) (J : List (Tr (h + 1))), a ≤ T.length → allR (rdM T F h) g a [] = .inr J → ∀ d ∈ J, Rb h d
  | 0, a, J, ha, e => by cases e
  | g + 1, a, J, ha, e => by
    obtain ⟨g1, hg1, h1⟩ := allR_inv e
    obtain rfl : g = g1 := by omega
    rcases h1 with ⟨h0, rfl⟩ | ⟨h0, x, y, tr, a', J', h2, rfl, h3⟩
    · intro d hd; cases hd
    · intro d hd
      rcases List.mem_cons.1 hd with rfl | hd
      · exact nd_rb (rdb_all T F h) ha h2
      · exact allR_rb g a' J' ((nd_ok (rdM_ok T F h) ha).2 _ _ _ _ h2).2.1 h3 d hd
/-- Data, written with a blank behind each. -/
def catW {h : Nat} (J : List (Tr (h + 1))) : List UInt8 := J.flatMap fun d => wr (h + 1) false d ++ [32]
theorem all_back {h : Nat} (T : List UInt8) : ∀ (J : List (Tr (h + 1))) (a : Nat), (∀ d ∈ J, Rb h d) → a ≤ T.length → T.drop a = catW J → ∃ f g, allR (rdM T f h) g a [] = .inr J
  | [], a, _, ha, hd => by
    refine ⟨1, 1, allR_nil 0 ?_⟩
    have hp : pieceP T.length a (T.drop a) = tkP a 0 0 := by rw [hd]; rfl
    rw [nx_first (by rw [hp]; show (0 : Nat) ≠ 1; decide) (by rw [hp]; show (0 : Nat) ≠ 2; decide), hp]
    rfl
  | d :: J, a, hJ, ha, hd => by
    have hd' : T.drop a = wr (h + 1) false d ++ (32 :: catW J) := by
      rw [hd]
      unfold catW
      rw [List.flatMap_cons]
      simp
    obtain ⟨G, hG⟩ := w2r h d (hJ d (by simp)) T a _ hd' (.inr ⟨32, _, rfl, by decide⟩)
    have hd2 := drop_more (wr (h + 1) false d) hd'
    have hd3 : T.drop (a + (wr (h + 1) false d).length + 1) = catW J := drop_more [32] hd2
    have hle := drop_le hd2
    obtain ⟨f, g, e⟩ := all_back T J (a + (wr (h + 1) false d).length + 1) (fun z hz => hJ z (by simp [hz])) hle hd3
    have e2 := allR_mono (f' := f + G + 1) (by omega) g g _ _ hle (Nat.le_refl _) e
    have e3 : allR (rdM T (f + G + 1) h) g (a + (wr (h + 1) false d).length) [] = .inr J := by
      refine allR_same ?_ e2
      rw [skip1 hd2 (.inl rfl), nx_mono (f := f) (f' := f + G) (by omega) hle (allR_k e)]
      exact (nx_mono (by omega) hle (allR_k e)).symm
    have h1 := hG (f + G + 1) (by omega)
    exact ⟨f + G + 1, g + 1, allR_cons (dt_good h1).1 h1 e3⟩

theorem bk_up : ∀ (h : Nat) (tr : Tr h), bk (h + 1) (upT h tr) = bk h tr
  | 0, e => (show Empty from e).elim
  | h + 1, (k, n, b, L, t, I, R) => by
    have e : ∀ J : List (Tr h), ((J.map (upT h)).map (bk (h + 1))).sum = (J.map (bk h)).sum := fun J => by
      rw [List.map_map]
      congr 1
      apply List.map_congr_left
      intro x _
      exact bk_up h x
    show 2 + L.length + t.size + ((I.map (upT h)).map (bk (h + 1))).sum + ((R.map (upT h)).map (bk (h + 1))).sum = _
    rw [e, e]
    rfl
theorem limb_len : ∀ (f x k : Nat), x < 4294967296 ^ k → (limbL f x).length ≤ k
  | 0, x, k, _ => by simp [limbL]
  | f + 1, x, k, h => by
    unfold limbL
    by_cases h0 : x = 0
    · rw [if_pos h0]; simp
    · rw [if_neg h0, List.length_cons]
      cases k with
      | zero => simp at h; omega
      | succ k =>
        have := limb_len f (x / 4294967296) k (by
          rw [Nat.pow_succ] at h
          exact Nat.div_lt_of_lt_mul (by rw [Nat.mul_comm]; exact h))
        omega
theorem fold_lt (l : List UInt8) (hl : l.all isDg = true) : ∀ x : Nat, l.foldl (fun x c => x * 10 + (c.toNat - 48)) x < (x + 1) * 10 ^ l.length := by
  induction l with
  | nil => intro x; simp
  | cons c l ih =>
    intro x
    rw [List.all_cons, Bool.and_eq_true] at hl
    have h1 : c.toNat ≤ 57 := by have := hl.1; unfold isDg at this; simp at this; omega
    have h2 := ih hl.2 (x * 10 + (c.toNat - 48))
    rw [List.foldl_cons, List.length_cons, Nat.pow_succ]
    refine Nat.lt_of_lt_of_le h2 ?_
    have h3 : x * 10 + (c.toNat - 48) + 1 ≤ (x + 1) * 10 := by omega
    calc (x * 10 + (c.toNat - 48) + 1) * 10 ^ l.length ≤ ((x + 1) * 10) * 10 ^ l.length := Nat.mul_le_mul_right _ h3
      _ = (x + 1) * (10 ^ l.length * 10) := by rw [Nat.mul_assoc, Nat.mul_comm 10]
theorem dig_lt {l : List UInt8} {x : Nat} (h : digM l = some x) : x < 4294967296 ^ l.length := by
  unfold digM at h
  split at h
  · rename_i hc
    simp only [Option.some.injEq] at h
    have := fold_lt l hc.2 0
    rw [h] at this
    refine Nat.lt_of_lt_of_le this ?_
    rw [Nat.zero_add, Nat.one_mul]
    exact Nat.pow_le_pow_left (by decide) _
  · cases h
theorem sgn_abs (b : Bool) (x : Nat) : (sgn b x).natAbs = x := by cases b <;> simp [sgn]
theorem num_lt2 {l : List UInt8} {X : Int} (h : numM l = some X) : X.natAbs < 4294967296 ^ l.length := by
  have up : ∀ (c : UInt8) (l : List UInt8) (x : Nat), x < 4294967296 ^ l.length → x < 4294967296 ^ (c :: l).length := fun c l x hx => by
    refine Nat.lt_of_lt_of_le hx ?_
    exact Nat.pow_le_pow_right (by decide) (by simp)
  match l, h with
  | c :: l, h =>
    unfold numM at h
    simp only [] at h
    split at h
    · obtain ⟨x, hx, rfl⟩ := Option.map_eq_some_iff.1 h
      rw [sgn_abs]
      exact up c l x (dig_lt hx)
    split at h
    · obtain ⟨x, hx, rfl⟩ := Option.map_eq_some_iff.1 h
      rw [sgn_abs]
      exact up c l x (dig_lt hx)
    · obtain ⟨x, hx, rfl⟩ := Option.map_eq_some_iff.1 h
      rw [sgn_abs]
      exact dig_lt hx
theorem bk_leaf (h : Nat) (v : Lf) : bk (h + 1) (lfT h v) = 2 + v.L.length + v.s.size := by
  show 2 + v.L.length + v.s.size + (([] : List (Tr h)).map (bk h)).sum + (([] : List (Tr h)).map (bk h)).sum = _
  simp
theorem bk_seq {h : Nat} (k : Int) (I R : List (Tr h)) : bk (h + 1) (seqT k I R) = 2 + (I.map (bk h)).sum + (R.map (bk h)).sum := by
  show 2 + ([] : List Nat).length + (⟨#[]⟩ : ByteArray).size + (I.map (bk h)).sum + (R.map (bk h)).sum = _
  have : (⟨#[]⟩ : ByteArray).size = 0 := rfl
  simp [this]
theorem atom_bk {h : Nat} {l : List UInt8} {v : Lf} (hv : atomM l = some v) : bk (h + 1) (lfT h v) ≤ 2 + l.length := by
  rw [bk_leaf]
  have z : (⟨#[]⟩ : ByteArray).size = 0 := rfl
  unfold atomM at hv
  split at hv
  · simp only [Option.some.injEq] at hv
    rw [← hv]
    simp [z]
  split at hv
  · simp only [Option.some.injEq] at hv
    rw [← hv]
    simp [z]
  split at hv
  · rename_i X hX
    simp only [Option.some.injEq] at hv
    rw [← hv]
    show 2 + (limbL X.natAbs X.natAbs).length + (⟨#[]⟩ : ByteArray).size ≤ _
    have := limb_len X.natAbs X.natAbs l.length (num_lt2 hX)
    omega
  · split at hv
    · simp only [Option.some.injEq] at hv
      rw [← hv]
      show 2 + 0 + (⟨l.toArray⟩ : ByteArray).size ≤ _
      simp [ByteArray.size]
    · cases hv
theorem quo_bk (T : List UInt8) (x : Nat) : ∀ (f a : Nat) (acc : List UInt8), (quoP T x f a acc).k ≠ 11 → (quoP T x f a acc).s.size + a ≤ acc.length + (quoP T x f a acc).a
  | 0, a, acc, h => absurd rfl h
  | f + 1, a, acc, h => by
    unfold quoP at h ⊢
    match hd : T.drop a with
    | [] => rw [hd] at h; exact absurd rfl h
    | c :: l =>
      rw [hd] at h
      simp only [] at h ⊢
      split
      · show (⟨acc.toArray⟩ : ByteArray).size + a ≤ acc.length + (a + 1)
        have : (⟨acc.toArray⟩ : ByteArray).size = acc.length := by simp [ByteArray.size]
        omega
      rename_i c1
      rw [if_neg c1] at h
      split
      · rename_i c2
        rw [if_pos c2] at h
        split
        · rename_i c3
          rw [if_pos c3] at h
          exact absurd c3 h
        · rename_i c3
          rw [if_neg c3] at h
          have h1 := quo_bk T x f _ _ h
          rw [List.length_append, List.length_singleton] at h1
          have he := escP_ok T.length a (c :: l)
          rcases he with he | he
          · exact absurd he.1 c3
          · omega
      · rename_i c2
        rw [if_neg c2] at h
        have h1 := quo_bk T x f _ _ h
        rw [List.length_append, List.length_singleton] at h1
        omega
theorem long_size (l : List UInt8) : (longN l).size ≤ 16 := by
  unfold longN
  split
  · decide
  split
  · decide
  split
  · decide
  · decide
theorem piece_x (n a : Nat) (l : List UInt8) (hk : (pieceP n a l).k ≠ 11) : (pieceP n a l).x = a := by
  have tk : ∀ l : List UInt8, (tokP a l).x = a := fun _ => rfl
  match l, hk with
  | [], _ => rfl
  | c :: l, hk =>
    unfold pieceP at hk ⊢
    simp only [] at hk ⊢
    split
    · rfl
    rename_i c1
    rw [if_neg c1] at hk
    split
    · rfl
    rename_i c1
    rw [if_neg c1] at hk
    split
    · rfl
    rename_i c1
    rw [if_neg c1] at hk
    split
    · rfl
    rename_i c1
    rw [if_neg c1] at hk
    split
    · rfl
    rename_i c1
    rw [if_neg c1] at hk
    split
    · rfl
    rename_i c1
    rw [if_neg c1] at hk
    split
    · split <;> rfl
    rename_i c1
    rw [if_neg c1] at hk
    split
    · rename_i c1
      rw [if_pos c1] at hk
      unfold shP at hk ⊢
      split
      · rename_i g1
        rw [if_pos g1] at hk
        split
        · rename_i hc
          rw [hc] at hk
          exact absurd rfl hk
        · rfl
      split
      · rfl
      split
      · rfl
      split
      · rfl
      · rfl
    · rfl
structure BkOK (n : Nat) {h : Nat} (r : RM h) : Prop where
  nx : ∀ ps a, a ≤ n → (r.nx ps a).k ≠ 11 → a ≤ (r.nx ps a).x
  dt : ∀ p x y tr a', PieceOK n p → p.k ≠ 1 → p.k ≠ 2 → r.dt p = .inr (x, y, tr, a') → bk (h + 1) tr + 21 * p.x ≤ 21 * a'
  rw : ∀ x k I a x' y' tr a', a ≤ n → r.rw x k I a = .inr (x', y', tr, a') → bk (h + 2) tr + 21 * a ≤ 21 * a' + 2 + (I.map (bk (h + 1))).sum
theorem nd_bk {T : List UInt8} {f h : Nat} (ih : BkOK T.length (rdM T f h)) {a x y : Nat} {tr : Tr (h + 1)} {a' : Nat} (ha : a ≤ T.length) (e : (rdM T f h).dt ((rdM T f h).nx 0 a) = .inr (x, y, tr, a')) : bk (h + 1) tr + 21 * a ≤ 21 * a' := by
  have hn := (rdM_ok T f h).1 0 a ha
  have h1 := ih.dt _ x y tr a' hn.1.1 hn.1.2.1 hn.1.2.2 e
  have h2 := ih.nx 0 a ha (dt_good e).2.1
  omega
theorem bk_all (T : List UInt8) : ∀ (f h : Nat), BkOK T.length (rdM T f h)
  | 0, h => ⟨fun ps a _ e => absurd rfl e, fun p x y tr a' _ _ _ e => (by cases e), fun x k I a x' y' tr a' _ e => (by cases e)⟩
  | f + 1, h => by
    have ih := bk_all T f
    have ok := rdM_ok T f
    refine ⟨fun ps a ha hk => ?_, fun p x y tr a' hp k1 k2 e => ?_, fun x k I a x' y' tr a' ha e => ?_⟩
    · have hP := piece_ok T.length a (T.drop a) List.length_drop ha
      have hx := piece_x T.length a (T.drop a)
      have hk : (nxS T (rdM T f h) ps a).k ≠ 11 := hk
      show a ≤ (nxS T (rdM T f h) ps a).x
      unfold nxS at hk ⊢
      generalize pieceP T.length a (T.drop a) = q0 at *
      by_cases c1 : q0.k = 1
      · rw [if_pos c1] at hk ⊢
        have := (ih h).nx ps _ hP.2.2.1 hk
        have := hP.2.1
        omega
      rw [if_neg c1] at hk ⊢
      by_cases c2 : q0.k = 2
      · rw [if_pos c2] at hk ⊢
        have := (ih h).nx _ _ hP.2.2.1 hk
        have := hP.2.1
        omega
      rw [if_neg c2] at hk ⊢
      by_cases c3 : 0 < ps
      · rw [if_pos c3] at hk ⊢
        have hd := (ok h).2.1 q0 hP.1 c1 c2
        match hr : (rdM T f h).dt q0 with
        | .inl q => rw [hr] at hk hd; exact absurd hd hk
        | .inr (x2, y2, tr2, a2) =>
          rw [hr] at hk hd
          have h2 := (ih h).nx (ps - 1) a2 hd.2.1 hk
          have h3 := hd.1
          have h4 := hP.2.1
          simp only []
          omega
      · rw [if_neg c3] at hk ⊢
        rw [hx hk]
        exact Nat.le_refl _
    · have hgd := dt_good e
      have e : dtS T (rdM T f) h p = .inr (x, y, tr, a') := e
      obtain ⟨hpa, hpy, hpx, hp7⟩ := hp.at hgd.2.1
      have hx := hpx hgd.1
      unfold dtS at e
      rw [if_neg hgd.1] at e
      by_cases c4 : p.k = 4
      · rw [if_pos c4] at e; cases e
      rw [if_neg c4] at e
      by_cases c8 : p.k = 8
      · rw [if_pos c8] at e; cases e
      rw [if_neg c8] at e
      by_cases c35 : p.k = 3 ∨ p.k = 5
      · rw [if_pos c35] at e
        cases h with
        | zero => cases e
        | succ h' =>
          have e : nestM T (rdM T f h') p = .inr (x, y, tr, a') := e
          unfold nestM at e
          split at e
          · have := (ih h').rw _ _ _ _ _ _ _ _ hpa e
            simp only [List.map_nil, List.sum_nil] at this
            change bk (h' + 1 + 1) tr + 21 * p.a ≤ 21 * a' + 2 + 0 at this
            omega
          split at e
          · have := (ih h').rw _ _ _ _ _ _ _ _ hpa e
            simp only [List.map_nil, List.sum_nil] at this
            change bk (h' + 1 + 1) tr + 21 * p.a ≤ 21 * a' + 2 + 0 at this
            omega
          · unfold abM at e
            match hr : (rdM T f h').dt ((rdM T f h').nx 0 p.a) with
            | .inl q' => rw [hr] at e; cases e
            | .inr (x2, y2, tr2, a2) =>
              rw [hr] at e
              simp only [Sum.inr.injEq, Prod.mk.injEq] at e
              obtain ⟨-, -, rfl, rfl⟩ := e
              have h1 := nd_bk (ih h') hpa hr
              rw [bk_seq]
              have h2 := long_size (cutL T p.x p.y)
              simp only [List.map_cons, List.map_nil, List.sum_cons, List.sum_nil, bk_leaf, List.length_nil]
              omega
      rw [if_neg c35] at e
      by_cases c6 : p.k = 6
      · rw [if_pos c6] at e
        unfold ofLP at e
        split at e
        · cases e
        · rename_i hk
          have hq := quo_bk T p.x (T.length + 1) p.a [] hk
          simp only [Sum.inr.injEq, Prod.mk.injEq] at e
          obtain ⟨-, -, rfl, rfl⟩ := e
          rw [bk_leaf]
          simp only [List.length_nil] at hq ⊢
          omega
      rw [if_neg c6] at e
      by_cases c7 : p.k = 7
      · rw [if_pos c7] at e
        unfold letP at e
        match hl : letM ((cutL T p.x p.y).drop 2) with
        | none =>
          rw [hl] at e
          have e : ofLP h (ftP p.x 14 p.a) = .inr (x, y, tr, a') := e
          unfold ofLP at e
          rw [if_pos (show (ftP p.x 14 p.a).k = 11 from rfl)] at e
          cases e
        | some v =>
          rw [hl] at e
          have e : (Sum.inr (p.x, p.y, lfT h ⟨3, v, false, [], ⟨#[]⟩⟩, p.a) : RD (h + 1)) = .inr (x, y, tr, a') := e
          simp only [Sum.inr.injEq, Prod.mk.injEq] at e
          obtain ⟨-, -, rfl, rfl⟩ := e
          rw [bk_leaf]
          have : (⟨#[]⟩ : ByteArray).size = 0 := rfl
          simp only [List.length_nil, this]
          omega
      rw [if_neg c7] at e
      by_cases c9 : p.k = 9
      · rw [if_pos c9] at e
        unfold atomR at e
        match hl : atomM (cutL T p.x p.y) with
        | none => rw [hl] at e; cases e
        | some v =>
          rw [hl] at e
          simp only [Sum.inr.injEq, Prod.mk.injEq] at e
          obtain ⟨-, -, rfl, rfl⟩ := e
          have h1 := atom_bk (h := h) hl
          have h2 : (cutL T p.x p.y).length ≤ p.y - p.x := by
            unfold cutL
            rw [List.length_drop, List.length_take]
            omega
          omega
      · rw [if_neg c9] at e
        cases e
    · have e : rwS (rdM T f h) x k I a = .inr (x', y', tr, a') := e
      have hn := (ok h).1 0 a ha
      unfold rwS at e
      by_cases c4 : ((rdM T f h).nx 0 a).k = 4
      · rw [if_pos c4] at e
        have h1 := hn.2 (by omega)
        simp only [Sum.inr.injEq, Prod.mk.injEq] at e
        obtain ⟨-, -, rfl, rfl⟩ := e
        rw [bk_seq]
        simp only [List.map_nil, List.sum_nil]
        omega
      rw [if_neg c4] at e
      by_cases c8 : ((rdM T f h).nx 0 a).k = 8 ∧ k = 6 ∧ I ≠ []
      · rw [if_pos c8] at e
        have h1 := hn.2 (by omega)
        have ha2 := h1.2.1
        have hle := h1.1
        generalize ((rdM T f h).nx 0 a).a = a2 at *
        unfold dotM at e
        split at e
        · cases e
        match hr : (rdM T f h).dt ((rdM T f h).nx 0 a2) with
        | .inl q' => rw [hr] at e; cases e
        | .inr (x3, y3, tr3, a3) =>
          rw [hr] at e
          have hb := nd_bk (ih h) ha2 hr
          have h3 := (nd_ok (ok h) ha2).2 _ _ _ _ hr
          have hn3 := (ok h).1 0 a3 h3.2.1
          simp only [] at e
          split at e
          · rename_i d4
            have h4 := hn3.2 (by omega)
            simp only [Sum.inr.injEq, Prod.mk.injEq] at e
            obtain ⟨-, -, rfl, rfl⟩ := e
            have hj : bk (h + 2) (joinT I tr3) ≤ 2 + (I.map (bk (h + 1))).sum + bk (h + 1) tr3 := by
              have es : ∀ J : List (Tr h), ((J.map (upT h)).map (bk (h + 1))).sum = (J.map (bk h)).sum := fun J => by
                rw [List.map_map]
                congr 1
                apply List.map_congr_left
                intro x _
                exact bk_up h x
              by_cases hk6 : tr3.1 = 6
              · obtain ⟨k', n, b, L, t, J, R⟩ := tr3
                have hk6 : k' = 6 := hk6
                have eb : bk (h + 1) (k', n, b, L, t, J, R) = 2 + L.length + t.size + (J.map (bk h)).sum + (R.map (bk h)).sum := rfl
                have hj : joinT I (k', n, b, L, t, J, R) = seqT 6 (I ++ J.map (upT h)) (R.map (upT h)) := by
                  unfold joinT
                  simp only []
                  rw [if_pos hk6]
                rw [hj, bk_seq, List.map_append, List.sum_append, es, es, eb]
                omega
              · have hj : joinT I tr3 = seqT 6 I [tr3] := by
                  obtain ⟨k', n, b, L, t, J, R⟩ := tr3
                  have hk6 : k' ≠ 6 := hk6
                  unfold joinT
                  simp only []
                  rw [if_neg hk6]
                rw [hj, bk_seq]
                simp only [List.map_cons, List.map_nil, List.sum_cons, List.sum_nil]
                omega
            omega
          · split at e
            · split at e <;> cases e
            · cases e
      · rw [if_neg c8] at e
        match hr : (rdM T f h).dt ((rdM T f h).nx 0 a) with
        | .inl q' => rw [hr] at e; cases e
        | .inr (x3, y3, tr3, a3) =>
          rw [hr] at e
          have hb := nd_bk (ih h) ha hr
          have h1 := (ih h).rw x k (I ++ [tr3]) a3 x' y' tr a' ((nd_ok (ok h) ha).2 _ _ _ _ hr).2.1 e
          rw [List.map_append, List.sum_append] at h1
          simp only [List.map_cons, List.map_nil, List.sum_cons, List.sum_nil] at h1
          omega
theorem allR_bk {T : List UInt8} {F h : Nat} : ∀ (g a : Nat) (J : List (Tr (h + 1))), a ≤ T.length → allR (rdM T F h) g a [] = .inr J → (J.map (bk (h + 1))).sum + 21 * a ≤ 21 * T.length
  | 0, a, J, ha, e => by cases e
  | g + 1, a, J, ha, e => by
    obtain ⟨g1, hg1, h1⟩ := allR_inv e
    obtain rfl : g = g1 := by omega
    rcases h1 with ⟨h0, rfl⟩ | ⟨h0, x, y, tr, a', J', h2, rfl, h3⟩
    · simp; omega
    · have hb := nd_bk (bk_all T F h) ha h2
      have := allR_bk g a' J' ((nd_ok (rdM_ok T F h) ha).2 _ _ _ _ h2).2.1 h3
      rw [List.map_cons, List.sum_cons]
      omega

end Go.Proofs.YteipogfolnlblaaDoor
