/-
  What is proved here: the reader's rows of limbs and of texts (package pack). the reader's num and instruction (package pack). the reader's instruction, and rows of instructions (package pack). the reader's rows of instructions (package pack).
-/
import Derived.Test.YtilcigjhogcjkaaPRA
import Derived.Test.YtilcigjhogcjkaaPKCopyA
namespace Go.Proofs.Ytilcigjhogcjkaa
open Go Go.RowKit

/-- So many of what f reads. -/
def rdRow {α : Type} (f : List Nat → Option (α × List Nat)) : Nat → List Nat → Option (List α × List Nat)
  | 0, l => some ([], l)
  | n + 1, l => match f l with
    | none => none
    | some (x, m) => match rdRow f n m with
      | none => none
      | some (xs, k) => some (x :: xs, k)
def more {α : Type} (xs : List α) (o : Option (List α × List Nat)) : Option (List α × List Nat) := match o with
  | none => none
  | some (ys, m) => some (xs ++ ys, m)
theorem rdRow_zero {α : Type} (f : List Nat → Option (α × List Nat)) (l : List Nat) : rdRow f 0 l = some ([], l) := rfl
theorem more_nil {α : Type} (o : Option (List α × List Nat)) : more [] o = o := by cases o <;> rfl
theorem more_no {α : Type} {f : List Nat → Option (α × List Nat)} {xs : List α} {k : Nat} {l : List Nat} (h : f l = none) : more xs (rdRow f (k + 1) l) = none := by
  show more xs (match f l with | none => none | some (x, m) => match rdRow f k m with | none => none | some (xs, k) => some (x :: xs, k)) = none
  rw [h]
  rfl
theorem more_yes {α : Type} {f : List Nat → Option (α × List Nat)} {xs : List α} {k : Nat} {l m : List Nat} {x : α} (h : f l = some (x, m)) : more xs (rdRow f (k + 1) l) = more (xs ++ [x]) (rdRow f k m) := by
  show more xs (match f l with | none => none | some (x, m) => match rdRow f k m with | none => none | some (xs, k) => some (x :: xs, k)) = _
  rw [h]
  show more xs (match rdRow f k m with | none => none | some (xs, k) => some (x :: xs, k)) = _
  cases rdRow f k m with
  | none => rfl
  | some y => simp [more]
/-- A row that is being filled: the cells so far. -/
def FR (E : TypeId) (w : World) (g N : Nat) (cs : List Value) : Prop := ∃ cur : Array Value, w.heap[g]? = some (.cells cur E (0, 0)) ∧ cur.size = N ∧ cur.toList.take cs.length = cs
theorem FR.lt {E : TypeId} {w : World} {g N : Nat} {cs : List Value} (h : FR E w g N cs) : g < w.heap.size := by
  obtain ⟨cur, h1, -⟩ := h
  exact (Array.getElem?_eq_some_iff.1 h1).1
theorem FR.fr {E : TypeId} {w w' : World} {g N rb : Nat} {cs : List Value} (h : FR E w g N cs) (F : Fr (fun j => j = rb) w w') (hn : g ≠ rb) : FR E w' g N cs := by
  have := h.lt
  obtain ⟨cur, h1, h2⟩ := h
  exact ⟨cur, (F.block g this hn).trans h1, h2⟩
theorem FR.fz {E : TypeId} {w : World} {g N : Nat} {cs : List Value} (h : FR E w g N cs) (i : Nat) : w.frozen? ⟨g, i, none⟩ = false := by
  obtain ⟨cur, h1, -⟩ := h
  exact frozen_of_row _ _ _ _ _ h1
theorem FR.some {E : TypeId} {w : World} {g N : Nat} {cs : List Value} (h : FR E w g N cs) {i : Nat} (hi : i < N) : ∃ u, w.cell? ⟨g, i, none⟩ = Option.some u := by
  obtain ⟨cur, h1, h2, -⟩ := h
  rw [cell_of_row w g i cur _ _ h1]
  exact ⟨_, Array.getElem?_eq_getElem (by omega)⟩
theorem FR.push {E : TypeId} {w : World} {g N : Nat} {cs : List Value} (h : FR E w g N cs) (x : Value) (hl : cs.length < N) : FR E (w.setCell ⟨g, cs.length, none⟩ x) g N (cs ++ [x]) := by
  obtain ⟨cur, h1, h2, h3⟩ := h
  refine ⟨cur.setIfInBounds cs.length x, heap_setCell_same w g _ cur _ x h1, by simpa using h2, ?_⟩
  rw [Array.toList_setIfInBounds, List.length_append, List.length_singleton]
  have hcl : cur.toList.length = cur.size := Array.length_toList
  have hlen : cs.length < cur.toList.length := by omega
  rw [List.take_add_one, List.take_set_of_le (Nat.le_refl _), h3, List.getElem?_set_self hlen]
  rfl

theorem Fr.upw2 {w w' : World} (h : Fr (fun _ => False) w w') : Up w w' := ⟨h.os, h.tape, h.output, h.size, fun k hk => h.block k hk (fun e => e)⟩
theorem RS.setO {w0 w : World} {rb p g i : Nat} {l : List Nat} {u : Value} (h : RS w0 w rb l p) (hg : rb < g) : RS w0 (w.setCell ⟨g, i, none⟩ u) rb l p := by
  obtain ⟨hU, hrb, v, hB, hR⟩ := h
  exact ⟨⟨hU.os, hU.tape, hU.output, by simpa [World.setCell] using hU.size, fun k hk => (heap_setCell_other _ _ _ _ (by show k ≠ g; omega)).trans (hU.block k hk)⟩, hrb, v, hB, (heap_setCell_other _ _ _ _ (by show rb ≠ g; omega)).trans hR⟩
theorem rdCnt_by8 {k : Nat} {l m : List Nat} {n : Nat} (h : rdCnt k l = some (n, m)) (h8 : By8 l) : By8 m := by
  unfold rdCnt at h
  split at h
  · cases h
  · rename_i hn
    split at h
    · cases h
      exact rdNum_by8 hn h8
    · cases h
theorem rdLimb_by8 {l m : List Nat} {n : Nat} (h : rdLimb l = some (n, m)) (h8 : By8 l) : By8 m := by
  unfold rdLimb at h
  split at h
  · cases h
  · rename_i hn
    split at h
    · cases h
      exact rdNum_by8 hn h8
    · cases h
theorem rdTxt_by8 {l m : List Nat} {s : ByteArray} (h : rdTxt l = some (s, m)) (h8 : By8 l) : By8 m := by
  unfold rdTxt at h
  split at h
  · cases h
  · rename_i hn
    cases h
    exact (rdCnt_by8 hn h8).suf (List.drop_suffix _ _)
theorem infoUr : (Try.prog.info? 65).map (fun i => (i.zero, i.size, i.bytes)) = some (some (.int .u32 0), 1, 4) := by kernel_rfl
theorem infoXr : (Try.prog.info? 9).map (fun i => (i.zero, i.size, i.bytes)) = some (some (.string ⟨#[]⟩), 1, 16) := by kernel_rfl

theorem wpList_mkU {w : World} {ops : Array Oper} {rest : List Oper} {o : Oper} {a : Act} {Q : Exit → Act → World → Prop}
    (hg : o.guard = none) (l c : Operand) (hop : o.op = Op.makeSlice 60 l c)
    (kl kc : IntKind) (L C : Int) (n : Nat) (hl : a.eval l = .int kl L) (hc : a.eval c = .int kc C) (hL : L = (n : Int)) (hC : C = (n : Int)) (b2 : 4 * n ≤ 281474976710656)
    (hK : ∀ w', FR 65 w' w.heap.size n [] → Fr (fun _ => False) w w' → w.heap.size < w'.heap.size → wpList Try.prog ops Q rest (a.put o.dst (.slice (some ⟨w.heap.size, 0, none⟩) n n)) w') :
    wpList Try.prog ops Q (o :: rest) a w := by
  obtain ⟨i, hi, hz0, hz1, hz2⟩ := info_parts infoUr
  refine wpList_make_full w hg l c 60 hop w.heap.size 65 i (.int .u32 0) 1 Try.underlying60 hi hz0 hz1 kl kc L C n hl hc hL hC (by rw [hz2]; exact b2) (by unfold maxLen; omega) (Nat.le_refl _) ?_
  intro w' hown hgrow
  have hR : FR 65 w' w.heap.size n [] := by
    rcases hown.2 with ⟨e, _⟩ | ⟨g, cap, cur, e, h1, h2, h3, h4, h5, h6⟩
    · cases e
    · cases e
      exact ⟨cur, h2, by omega, rfl⟩
  exact hK w' hR ((Fr.refl _ w).grow hgrow (fun k _ e => by cases e)) hR.lt
/-- A row that was read. -/
def RowU (w : World) (B : Nat) (v : Value) (xs : List Nat) : Prop := (xs = [] ∧ v = .slice none 0 0) ∨ ∃ g, B ≤ g ∧ v = .slice (some ⟨g, 0, none⟩) xs.length xs.length ∧ FR 65 w g xs.length (xs.map fun (x : Nat) => (.int .u32 (x : Int) : Value))
def okU (w0 : World) (rb p B : Nat) (x : List Nat × List Nat) (e : Ending) (w' : World) : Prop := ∃ v, e = .returned v ∧ RowU w' B v x.1 ∧ RS w0 w' rb x.2 p

set_option maxRecDepth 20000 in
set_option maxHeartbeats 2000000 in
theorem rowU_any (w0 w : World) (rb p n : Nat) (l : List Nat) (h : RS w0 w rb l p) (h8 : By8 l) (hn : n ≤ 100000000) :
    Calls Try.prog 87 #[.int .i64 (n : Int), .func (.func 88) #[.pointer (some ⟨rb, 0, none⟩)] #[]] w fun e w' => RQ w rb (okU w0 rb p w.heap.size) (rdRow rdLimb n l) e w' := by
  obtain ⟨out, hout⟩ : ∃ o, o = rdRow rdLimb n l := ⟨_, rfl⟩
  rw [← hout]
  by_cases h0 : n = 0
  · subst h0
    have HO : Hid (out = some ([], l)) := hout
    have HRS := hide h
    clear h hout
    go_enter Try.func87, Try.ntmps87
    go_wp2
    go_ret
    exact RQ.mk' HO.out (Fr.refl _ _) ⟨_, rfl, .inl ⟨rfl, rfl⟩, HRS.out⟩
  · have g0 : ((n : Int) == 0) = false := by rw [beq_eq_false_iff_ne]; omega
    have HRS := hide h
    have HOUT := hide hout
    have H8 := hide h8
    have HRB := hide h.2.2
    have hrbl : rb < w.heap.size := by obtain ⟨v, -, hR⟩ := h.2.2; exact hR.lt
    clear h hout h8
    go_enter Try.func87, Try.ntmps87
    go_wp2_with (at_make; refine wpList_mkU rfl _ _ rfl .i64 .i64 _ _ n rfl rfl rfl rfl (by omega) ?_; intro w1 R1 F1 hlt1; have HR1 := hide R1; have HF1 := hide F1; clear R1 F1)
    go_loopw [13] (fun c wr => ∃ (i : Nat) (xs : List Nat) (m : List Nat), i ≤ n ∧ c = .int .i64 (i : Int) ∧ xs.length = i ∧ RS w0 wr rb m p ∧ Fr (fun j => j = rb) w wr ∧ By8 m ∧ FR 65 wr w.heap.size n (xs.map fun (x : Nat) => (.int .u32 (x : Int) : Value)) ∧ out = more xs (rdRow rdLimb (n - i) m)) (fun c _ => n - (intOf c).toNat)
    case atStart => exact ⟨0, [], l, Nat.zero_le _, rfl, rfl, HRS.out.mono HF1.out.upw2, HF1.out.mono (fun _ _ e => e.elim), H8.out, HR1.out, by rw [more_nil]; exact HOUT.out⟩
    case round =>
      clear HRS HOUT H8 HR1 HF1
      obtain ⟨i, xs, m, hi, rfl, hxl, hrs, hF, hm8, hR, ho⟩ := hrel
      by_cases hil : i < n
      · have hiI : (i : Int) < (n : Int) := by omega
        rw [show n - i = (n - (i + 1)) + 1 by omega] at ho
        have HFF := hide hF
        have HR := hide hR
        obtain ⟨u0, z0⟩ := hR.some (i := i) hil
        cases hx : rdLimb m with
        | none =>
          have K := hide ((rdlimb_any w0 wr rb p m hrs hm8).mono (fun _ _ q => q.no hx))
          have HO : Hid (out = none) := ho.trans (more_no hx)
          clear hrs hF hR ho hx
          go_wp2_with (go_at_call 88; refine K.out.mono ?_; rintro e2 w2 ⟨rfl, F2⟩; have HF2 := hide (HFF.out.trans F2 (fun _ _ e => e)); clear F2)
          exact ⟨rfl, RQ.mkno HO.out HF2.out⟩
        | some y =>
          obtain ⟨x, m2⟩ := y
          have K := hide ((rdlimb_any w0 wr rb p m hrs hm8).mono (fun _ _ q => q.yes hx))
          have HO : Hid (out = more (xs ++ [x]) (rdRow rdLimb (n - (i + 1)) m2)) := ho.trans (more_yes hx)
          have HM8 := hide (rdLimb_by8 hx hm8)
          clear hrs hF hR ho hx
          go_wp2_with (go_at_call 88; refine K.out.mono ?_; rintro e2 w2 ⟨⟨rfl, hr2⟩, F2⟩; have HF2 := hide (HFF.out.trans F2 (fun _ _ e => e)); have HR2 := hide (HR.out.fr F2 (by omega)); have HRS2 := hide hr2; have y0 := (F2.cell (b := w.heap.size) (o := i) HR.out.lt (by omega)).trans z0; have y1 := HR2.out.fz i; clear F2 hr2)
          refine ⟨⟨i + 1, xs ++ [x], m2, hil, by go_num, by simp [hxl], HRS2.out.setO (by omega), HF2.out.setCell (fun e => by omega) _ _, HM8.out, ?_, HO.out⟩, by simp [intOf]; omega⟩
          have := HR2.out.push ((.int .u32 (x : Int) : Value)) (by simpa [hxl] using hil)
          simpa [hxl] using this
      · have e : i = n := by omega
        subst e
        have hil' : ¬ ((i : Int) < (i : Int)) := by omega
        rw [Nat.sub_self, rdRow_zero] at ho
        have HO : Hid (out = some (xs, m)) := by
          unfold Hid
          rw [ho]
          simp [more]
        have HFF := hide hF
        have HRS := hide hrs
        have HRR : Hid (RowU wr w.heap.size (.slice (some ⟨w.heap.size, 0, none⟩) i i) xs) := .inr ⟨_, Nat.le_refl _, by rw [hxl], by rw [hxl]; exact hR⟩
        clear hrs hF hR ho hil
        go_wp2
        go_ret
        exact RQ.mk' HO.out HFF.out ⟨_, rfl, HRR.out, HRS.out⟩

theorem wpList_mkX {w : World} {ops : Array Oper} {rest : List Oper} {o : Oper} {a : Act} {Q : Exit → Act → World → Prop}
    (hg : o.guard = none) (l c : Operand) (hop : o.op = Op.makeSlice 46 l c)
    (kl kc : IntKind) (L C : Int) (n : Nat) (hl : a.eval l = .int kl L) (hc : a.eval c = .int kc C) (hL : L = (n : Int)) (hC : C = (n : Int)) (b2 : 16 * n ≤ 281474976710656)
    (hK : ∀ w', FR 9 w' w.heap.size n [] → Fr (fun _ => False) w w' → w.heap.size < w'.heap.size → wpList Try.prog ops Q rest (a.put o.dst (.slice (some ⟨w.heap.size, 0, none⟩) n n)) w') :
    wpList Try.prog ops Q (o :: rest) a w := by
  obtain ⟨i, hi, hz0, hz1, hz2⟩ := info_parts infoXr
  refine wpList_make_full w hg l c 46 hop w.heap.size 9 i (.string ⟨#[]⟩) 1 Try.underlying46 hi hz0 hz1 kl kc L C n hl hc hL hC (by rw [hz2]; exact b2) (by unfold maxLen; omega) (Nat.le_refl _) ?_
  intro w' hown hgrow
  have hR : FR 9 w' w.heap.size n [] := by
    rcases hown.2 with ⟨e, _⟩ | ⟨g, cap, cur, e, h1, h2, h3, h4, h5, h6⟩
    · cases e
    · cases e
      exact ⟨cur, h2, by omega, rfl⟩
  exact hK w' hR ((Fr.refl _ w).grow hgrow (fun k _ e => by cases e)) hR.lt
/-- A row that was read. -/
def RowX (w : World) (B : Nat) (v : Value) (xs : List ByteArray) : Prop := (xs = [] ∧ v = .slice none 0 0) ∨ ∃ g, B ≤ g ∧ v = .slice (some ⟨g, 0, none⟩) xs.length xs.length ∧ FR 9 w g xs.length (xs.map fun (x : ByteArray) => (.string x : Value))
def okX (w0 : World) (rb p B : Nat) (x : List ByteArray × List Nat) (e : Ending) (w' : World) : Prop := ∃ v, e = .returned v ∧ RowX w' B v x.1 ∧ RS w0 w' rb x.2 p

set_option maxRecDepth 20000 in
set_option maxHeartbeats 2000000 in
theorem rowX_any (w0 w : World) (rb p n : Nat) (l : List Nat) (h : RS w0 w rb l p) (h8 : By8 l) (hn : n ≤ 100000000) :
    Calls Try.prog 66 #[.int .i64 (n : Int), .func (.func 61) #[.pointer (some ⟨rb, 0, none⟩)] #[]] w fun e w' => RQ w rb (okX w0 rb p w.heap.size) (rdRow rdTxt n l) e w' := by
  obtain ⟨out, hout⟩ : ∃ o, o = rdRow rdTxt n l := ⟨_, rfl⟩
  rw [← hout]
  by_cases h0 : n = 0
  · subst h0
    have HO : Hid (out = some ([], l)) := hout
    have HRS := hide h
    clear h hout
    go_enter Try.func66, Try.ntmps66
    go_wp2
    go_ret
    exact RQ.mk' HO.out (Fr.refl _ _) ⟨_, rfl, .inl ⟨rfl, rfl⟩, HRS.out⟩
  · have g0 : ((n : Int) == 0) = false := by rw [beq_eq_false_iff_ne]; omega
    have HRS := hide h
    have HOUT := hide hout
    have H8 := hide h8
    have HRB := hide h.2.2
    have hrbl : rb < w.heap.size := by obtain ⟨v, -, hR⟩ := h.2.2; exact hR.lt
    clear h hout h8
    go_enter Try.func66, Try.ntmps66
    go_wp2_with (at_make; refine wpList_mkX rfl _ _ rfl .i64 .i64 _ _ n rfl rfl rfl rfl (by omega) ?_; intro w1 R1 F1 hlt1; have HR1 := hide R1; have HF1 := hide F1; clear R1 F1)
    go_loopw [13] (fun c wr => ∃ (i : Nat) (xs : List ByteArray) (m : List Nat), i ≤ n ∧ c = .int .i64 (i : Int) ∧ xs.length = i ∧ RS w0 wr rb m p ∧ Fr (fun j => j = rb) w wr ∧ By8 m ∧ FR 9 wr w.heap.size n (xs.map fun (x : ByteArray) => (.string x : Value)) ∧ out = more xs (rdRow rdTxt (n - i) m)) (fun c _ => n - (intOf c).toNat)
    case atStart => exact ⟨0, [], l, Nat.zero_le _, rfl, rfl, HRS.out.mono HF1.out.upw2, HF1.out.mono (fun _ _ e => e.elim), H8.out, HR1.out, by rw [more_nil]; exact HOUT.out⟩
    case round =>
      clear HRS HOUT H8 HR1 HF1
      obtain ⟨i, xs, m, hi, rfl, hxl, hrs, hF, hm8, hR, ho⟩ := hrel
      by_cases hil : i < n
      · have hiI : (i : Int) < (n : Int) := by omega
        rw [show n - i = (n - (i + 1)) + 1 by omega] at ho
        have HFF := hide hF
        have HR := hide hR
        obtain ⟨u0, z0⟩ := hR.some (i := i) hil
        cases hx : rdTxt m with
        | none =>
          have K := hide ((rdtxt_any w0 wr rb p m hrs hm8).mono (fun _ _ q => q.no hx))
          have HO : Hid (out = none) := ho.trans (more_no hx)
          clear hrs hF hR ho hx
          go_wp2_with (go_at_call 61; refine K.out.mono ?_; rintro e2 w2 ⟨rfl, F2⟩; have HF2 := hide (HFF.out.trans F2 (fun _ _ e => e)); clear F2)
          exact ⟨rfl, RQ.mkno HO.out HF2.out⟩
        | some y =>
          obtain ⟨x, m2⟩ := y
          have K := hide ((rdtxt_any w0 wr rb p m hrs hm8).mono (fun _ _ q => q.yes hx))
          have HO : Hid (out = more (xs ++ [x]) (rdRow rdTxt (n - (i + 1)) m2)) := ho.trans (more_yes hx)
          have HM8 := hide (rdTxt_by8 hx hm8)
          clear hrs hF hR ho hx
          go_wp2_with (go_at_call 61; refine K.out.mono ?_; rintro e2 w2 ⟨⟨rfl, hr2⟩, F2⟩; have HF2 := hide (HFF.out.trans F2 (fun _ _ e => e)); have HR2 := hide (HR.out.fr F2 (by omega)); have HRS2 := hide hr2; have y0 := (F2.cell (b := w.heap.size) (o := i) HR.out.lt (by omega)).trans z0; have y1 := HR2.out.fz i; clear F2 hr2)
          refine ⟨⟨i + 1, xs ++ [x], m2, hil, by go_num, by simp [hxl], HRS2.out.setO (by omega), HF2.out.setCell (fun e => by omega) _ _, HM8.out, ?_, HO.out⟩, by simp [intOf]; omega⟩
          have := HR2.out.push ((.string x : Value)) (by simpa [hxl] using hil)
          simpa [hxl] using this
      · have e : i = n := by omega
        subst e
        have hil' : ¬ ((i : Int) < (i : Int)) := by omega
        rw [Nat.sub_self, rdRow_zero] at ho
        have HO : Hid (out = some (xs, m)) := by
          unfold Hid
          rw [ho]
          simp [more]
        have HFF := hide hF
        have HRS := hide hrs
        have HRR : Hid (RowX wr w.heap.size (.slice (some ⟨w.heap.size, 0, none⟩) i i) xs) := .inr ⟨_, Nat.le_refl _, by rw [hxl], by rw [hxl]; exact hR⟩
        clear hrs hF hR ho hil
        go_wp2
        go_ret
        exact RQ.mk' HO.out HFF.out ⟨_, rfl, HRR.out, HRS.out⟩

theorem rdFlag_len {l m : List Nat} {b : Bool} (h : rdFlag l = some (b, m)) : m.length < l.length ∧ m <:+ l := by
  match l, h with
  | x :: l, h =>
    simp only [rdFlag] at h
    split at h
    · cases h
      exact ⟨by simp, List.suffix_cons _ _⟩
    · cases h
theorem rdCnt_len {k : Nat} {l m : List Nat} {n : Nat} (h : rdCnt k l = some (n, m)) : m.length < l.length ∧ n ≤ m.length / k ∧ m <:+ l := by
  unfold rdCnt at h
  split at h
  · cases h
  · rename_i hn
    split at h
    · rename_i hq
      cases h
      exact ⟨rdNum_len hn, hq, (rdG_suf _ _ _ _ _ _ hn).2.1⟩
    · cases h
/-- A number's sign and limbs. -/
def rdMag (l : List Nat) : Option ((Bool × List Nat) × List Nat) := match rdFlag l with
  | none => none
  | some (b, l1) => match rdCnt 1 l1 with
    | none => none
    | some (n, l2) => match rdRow rdLimb n l2 with
      | none => none
      | some (xs, m) => some ((b, xs), m)
def okM (w0 : World) (rb p B : Nat) (x : (Bool × List Nat) × List Nat) (e : Ending) (w' : World) : Prop := ∃ v, e = .returned (.agg #[.bool x.1.1, v]) ∧ RowU w' B v x.1.2 ∧ RS w0 w' rb x.2 p
theorem RowU.fr {w w' : World} {B rb : Nat} {v : Value} {xs : List Nat} (h : RowU w B v xs) (F : Fr (fun j => j = rb) w w') (hB : rb < B) : RowU w' B v xs := by
  rcases h with h | ⟨g, h1, h2, h3⟩
  · exact .inl h
  · exact .inr ⟨g, h1, h2, h3.fr F (by omega)⟩
theorem RowU.shape {w : World} {B : Nat} {v : Value} {xs : List Nat} (h : RowU w B v xs) : ∃ ao, v = .slice ao xs.length xs.length := by
  rcases h with ⟨rfl, rfl⟩ | ⟨g, -, rfl, -⟩
  · exact ⟨none, rfl⟩
  · exact ⟨_, rfl⟩
theorem RowU.le {w : World} {B B' : Nat} {v : Value} {xs : List Nat} (h : RowU w B v xs) (hB : B' ≤ B) : RowU w B' v xs := by
  rcases h with h | ⟨g, h1, h2, h3⟩
  · exact .inl h
  · exact .inr ⟨g, by omega, h2, h3⟩
theorem RS.lt {w0 w : World} {rb p : Nat} {l : List Nat} (h : RS w0 w rb l p) : rb < w.heap.size := by
  obtain ⟨-, -, v, -, hR⟩ := h
  exact hR.lt
/-- A variable of two cells. -/
def B2 (w : World) (b : Nat) (c0 c1 : Value) : Prop := w.heap[b]? = some (.cells #[c0, c1] 62 (0, 0))
theorem B2.k0 {w : World} {b : Nat} {c0 c1 : Value} (h : B2 w b c0 c1) : w.cell? ⟨b, 0, none⟩ = some c0 := by rw [cell_of_row w b 0 _ _ _ h]; rfl
theorem B2.k1 {w : World} {b : Nat} {c0 c1 : Value} (h : B2 w b c0 c1) : w.cell? ⟨b, 1, none⟩ = some c1 := by rw [cell_of_row w b 1 _ _ _ h]; rfl
theorem B2.fz {w : World} {b : Nat} {c0 c1 : Value} (h : B2 w b c0 c1) (i : Nat) : w.frozen? ⟨b, i, none⟩ = false := frozen_of_row _ _ _ _ _ h
theorem B2.fr {w w' : World} {b rb : Nat} {c0 c1 : Value} (h : B2 w b c0 c1) (F : Fr (fun j => j = rb) w w') (hn : b ≠ rb) : B2 w' b c0 c1 := (F.block b (Array.getElem?_eq_some_iff.1 h).1 hn).trans h
theorem B2.s0 {w : World} {b : Nat} {c0 c1 : Value} (h : B2 w b c0 c1) (x : Value) : B2 (w.setCell ⟨b, 0, none⟩ x) b x c1 := (heap_setCell_same w b 0 _ _ x h).trans rfl
theorem B2.s1 {w : World} {b : Nat} {c0 c1 : Value} (h : B2 w b c0 c1) (x : Value) : B2 (w.setCell ⟨b, 1, none⟩ x) b c0 x := (heap_setCell_same w b 1 _ _ x h).trans rfl
theorem B2.so {w : World} {b g i : Nat} {c0 c1 x : Value} (h : B2 w b c0 c1) (hg : b ≠ g) : B2 (w.setCell ⟨g, i, none⟩ x) b c0 c1 := (heap_setCell_other _ _ _ _ hg).trans h
theorem RowU.so {w : World} {B g i : Nat} {v x : Value} {xs : List Nat} (h : RowU w B v xs) (hg : g < B) : RowU (w.setCell ⟨g, i, none⟩ x) B v xs := by
  rcases h with h | ⟨k, h1, h2, cur, h3, h4⟩
  · exact .inl h
  · exact .inr ⟨k, h1, h2, cur, (heap_setCell_other _ _ _ _ (by show k ≠ g; omega)).trans h3, h4⟩

set_option maxRecDepth 20000 in
set_option maxHeartbeats 2000000 in
theorem rdmag_any (w0 w : World) (rb p : Nat) (l : List Nat) (h : RS w0 w rb l p) (h8 : By8 l) (hl : l.length ≤ 100000000) :
    Calls Try.prog 82 #[.pointer (some ⟨rb, 0, none⟩)] w fun e w' => RQ w rb (okM w0 rb p w.heap.size) (rdMag l) e w' := by
  have hmf : ∀ (fn : Fn) (first cap : Array Value) (w : World), (Instr.makeFunc fn first cap).run Try.prog w = .ok (.func fn first cap) w := fun _ _ _ _ => rfl
  have hrb := h.lt
  have hA := h.mono ((up_alloc w (.cells #[.bool false, .slice none 0 0] 62)).tr (up_alloc _ (.cells #[.bool false, .slice none 0 0] 62)))
  have hB : B2 ((w.alloc (.cells #[.bool false, .slice none 0 0] 62)).alloc (.cells #[.bool false, .slice none 0 0] 62)) (w.heap.size + 1) (.bool false) (.slice none 0 0) := by
    have := heap_alloc_new (w.alloc (.cells #[.bool false, .slice none 0 0] 62)) (.cells #[.bool false, .slice none 0 0] 62)
    rw [World.size_alloc] at this
    exact this
  have hC : B2 ((w.alloc (.cells #[.bool false, .slice none 0 0] 62)).alloc (.cells #[.bool false, .slice none 0 0] 62)) w.heap.size (.bool false) (.slice none 0 0) := (heap_alloc_old _ _ (by simp)).trans (heap_alloc_new w _)
  have hF0 : Fr (fun j => j = rb) w ((w.alloc (.cells #[.bool false, .slice none 0 0] 62)).alloc (.cells #[.bool false, .slice none 0 0] 62)) := ((Fr.refl _ w).alloc _).alloc _
  have hsz : ((w.alloc (.cells #[.bool false, .slice none 0 0] 62)).alloc (.cells #[.bool false, .slice none 0 0] 62)).heap.size = w.heap.size + 2 := by simp
  obtain ⟨W0, hW0⟩ : ∃ W0, W0 = (w.alloc (.cells #[.bool false, .slice none 0 0] 62)).alloc (.cells #[.bool false, .slice none 0 0] 62) := ⟨_, rfl⟩
  rw [← hW0] at hA hB hC hF0 hsz
  have HW := hide hW0
  cases h1 : rdFlag l with
  | none =>
    have K1 := hide ((rdflag_any w0 W0 rb p l hA).mono (fun _ _ q => q.no h1))
    have HO : Hid (rdMag l = none) := by unfold Hid rdMag; rw [h1]
    have HF0 := hide hF0
    clear h hA hB hC hF0 h1 hW0 h8 hl
    go_enter Try.func82, Try.ntmps82
    go_wp2_with fail
    rw [← HW.out]
    go_wp2_with (go_at_call 62; refine K1.out.mono ?_; rintro e1 w1 ⟨rfl, F1⟩; have HF1 := hide (HF0.out.trans F1 (fun _ _ e => e)); clear F1)
    exact ⟨rfl, RQ.mkno HO.out HF1.out⟩
  | some x =>
    obtain ⟨b, l1⟩ := x
    obtain ⟨hl1, hs1⟩ := rdFlag_len h1
    have h81 := h8.suf hs1
    have K1 := hide ((rdflag_any w0 W0 rb p l hA).mono (fun _ _ q => q.yes h1))
    have HB := hide hB
    have HC := hide hC
    have HF0 := hide hF0
    cases h2 : rdCnt 1 l1 with
    | none =>
      have K2 := hide (fun (W : World) (hr : RS w0 W rb l1 p) => (rdcnt_any w0 W rb p 1 l1 hr h81 (by decide) (by decide)).mono (fun _ _ q => q.no h2))
      have HO : Hid (rdMag l = none) := by unfold Hid rdMag; rw [h1]; simp only; rw [h2]
      clear h hA hB hC hF0 h1 h2 hW0 h8 h81 hl hl1 hs1
      go_enter Try.func82, Try.ntmps82
      go_wp2_with fail
      rw [← HW.out]
      go_wp2_with (first
        | (go_at_call 62; refine K1.out.mono ?_; rintro e1 w1 ⟨⟨rfl, hr1⟩, F1⟩; have b1 := HB.out.fr F1 (by omega); have c1 := HC.out.fr F1 (by omega); have f1 := b1.fz 0; have y1 := b1.k0; have HB1 := hide (b1.s0 (.bool b)); have HC1 := hide (c1.so (g := w.heap.size + 1) (i := 0) (x := .bool b) (by omega)); have HR1 := hide (hr1.setO (g := w.heap.size + 1) (i := 0) (u := .bool b) (by omega)); have HF1 : Hid (Fr (fun j => j = rb) w (w1.setCell ⟨w.heap.size + 1, 0, none⟩ (.bool b))) := ((HF0.out.trans F1 (fun _ _ e => e)).setCell (fun e => by omega) _ _); clear F1 hr1 b1 c1)
        | (go_at_call 49; refine (K2.out _ HR1.out).mono ?_; rintro e2 w2 ⟨rfl, F2⟩; have HF2 := hide (HF1.out.trans F2 (fun _ _ e => e)); clear F2))
      exact ⟨rfl, RQ.mkno HO.out HF2.out⟩
    | some y =>
      obtain ⟨n, l2⟩ := y
      obtain ⟨hl2, hn2, hs2⟩ := rdCnt_len h2
      rw [Nat.div_one] at hn2
      have h82 := h81.suf hs2
      have K2 := hide (fun (W : World) (hr : RS w0 W rb l1 p) => (rdcnt_any w0 W rb p 1 l1 hr h81 (by decide) (by decide)).mono (fun _ _ q => q.yes h2))
      cases h3 : rdRow rdLimb n l2 with
      | none =>
        have K3 := hide (fun (W : World) (hr : RS w0 W rb l2 p) => (rowU_any w0 W rb p n l2 hr h82 (by omega)).mono (fun _ _ q => q.no h3))
        have HO : Hid (rdMag l = none) := by unfold Hid rdMag; rw [h1]; simp only; rw [h2]; simp only; rw [h3]
        clear h hA hB hC hF0 h1 h2 h3 hW0 h8 h81 h82 hl hl1 hl2 hn2 hs1 hs2
        go_enter Try.func82, Try.ntmps82
        go_wp2_with fail
        rw [← HW.out]
        go_wp2_with (first
          | (go_at_call 62; refine K1.out.mono ?_; rintro e1 w1 ⟨⟨rfl, hr1⟩, F1⟩; have b1 := HB.out.fr F1 (by omega); have c1 := HC.out.fr F1 (by omega); have f1 := b1.fz 0; have y1 := b1.k0; have HB1 := hide (b1.s0 (.bool b)); have HC1 := hide (c1.so (g := w.heap.size + 1) (i := 0) (x := .bool b) (by omega)); have HR1 := hide (hr1.setO (g := w.heap.size + 1) (i := 0) (u := .bool b) (by omega)); have HF1 : Hid (Fr (fun j => j = rb) w (w1.setCell ⟨w.heap.size + 1, 0, none⟩ (.bool b))) := ((HF0.out.trans F1 (fun _ _ e => e)).setCell (fun e => by omega) _ _); clear F1 hr1 b1 c1)
          | (go_at_call 49; refine (K2.out _ HR1.out).mono ?_; rintro e2 w2 ⟨⟨rfl, hr2⟩, F2⟩; have HB2 := hide (HB1.out.fr F2 (by omega)); have HC2 := hide (HC1.out.fr F2 (by omega)); have HR2 := hide hr2; have HF2 := hide (HF1.out.trans F2 (fun _ _ e => e)); clear F2 hr2)
          | (go_at_call 87; refine (K3.out _ HR2.out).mono ?_; rintro e3 w3 ⟨rfl, F3⟩; have HF3 := hide (HF2.out.trans F3 (fun _ _ e => e)); clear F3))
        exact ⟨rfl, RQ.mkno HO.out HF3.out⟩
      | some z =>
        obtain ⟨xs, m⟩ := z
        have K3 := hide (fun (W : World) (hr : RS w0 W rb l2 p) => (rowU_any w0 W rb p n l2 hr h82 (by omega)).mono (fun _ _ q => q.yes h3))
        have HO : Hid (rdMag l = some ((b, xs), m)) := by unfold Hid rdMag; rw [h1]; simp only; rw [h2]; simp only; rw [h3]
        have HSZ2 : ∀ (W : World), B2 W (w.heap.size + 1) (.bool b) (.slice none 0 0) → Fr (fun j => j = rb) w W → w.heap.size + 2 ≤ W.heap.size := fun W h _ => (Array.getElem?_eq_some_iff.1 h).1
        clear h hA hB hC hF0 h1 h2 h3 hW0 h8 h81 h82 hl hl1 hl2 hn2 hs1 hs2
        go_enter Try.func82, Try.ntmps82
        go_wp2_with fail
        rw [← HW.out]
        go_wp2_with (first
          | (go_at_call 62; refine K1.out.mono ?_; rintro e1 w1 ⟨⟨rfl, hr1⟩, F1⟩; have b1 := HB.out.fr F1 (by omega); have c1 := HC.out.fr F1 (by omega); have f1 := b1.fz 0; have y1 := b1.k0; have HB1 := hide (b1.s0 (.bool b)); have HC1 := hide (c1.so (g := w.heap.size + 1) (i := 0) (x := .bool b) (by omega)); have HR1 := hide (hr1.setO (g := w.heap.size + 1) (i := 0) (u := .bool b) (by omega)); have HF1 : Hid (Fr (fun j => j = rb) w (w1.setCell ⟨w.heap.size + 1, 0, none⟩ (.bool b))) := ((HF0.out.trans F1 (fun _ _ e => e)).setCell (fun e => by omega) _ _); clear F1 hr1 b1 c1)
          | (go_at_call 49; refine (K2.out _ HR1.out).mono ?_; rintro e2 w2 ⟨⟨rfl, hr2⟩, F2⟩; have HB2 := hide (HB1.out.fr F2 (by omega)); have HC2 := hide (HC1.out.fr F2 (by omega)); have HR2 := hide hr2; have HF2 := hide (HF1.out.trans F2 (fun _ _ e => e)); clear F2 hr2)
          | (go_at_call 87; refine (K3.out _ HR2.out).mono ?_; rintro e3 w3 ⟨⟨v3, rfl, hv3, hr3⟩, F3⟩; obtain ⟨ao3, rfl⟩ := hv3.shape; have b3 := HB2.out.fr F3 (by omega); have c3 := HC2.out.fr F3 (by omega); have f3 := b3.fz 1; have y3 := b3.k1; have S3 := b3.s1 (.slice ao3 xs.length xs.length); have k30 := S3.k0; have k31 := S3.k1; have C3 := c3.so (g := w.heap.size + 1) (i := 1) (x := .slice ao3 xs.length xs.length) (by omega); have q30 := C3.fz 0; have q31 := C3.fz 1; have q32 := C3.k0; have q33 := C3.k1; have D3 := C3.s0 (.bool b); have q34 := D3.fz 1; have q35 := D3.k1; have E3 := D3.s1 (.slice ao3 xs.length xs.length); have e30 := E3.k0; have e31 := E3.k1; have HV3 := hide hv3; have HR3 := hide hr3; have HSZ3 : Hid (w.heap.size + 2 ≤ w2.heap.size) := (by have := HF2.out.size; have := HB2.out; exact HSZ2 _ HB2.out HF2.out); have HF3 := hide (HF2.out.trans F3 (fun _ _ e => e)); clear F3 hr3 hv3 b3 c3 S3 C3 D3 E3))
        refine bodyPost_ret (by simp [results, Try.results82, go_sem, e30, e31]; rfl) rfl ?_
        have hsz3 := HSZ3.out
        refine RQ.mk' HO.out (((HF3.out.setCell (fun e => by omega) _ _).setCell (fun e => by omega) _ _).setCell (fun e => by omega) _ _) ⟨_, rfl, ((((HV3.out.so (by omega)).so (by omega)).so (by omega)).le (by omega)), ((HR3.out.setO (by omega)).setO (by omega)).setO (by omega)⟩

theorem rdSgn_suf {l m : List Nat} {v : Int} (h : rdSgn l = some (v, m)) : m.length < l.length ∧ m <:+ l := by
  unfold rdSgn at h
  split at h
  · cases h
  · rename_i hn
    cases h
    exact ⟨rdNum_len hn, (rdG_suf _ _ _ _ _ _ hn).2.1⟩
def rdIns (l : List Nat) : Option ((Int × Int × Int) × List Nat) := match rdNum l with
  | none => none
  | some (n, l1) => match rdSgn l1 with
    | none => none
    | some (a, l2) => match rdSgn l2 with
      | none => none
      | some (b, m) => some (((n : Int), a, b), m)
theorem rdIns_suf {l m : List Nat} {x : Int × Int × Int} (h : rdIns l = some (x, m)) : m.length < l.length ∧ m <:+ l := by
  unfold rdIns at h
  split at h
  · cases h
  · rename_i h1
    split at h
    · cases h
    · rename_i h2
      split at h
      · cases h
      · rename_i h3
        cases h
        have a1 := rdG_suf _ _ _ _ _ _ h1
        have a2 := rdSgn_suf h2
        have a3 := rdSgn_suf h3
        exact ⟨by omega, a3.2.trans (a2.2.trans a1.2.1)⟩
theorem rdIns_by8 {l m : List Nat} {x : Int × Int × Int} (h : rdIns l = some (x, m)) (h8 : By8 l) : By8 m := h8.suf (rdIns_suf h).2
/-- A variable of three cells. -/
def B3 (w : World) (b : Nat) (c0 c1 c2 : Value) : Prop := w.heap[b]? = some (.cells #[c0, c1, c2] 50 (0, 0))
theorem B3.k0 {w : World} {b : Nat} {c0 c1 c2 : Value} (h : B3 w b c0 c1 c2) : w.cell? ⟨b, 0, none⟩ = some c0 := by rw [cell_of_row w b 0 _ _ _ h]; rfl
theorem B3.s0 {w : World} {b : Nat} {c0 c1 c2 : Value} (h : B3 w b c0 c1 c2) (x : Value) : B3 (w.setCell ⟨b, 0, none⟩ x) b x c1 c2 := (heap_setCell_same w b 0 _ _ x h).trans rfl
theorem B3.k1 {w : World} {b : Nat} {c0 c1 c2 : Value} (h : B3 w b c0 c1 c2) : w.cell? ⟨b, 1, none⟩ = some c1 := by rw [cell_of_row w b 1 _ _ _ h]; rfl
theorem B3.s1 {w : World} {b : Nat} {c0 c1 c2 : Value} (h : B3 w b c0 c1 c2) (x : Value) : B3 (w.setCell ⟨b, 1, none⟩ x) b c0 x c2 := (heap_setCell_same w b 1 _ _ x h).trans rfl
theorem B3.k2 {w : World} {b : Nat} {c0 c1 c2 : Value} (h : B3 w b c0 c1 c2) : w.cell? ⟨b, 2, none⟩ = some c2 := by rw [cell_of_row w b 2 _ _ _ h]; rfl
theorem B3.s2 {w : World} {b : Nat} {c0 c1 c2 : Value} (h : B3 w b c0 c1 c2) (x : Value) : B3 (w.setCell ⟨b, 2, none⟩ x) b c0 c1 x := (heap_setCell_same w b 2 _ _ x h).trans rfl
theorem B3.fz {w : World} {b : Nat} {c0 c1 c2 : Value} (h : B3 w b c0 c1 c2) (i : Nat) : w.frozen? ⟨b, i, none⟩ = false := frozen_of_row _ _ _ _ _ h
theorem B3.fr {w w' : World} {b rb : Nat} {c0 c1 c2 : Value} (h : B3 w b c0 c1 c2) (F : Fr (fun j => j = rb) w w') (hn : b ≠ rb) : B3 w' b c0 c1 c2 := (F.block b (Array.getElem?_eq_some_iff.1 h).1 hn).trans h
theorem B3.so {w : World} {b g i : Nat} {c0 c1 c2 x : Value} (h : B3 w b c0 c1 c2) (hg : b ≠ g) : B3 (w.setCell ⟨g, i, none⟩ x) b c0 c1 c2 := (heap_setCell_other _ _ _ _ hg).trans h
def okI (w0 : World) (rb p : Nat) (x : (Int × Int × Int) × List Nat) (e : Ending) (w' : World) : Prop := e = .returned (.agg #[.int .i64 x.1.1, .int .i64 x.1.2.1, .int .i64 x.1.2.2]) ∧ RS w0 w' rb x.2 p

set_option maxRecDepth 20000 in
set_option maxHeartbeats 2000000 in
theorem rdins_any (w0 w : World) (rb p : Nat) (l : List Nat) (h : RS w0 w rb l p) (h8 : By8 l) :
    Calls Try.prog 64 #[.pointer (some ⟨rb, 0, none⟩)] w fun e w' => RQ w rb (okI w0 rb p) (rdIns l) e w' := by
  have hrb := h.lt
  have hA := h.mono ((up_alloc w (.cells #[.int .i64 0, .int .i64 0, .int .i64 0] 50)).tr (up_alloc _ (.cells #[.int .i64 0, .int .i64 0, .int .i64 0] 50)))
  have hB : B3 ((w.alloc (.cells #[.int .i64 0, .int .i64 0, .int .i64 0] 50)).alloc (.cells #[.int .i64 0, .int .i64 0, .int .i64 0] 50)) (w.heap.size + 1) (.int .i64 0) (.int .i64 0) (.int .i64 0) := by
    have := heap_alloc_new (w.alloc (.cells #[.int .i64 0, .int .i64 0, .int .i64 0] 50)) (.cells #[.int .i64 0, .int .i64 0, .int .i64 0] 50)
    rw [World.size_alloc] at this
    exact this
  have hC : B3 ((w.alloc (.cells #[.int .i64 0, .int .i64 0, .int .i64 0] 50)).alloc (.cells #[.int .i64 0, .int .i64 0, .int .i64 0] 50)) w.heap.size (.int .i64 0) (.int .i64 0) (.int .i64 0) := (heap_alloc_old _ _ (by simp)).trans (heap_alloc_new w _)
  have hF0 : Fr (fun j => j = rb) w ((w.alloc (.cells #[.int .i64 0, .int .i64 0, .int .i64 0] 50)).alloc (.cells #[.int .i64 0, .int .i64 0, .int .i64 0] 50)) := ((Fr.refl _ w).alloc _).alloc _
  obtain ⟨W0, hW0⟩ : ∃ W0, W0 = (w.alloc (.cells #[.int .i64 0, .int .i64 0, .int .i64 0] 50)).alloc (.cells #[.int .i64 0, .int .i64 0, .int .i64 0] 50) := ⟨_, rfl⟩
  rw [← hW0] at hA hB hC hF0
  have HW := hide hW0
  have HB := hide hB
  have HC := hide hC
  have HF0 := hide hF0
  have HR0 := hide hA
  have h80 := h8
  cases h1 : rdNum l with
  | none =>
    have K1 := hide (fun (W : World) (hr : RS w0 W rb l p) => (rdnum_any w0 W rb p l hr h80).mono (fun _ _ q => q.no h1))
    have HO : Hid (rdIns l = none) := by unfold Hid rdIns; rw [h1]
    clear h hA hB hC hF0 h1 hW0 h8 h80
    go_enter Try.func64, Try.ntmps64
    go_wp2_with fail
    rw [← HW.out]
    go_wp2_with (first
      | (go_at_call 60; refine (K1.out _ HR0.out).mono ?_; rintro e1 w1 ⟨rfl, F1⟩; have HF1 := hide (HF0.out.trans F1 (fun _ _ e => e)); clear F1))
    exact ⟨rfl, RQ.mkno HO.out HF1.out⟩
  | some x1 =>
    obtain ⟨n, l1⟩ := x1
    have K1 := hide (fun (W : World) (hr : RS w0 W rb l p) => (rdnum_any w0 W rb p l hr h80).mono (fun _ _ q => q.yes h1))
    have h81 := h80.suf (rdG_suf _ _ _ _ _ _ h1).2.1
    cases h2 : rdSgn l1 with
    | none =>
      have K2 := hide (fun (W : World) (hr : RS w0 W rb l1 p) => (rdsgn_any w0 W rb p l1 hr h81).mono (fun _ _ q => q.no h2))
      have HO : Hid (rdIns l = none) := by unfold Hid rdIns; rw [h1]; simp only; rw [h2]
      clear h hA hB hC hF0 h1 h2 hW0 h8 h80 h81
      go_enter Try.func64, Try.ntmps64
      go_wp2_with fail
      rw [← HW.out]
      go_wp2_with (first
        | (go_at_call 73; refine (K2.out _ HR1.out).mono ?_; rintro e2 w2 ⟨rfl, F2⟩; have HF2 := hide (HF1.out.trans F2 (fun _ _ e => e)); clear F2)
        | (go_at_call 60; refine (K1.out _ HR0.out).mono ?_; rintro e1 w1 ⟨⟨rfl, hr1⟩, F1⟩; have b1 := HB.out.fr F1 (by omega); have c1 := HC.out.fr F1 (by omega); have f1 := b1.fz 0; have y1 := b1.k0; have S1 := b1.s0 (.int .i64 (n : Int)); have D1 := c1.so (g := w.heap.size + 1) (i := 0) (x := .int .i64 (n : Int)) (by omega); have HB1 := hide S1; have HC1 := hide D1; have HR1 := hide (hr1.setO (g := w.heap.size + 1) (i := 0) (u := .int .i64 (n : Int)) (by omega)); have HF1 : Hid (Fr (fun j => j = rb) w (w1.setCell ⟨w.heap.size + 1, 0, none⟩ (.int .i64 (n : Int)))) := ((HF0.out.trans F1 (fun _ _ e => e)).setCell (fun e => by omega) _ _); clear F1 hr1 b1 c1 S1 D1))
      exact ⟨rfl, RQ.mkno HO.out HF2.out⟩
    | some x2 =>
      obtain ⟨a, l2⟩ := x2
      have K2 := hide (fun (W : World) (hr : RS w0 W rb l1 p) => (rdsgn_any w0 W rb p l1 hr h81).mono (fun _ _ q => q.yes h2))
      have h82 := h81.suf (rdSgn_suf h2).2
      cases h3 : rdSgn l2 with
      | none =>
        have K3 := hide (fun (W : World) (hr : RS w0 W rb l2 p) => (rdsgn_any w0 W rb p l2 hr h82).mono (fun _ _ q => q.no h3))
        have HO : Hid (rdIns l = none) := by unfold Hid rdIns; rw [h1]; simp only; rw [h2]; simp only; rw [h3]
        clear h hA hB hC hF0 h1 h2 h3 hW0 h8 h80 h81 h82
        go_enter Try.func64, Try.ntmps64
        go_wp2_with fail
        rw [← HW.out]
        go_wp2_with (first
          | (have hx := HR2; clear hx; go_at_call 73; refine (K3.out _ HR2.out).mono ?_; rintro e3 w3 ⟨rfl, F3⟩; have HF3 := hide (HF2.out.trans F3 (fun _ _ e => e)); clear F3)
          | (go_at_call 73; refine (K2.out _ HR1.out).mono ?_; rintro e2 w2 ⟨⟨rfl, hr2⟩, F2⟩; have b2 := HB1.out.fr F2 (by omega); have c2 := HC1.out.fr F2 (by omega); have f2 := b2.fz 1; have y2 := b2.k1; have S2 := b2.s1 (.int .i64 a); have D2 := c2.so (g := w.heap.size + 1) (i := 1) (x := .int .i64 a) (by omega); have HB2 := hide S2; have HC2 := hide D2; have HR2 := hide (hr2.setO (g := w.heap.size + 1) (i := 1) (u := .int .i64 a) (by omega)); have HF2 : Hid (Fr (fun j => j = rb) w (w2.setCell ⟨w.heap.size + 1, 1, none⟩ (.int .i64 a))) := ((HF1.out.trans F2 (fun _ _ e => e)).setCell (fun e => by omega) _ _); clear F2 hr2 b2 c2 S2 D2)
          | (go_at_call 60; refine (K1.out _ HR0.out).mono ?_; rintro e1 w1 ⟨⟨rfl, hr1⟩, F1⟩; have b1 := HB.out.fr F1 (by omega); have c1 := HC.out.fr F1 (by omega); have f1 := b1.fz 0; have y1 := b1.k0; have S1 := b1.s0 (.int .i64 (n : Int)); have D1 := c1.so (g := w.heap.size + 1) (i := 0) (x := .int .i64 (n : Int)) (by omega); have HB1 := hide S1; have HC1 := hide D1; have HR1 := hide (hr1.setO (g := w.heap.size + 1) (i := 0) (u := .int .i64 (n : Int)) (by omega)); have HF1 : Hid (Fr (fun j => j = rb) w (w1.setCell ⟨w.heap.size + 1, 0, none⟩ (.int .i64 (n : Int)))) := ((HF0.out.trans F1 (fun _ _ e => e)).setCell (fun e => by omega) _ _); clear F1 hr1 b1 c1 S1 D1))
        exact ⟨rfl, RQ.mkno HO.out HF3.out⟩
      | some x3 =>
        obtain ⟨b, m⟩ := x3
        have K3 := hide (fun (W : World) (hr : RS w0 W rb l2 p) => (rdsgn_any w0 W rb p l2 hr h82).mono (fun _ _ q => q.yes h3))
        have h83 := h82.suf (rdSgn_suf h3).2
        have HO : Hid (rdIns l = some (((n : Int), a, b), m)) := by unfold Hid rdIns; rw [h1]; simp only; rw [h2]; simp only; rw [h3]
        clear h hA hB hC hF0 h1 h2 h3 hW0 h8 h80 h81 h82 h83
        go_enter Try.func64, Try.ntmps64
        go_wp2_with fail
        rw [← HW.out]
        go_wp2_with (first
          | (have hx := HR2; clear hx; go_at_call 73; refine (K3.out _ HR2.out).mono ?_; rintro e3 w3 ⟨⟨rfl, hr3⟩, F3⟩; have b3 := HB2.out.fr F3 (by omega); have c3 := HC2.out.fr F3 (by omega); have f3 := b3.fz 2; have y3 := b3.k2; have S3 := b3.s2 (.int .i64 b); have D3 := c3.so (g := w.heap.size + 1) (i := 2) (x := .int .i64 b) (by omega); have HB3 := hide S3; have HC3 := hide D3; have HR3 := hide (hr3.setO (g := w.heap.size + 1) (i := 2) (u := .int .i64 b) (by omega)); have HF3 : Hid (Fr (fun j => j = rb) w (w3.setCell ⟨w.heap.size + 1, 2, none⟩ (.int .i64 b))) := ((HF2.out.trans F3 (fun _ _ e => e)).setCell (fun e => by omega) _ _); have k0 := S3.k0; have k1 := S3.k1; have k2 := S3.k2; have q0 := D3.fz 0; have u0 := D3.k0; have E0 := D3.s0 (.int .i64 (n : Int)); have q1 := E0.fz 1; have u1 := E0.k1; have E1 := E0.s1 (.int .i64 a); have q2 := E1.fz 2; have u2 := E1.k2; have E2 := E1.s2 (.int .i64 b); have r0 := E2.k0; have r1 := E2.k1; have r2 := E2.k2; clear E0 E1 E2; clear F3 hr3 b3 c3 S3 D3)
          | (go_at_call 73; refine (K2.out _ HR1.out).mono ?_; rintro e2 w2 ⟨⟨rfl, hr2⟩, F2⟩; have b2 := HB1.out.fr F2 (by omega); have c2 := HC1.out.fr F2 (by omega); have f2 := b2.fz 1; have y2 := b2.k1; have S2 := b2.s1 (.int .i64 a); have D2 := c2.so (g := w.heap.size + 1) (i := 1) (x := .int .i64 a) (by omega); have HB2 := hide S2; have HC2 := hide D2; have HR2 := hide (hr2.setO (g := w.heap.size + 1) (i := 1) (u := .int .i64 a) (by omega)); have HF2 : Hid (Fr (fun j => j = rb) w (w2.setCell ⟨w.heap.size + 1, 1, none⟩ (.int .i64 a))) := ((HF1.out.trans F2 (fun _ _ e => e)).setCell (fun e => by omega) _ _); clear F2 hr2 b2 c2 S2 D2)
          | (go_at_call 60; refine (K1.out _ HR0.out).mono ?_; rintro e1 w1 ⟨⟨rfl, hr1⟩, F1⟩; have b1 := HB.out.fr F1 (by omega); have c1 := HC.out.fr F1 (by omega); have f1 := b1.fz 0; have y1 := b1.k0; have S1 := b1.s0 (.int .i64 (n : Int)); have D1 := c1.so (g := w.heap.size + 1) (i := 0) (x := .int .i64 (n : Int)) (by omega); have HB1 := hide S1; have HC1 := hide D1; have HR1 := hide (hr1.setO (g := w.heap.size + 1) (i := 0) (u := .int .i64 (n : Int)) (by omega)); have HF1 : Hid (Fr (fun j => j = rb) w (w1.setCell ⟨w.heap.size + 1, 0, none⟩ (.int .i64 (n : Int)))) := ((HF0.out.trans F1 (fun _ _ e => e)).setCell (fun e => by omega) _ _); clear F1 hr1 b1 c1 S1 D1))
        refine bodyPost_ret (by simp [results, Try.results64, go_sem, r0, r1, r2]; rfl) rfl ?_
        exact RQ.mk' HO.out (((HF3.out.setCell (fun e => by omega) _ _).setCell (fun e => by omega) _ _).setCell (fun e => by omega) _ _) ⟨rfl, ((HR3.out.setO (by omega)).setO (by omega)).setO (by omega)⟩

theorem infoIr : (Try.prog.info? 50).map (fun i => (i.zero, i.size, i.bytes)) = some (some (.agg #[.int .i64 0, .int .i64 0, .int .i64 0]), 3, 24) := by kernel_rfl
theorem wpList_mkI {w : World} {ops : Array Oper} {rest : List Oper} {o : Oper} {a : Act} {Q : Exit → Act → World → Prop}
    (hg : o.guard = none) (l c : Operand) (hop : o.op = Op.makeSlice 44 l c)
    (kl kc : IntKind) (L C : Int) (n : Nat) (hl : a.eval l = .int kl L) (hc : a.eval c = .int kc C) (hL : L = (n : Int)) (hC : C = (n : Int)) (b2 : 24 * n ≤ 281474976710656)
    (hK : ∀ w', FR 50 w' w.heap.size (n * 3) [] → Fr (fun _ => False) w w' → w.heap.size < w'.heap.size → wpList Try.prog ops Q rest (a.put o.dst (.slice (some ⟨w.heap.size, 0, none⟩) n n)) w') :
    wpList Try.prog ops Q (o :: rest) a w := by
  obtain ⟨i, hi, hz0, hz1, hz2⟩ := info_parts infoIr
  refine wpList_make_full w hg l c 44 hop w.heap.size 50 i (.agg #[.int .i64 0, .int .i64 0, .int .i64 0]) 3 Try.underlying44 hi hz0 hz1 kl kc L C n hl hc hL hC (by rw [hz2]; exact b2) (by unfold maxLen; omega) (Nat.le_refl _) ?_
  intro w' hown hgrow
  have hR : FR 50 w' w.heap.size (n * 3) [] := by
    rcases hown.2 with ⟨e, _⟩ | ⟨g, cap, cur, e, h1, h2, h3, h4, h5, h6⟩
    · cases e
    · cases e
      exact ⟨cur, h2, h5, rfl⟩
  exact hK w' hR ((Fr.refl _ w).grow hgrow (fun k _ e => by cases e)) hR.lt
/-- A row that was read. -/
def RowI (w : World) (B : Nat) (v : Value) (xs : List (Int × Int × Int)) : Prop := (xs = [] ∧ v = .slice none 0 0) ∨ ∃ g, B ≤ g ∧ v = .slice (some ⟨g, 0, none⟩) xs.length xs.length ∧ FR 50 w g (xs.length * 3) (cI xs)
def okIs (w0 : World) (rb p B : Nat) (x : List (Int × Int × Int) × List Nat) (e : Ending) (w' : World) : Prop := ∃ v, e = .returned v ∧ RowI w' B v x.1 ∧ RS w0 w' rb x.2 p
theorem cI_snoc (l : List (Int × Int × Int)) (x : Int × Int × Int) : cI (l ++ [x]) = ((cI l ++ [.int .i64 x.1]) ++ [.int .i64 x.2.1]) ++ [.int .i64 x.2.2] := by
  unfold cI
  rw [List.flatMap_append]
  simp

set_option maxRecDepth 20000 in
set_option maxHeartbeats 2000000 in
theorem rowI_any (w0 w : World) (rb p n : Nat) (l : List Nat) (h : RS w0 w rb l p) (h8 : By8 l) (hn : n ≤ 100000000) :
    Calls Try.prog 63 #[.int .i64 (n : Int), .func (.func 64) #[.pointer (some ⟨rb, 0, none⟩)] #[]] w fun e w' => RQ w rb (okIs w0 rb p w.heap.size) (rdRow rdIns n l) e w' := by
  obtain ⟨out, hout⟩ : ∃ o, o = rdRow rdIns n l := ⟨_, rfl⟩
  rw [← hout]
  by_cases h0 : n = 0
  · subst h0
    have HO : Hid (out = some ([], l)) := hout
    have HRS := hide h
    clear h hout
    go_enter Try.func63, Try.ntmps63
    go_wp2
    go_ret
    exact RQ.mk' HO.out (Fr.refl _ _) ⟨_, rfl, .inl ⟨rfl, rfl⟩, HRS.out⟩
  · have g0 : ((n : Int) == 0) = false := by rw [beq_eq_false_iff_ne]; omega
    have HRS := hide h
    have HOUT := hide hout
    have H8 := hide h8
    have hrbl : rb < w.heap.size := h.lt
    clear h hout h8
    go_enter Try.func63, Try.ntmps63
    go_wp2_with (at_make; refine wpList_mkI rfl _ _ rfl .i64 .i64 _ _ n rfl rfl rfl rfl (by omega) ?_; intro w1 R1 F1 hlt1; have HR1 := hide R1; have HF1 := hide F1; clear R1 F1)
    go_loopw [13] (fun c wr => ∃ (i : Nat) (xs : List (Int × Int × Int)) (m : List Nat), i ≤ n ∧ c = .int .i64 (i : Int) ∧ xs.length = i ∧ RS w0 wr rb m p ∧ Fr (fun j => j = rb) w wr ∧ By8 m ∧ FR 50 wr w.heap.size (n * 3) (cI xs) ∧ out = more xs (rdRow rdIns (n - i) m)) (fun c _ => n - (intOf c).toNat)
    case atStart => exact ⟨0, [], l, Nat.zero_le _, rfl, rfl, HRS.out.mono HF1.out.upw2, HF1.out.mono (fun _ _ e => e.elim), H8.out, HR1.out, by rw [more_nil]; exact HOUT.out⟩
    case round =>
      clear HRS HOUT H8 HR1 HF1
      obtain ⟨i, xs, m, hi, rfl, hxl, hrs, hF, hm8, hR, ho⟩ := hrel
      by_cases hil : i < n
      · have hiI : (i : Int) < (n : Int) := by omega
        rw [show n - i = (n - (i + 1)) + 1 by omega] at ho
        have HFF := hide hF
        have HR := hide hR
        cases hx : rdIns m with
        | none =>
          have K := hide ((rdins_any w0 wr rb p m hrs hm8).mono (fun _ _ q => q.no hx))
          have HO : Hid (out = none) := ho.trans (more_no hx)
          clear hrs hF hR ho hx
          go_wp2_with (go_at_call 64; refine K.out.mono ?_; rintro e2 w2 ⟨rfl, F2⟩; have HF2 := hide (HFF.out.trans F2 (fun _ _ e => e)); clear F2)
          exact ⟨rfl, RQ.mkno HO.out HF2.out⟩
        | some y =>
          obtain ⟨x, m2⟩ := y
          have K := hide ((rdins_any w0 wr rb p m hrs hm8).mono (fun _ _ q => q.yes hx))
          have HO : Hid (out = more (xs ++ [x]) (rdRow rdIns (n - (i + 1)) m2)) := ho.trans (more_yes hx)
          have HM8 := hide (rdIns_by8 hx hm8)
          have hcl : (cI xs).length = i * 3 := by rw [cI_len, hxl]
          have HCL := hide hcl
          clear hrs hF hR ho hx hcl
          go_wp2_with (go_at_call 64; refine K.out.mono ?_; rintro e2 w2 ⟨⟨rfl, hr2⟩, F2⟩; have HF2 := hide (HFF.out.trans F2 (fun _ _ e => e)); have R2 := HR.out.fr F2 (by omega); have A0 := R2.push (.int .i64 x.1) (by rw [HCL.out]; omega); have A1 := A0.push (.int .i64 x.2.1) (by rw [List.length_append, HCL.out, List.length_singleton]; omega); have A2 := A1.push (.int .i64 x.2.2) (by rw [List.length_append, List.length_append, HCL.out, List.length_singleton, List.length_singleton]; omega); rw [HCL.out] at A0; rw [List.length_append, HCL.out, List.length_singleton] at A1; rw [List.length_append, List.length_append, HCL.out, List.length_singleton, List.length_singleton] at A2; obtain ⟨u0, z0⟩ := R2.some (i := i * 3) (by omega); obtain ⟨u1, z1⟩ := A0.some (i := i * 3 + 1) (by omega); obtain ⟨u2, z2⟩ := A1.some (i := i * 3 + 1 + 1) (by omega); have t0 := R2.fz (i * 3); have t1 := A0.fz (i * 3 + 1); have t2 := A1.fz (i * 3 + 1 + 1); have HA2 := hide A2; have HRS2 := hide hr2; clear F2 hr2 R2 A0 A1 A2)
          refine ⟨⟨i + 1, xs ++ [x], m2, hil, by go_num, by simp [hxl], ((HRS2.out.setO (by omega)).setO (by omega)).setO (by omega), ((HF2.out.setCell (fun e => by omega) _ _).setCell (fun e => by omega) _ _).setCell (fun e => by omega) _ _, HM8.out, ?_, HO.out⟩, by simp [intOf]; omega⟩
          rw [cI_snoc]
          have h := HA2.out
          simp only [List.length_append, List.length_singleton, HCL.out] at h
          exact h
      · have e : i = n := by omega
        subst e
        have hil' : ¬ ((i : Int) < (i : Int)) := by omega
        rw [Nat.sub_self, rdRow_zero] at ho
        have HO : Hid (out = some (xs, m)) := by
          unfold Hid
          rw [ho]
          simp [more]
        have HFF := hide hF
        have HRS := hide hrs
        have HRR : Hid (RowI wr w.heap.size (.slice (some ⟨w.heap.size, 0, none⟩) i i) xs) := .inr ⟨_, Nat.le_refl _, by rw [hxl], by rw [hxl]; exact hR⟩
        clear hrs hF hR ho hil
        go_wp2
        go_ret
        exact RQ.mk' HO.out HFF.out ⟨_, rfl, HRR.out, HRS.out⟩

end Go.Proofs.Ytilcigjhogcjkaa
