/-
  What is proved here: the reader's rows of limbs and of texts (package pack).
-/
import Derived.Test.YtmgaofpjbeihdaaPRSm
import Derived.Test.YtmgaofpjbeihdaaPKCopyA
namespace Go.Proofs.Ytmgaofpjbeihdaa
open Go Go.RowKit

/-- So many of what f reads. -/
def rdRow {α : Type} (f : List Nat → Option (α × List Nat)) : Nat → List Nat → Option (List α × List Nat)
  | 0, l => some ([], l)
  | n + 1, l => match f l with
    | none => none
    | some (x, m) => match rdRow f n m with
      | none => none
      | some (xs, k) => some (x :: xs, k)
def more {α : Type} (xs : List α) (o : Option (List α × List Nat)) : Option (List α × List Nat) := match o with
  | none => none
  | some (ys, m) => some (xs ++ ys, m)
theorem rdRow_zero {α : Type} (f : List Nat → Option (α × List Nat)) (l : List Nat) : rdRow f 0 l = some ([], l) := rfl
theorem more_nil {α : Type} (o : Option (List α × List Nat)) : more [] o = o := by cases o <;> rfl
theorem more_no {α : Type} {f : List Nat → Option (α × List Nat)} {xs : List α} {k : Nat} {l : List Nat} (h : f l = none) : more xs (rdRow f (k + 1) l) = none := by
  show more xs (match f l with | none => none | some (x, m) => match rdRow f k m with | none => none | some (xs, k) => some (x :: xs, k)) = none
  rw [h]
  rfl
theorem more_yes {α : Type} {f : List Nat → Option (α × List Nat)} {xs : List α} {k : Nat} {l m : List Nat} {x : α} (h : f l = some (x, m)) : more xs (rdRow f (k + 1) l) = more (xs ++ [x]) (rdRow f k m) := by
  show more xs (match f l with | none => none | some (x, m) => match rdRow f k m with | none => none | some (xs, k) => some (x :: xs, k)) = _
  rw [h]
  show more xs (match rdRow f k m with | none => none | some (xs, k) => some (x :: xs, k)) = _
  cases rdRow f k m with
  | none => rfl
  | some y => simp [more]
/-- A row that is being filled: the cells so far. -/
def FR (E : TypeId) (w : World) (g N : Nat) (cs : List Value) : Prop := ∃ cur : Array Value, w.heap[g]? = some (.cells cur E (0, 0)) ∧ cur.size = N ∧ cur.toList.take cs.length = cs
theorem FR.lt {E : TypeId} {w : World} {g N : Nat} {cs : List Value} (h : FR E w g N cs) : g < w.heap.size := by
  obtain ⟨cur, h1, -⟩ := h
  exact (Array.getElem?_eq_some_iff.1 h1).1
theorem FR.fr {E : TypeId} {w w' : World} {g N rb : Nat} {cs : List Value} (h : FR E w g N cs) (F : Fr (fun j => j = rb) w w') (hn : g ≠ rb) : FR E w' g N cs := by
  have := h.lt
  obtain ⟨cur, h1, h2⟩ := h
  exact ⟨cur, (F.block g this hn).trans h1, h2⟩
theorem FR.fz {E : TypeId} {w : World} {g N : Nat} {cs : List Value} (h : FR E w g N cs) (i : Nat) : w.frozen? ⟨g, i, none⟩ = false := by
  obtain ⟨cur, h1, -⟩ := h
  exact frozen_of_row _ _ _ _ _ h1
theorem FR.some {E : TypeId} {w : World} {g N : Nat} {cs : List Value} (h : FR E w g N cs) {i : Nat} (hi : i < N) : ∃ u, w.cell? ⟨g, i, none⟩ = Option.some u := by
  obtain ⟨cur, h1, h2, -⟩ := h
  rw [cell_of_row w g i cur _ _ h1]
  exact ⟨_, Array.getElem?_eq_getElem (by omega)⟩
theorem FR.push {E : TypeId} {w : World} {g N : Nat} {cs : List Value} (h : FR E w g N cs) (x : Value) (hl : cs.length < N) : FR E (w.setCell ⟨g, cs.length, none⟩ x) g N (cs ++ [x]) := by
  obtain ⟨cur, h1, h2, h3⟩ := h
  refine ⟨cur.setIfInBounds cs.length x, heap_setCell_same w g _ cur _ x h1, by simpa using h2, ?_⟩
  rw [Array.toList_setIfInBounds, List.length_append, List.length_singleton]
  have hcl : cur.toList.length = cur.size := Array.length_toList
  have hlen : cs.length < cur.toList.length := by omega
  rw [List.take_add_one, List.take_set_of_le (Nat.le_refl _), h3, List.getElem?_set_self hlen]
  rfl

theorem Fr.upw2 {w w' : World} (h : Fr (fun _ => False) w w') : Up w w' := ⟨h.os, h.tape, h.output, h.size, fun k hk => h.block k hk (fun e => e)⟩
theorem RS.setO {w0 w : World} {rb p g i : Nat} {l : List Nat} {u : Value} (h : RS w0 w rb l p) (hg : rb < g) : RS w0 (w.setCell ⟨g, i, none⟩ u) rb l p := by
  obtain ⟨hU, hrb, v, hB, hR⟩ := h
  exact ⟨⟨hU.os, hU.tape, hU.output, by simpa [World.setCell] using hU.size, fun k hk => (heap_setCell_other _ _ _ _ (by show k ≠ g; omega)).trans (hU.block k hk)⟩, hrb, v, hB, (heap_setCell_other _ _ _ _ (by show rb ≠ g; omega)).trans hR⟩
theorem rdCnt_by8 {k : Nat} {l m : List Nat} {n : Nat} (h : rdCnt k l = some (n, m)) (h8 : By8 l) : By8 m := by
  unfold rdCnt at h
  split at h
  · cases h
  · rename_i hn
    split at h
    · cases h
      exact rdNum_by8 hn h8
    · cases h
theorem rdLimb_by8 {l m : List Nat} {n : Nat} (h : rdLimb l = some (n, m)) (h8 : By8 l) : By8 m := by
  unfold rdLimb at h
  split at h
  · cases h
  · rename_i hn
    split at h
    · cases h
      exact rdNum_by8 hn h8
    · cases h
theorem rdTxt_by8 {l m : List Nat} {s : ByteArray} (h : rdTxt l = some (s, m)) (h8 : By8 l) : By8 m := by
  unfold rdTxt at h
  split at h
  · cases h
  · rename_i hn
    cases h
    exact (rdCnt_by8 hn h8).suf (List.drop_suffix _ _)
theorem infoUr : (Try.prog.info? 65).map (fun i => (i.zero, i.size, i.bytes)) = some (some (.int .u32 0), 1, 4) := by kernel_rfl
theorem infoXr : (Try.prog.info? 9).map (fun i => (i.zero, i.size, i.bytes)) = some (some (.string ⟨#[]⟩), 1, 16) := by kernel_rfl

theorem wpList_mkU {w : World} {ops : Array Oper} {rest : List Oper} {o : Oper} {a : Act} {Q : Exit → Act → World → Prop}
    (hg : o.guard = none) (l c : Operand) (hop : o.op = Op.makeSlice 60 l c)
    (kl kc : IntKind) (L C : Int) (n : Nat) (hl : a.eval l = .int kl L) (hc : a.eval c = .int kc C) (hL : L = (n : Int)) (hC : C = (n : Int)) (b2 : 4 * n ≤ 281474976710656)
    (hK : ∀ w', FR 65 w' w.heap.size n [] → Fr (fun _ => False) w w' → w.heap.size < w'.heap.size → wpList Try.prog ops Q rest (a.put o.dst (.slice (some ⟨w.heap.size, 0, none⟩) n n)) w') :
    wpList Try.prog ops Q (o :: rest) a w := by
  obtain ⟨i, hi, hz0, hz1, hz2⟩ := info_parts infoUr
  refine wpList_make_full w hg l c 60 hop w.heap.size 65 i (.int .u32 0) 1 Try.underlying60 hi hz0 hz1 kl kc L C n hl hc hL hC (by rw [hz2]; exact b2) (by unfold maxLen; omega) (Nat.le_refl _) ?_
  intro w' hown hgrow
  have hR : FR 65 w' w.heap.size n [] := by
    rcases hown.2 with ⟨e, _⟩ | ⟨g, cap, cur, e, h1, h2, h3, h4, h5, h6⟩
    · cases e
    · cases e
      exact ⟨cur, h2, by omega, rfl⟩
  exact hK w' hR ((Fr.refl _ w).grow hgrow (fun k _ e => by cases e)) hR.lt
/-- A row that was read. -/
def RowU (w : World) (B : Nat) (v : Value) (xs : List Nat) : Prop := (xs = [] ∧ v = .slice none 0 0) ∨ ∃ g, B ≤ g ∧ v = .slice (some ⟨g, 0, none⟩) xs.length xs.length ∧ FR 65 w g xs.length (xs.map fun (x : Nat) => (.int .u32 (x : Int) : Value))
def okU (w0 : World) (rb p B : Nat) (x : List Nat × List Nat) (e : Ending) (w' : World) : Prop := ∃ v, e = .returned v ∧ RowU w' B v x.1 ∧ RS w0 w' rb x.2 p

set_option maxRecDepth 20000 in
set_option maxHeartbeats 2000000 in
theorem rowU_any (w0 w : World) (rb p n : Nat) (l : List Nat) (h : RS w0 w rb l p) (h8 : By8 l) (hn : n ≤ 100000000) :
    Calls Try.prog 87 #[.int .i64 (n : Int), .func (.func 88) #[.pointer (some ⟨rb, 0, none⟩)] #[]] w fun e w' => RQ w rb (okU w0 rb p w.heap.size) (rdRow rdLimb n l) e w' := by
  obtain ⟨out, hout⟩ : ∃ o, o = rdRow rdLimb n l := ⟨_, rfl⟩
  rw [← hout]
  by_cases h0 : n = 0
  · subst h0
    have HO : Hid (out = some ([], l)) := hout
    have HRS := hide h
    clear h hout
    go_enter Try.func87, Try.ntmps87
    go_wp2
    go_ret
    exact RQ.mk' HO.out (Fr.refl _ _) ⟨_, rfl, .inl ⟨rfl, rfl⟩, HRS.out⟩
  · have g0 : ((n : Int) == 0) = false := by rw [beq_eq_false_iff_ne]; omega
    have HRS := hide h
    have HOUT := hide hout
    have H8 := hide h8
    have HRB := hide h.2.2
    have hrbl : rb < w.heap.size := by obtain ⟨v, -, hR⟩ := h.2.2; exact hR.lt
    clear h hout h8
    go_enter Try.func87, Try.ntmps87
    go_wp2_with (at_make; refine wpList_mkU rfl _ _ rfl .i64 .i64 _ _ n rfl rfl rfl rfl (by omega) ?_; intro w1 R1 F1 hlt1; have HR1 := hide R1; have HF1 := hide F1; clear R1 F1)
    go_loopw [13] (fun c wr => ∃ (i : Nat) (xs : List Nat) (m : List Nat), i ≤ n ∧ c = .int .i64 (i : Int) ∧ xs.length = i ∧ RS w0 wr rb m p ∧ Fr (fun j => j = rb) w wr ∧ By8 m ∧ FR 65 wr w.heap.size n (xs.map fun (x : Nat) => (.int .u32 (x : Int) : Value)) ∧ out = more xs (rdRow rdLimb (n - i) m)) (fun c _ => n - (intOf c).toNat)
    case atStart => exact ⟨0, [], l, Nat.zero_le _, rfl, rfl, HRS.out.mono HF1.out.upw2, HF1.out.mono (fun _ _ e => e.elim), H8.out, HR1.out, by rw [more_nil]; exact HOUT.out⟩
    case round =>
      clear HRS HOUT H8 HR1 HF1
      obtain ⟨i, xs, m, hi, rfl, hxl, hrs, hF, hm8, hR, ho⟩ := hrel
      by_cases hil : i < n
      · have hiI : (i : Int) < (n : Int) := by omega
        rw [show n - i = (n - (i + 1)) + 1 by omega] at ho
        have HFF := hide hF
        have HR := hide hR
        obtain ⟨u0, z0⟩ := hR.some (i := i) hil
        cases hx : rdLimb m with
        | none =>
          have K := hide ((rdlimb_any w0 wr rb p m hrs hm8).mono (fun _ _ q => q.no hx))
          have HO : Hid (out = none) := ho.trans (more_no hx)
          clear hrs hF hR ho hx
          go_wp2_with (go_at_call 88; refine K.out.mono ?_; rintro e2 w2 ⟨rfl, F2⟩; have HF2 := hide (HFF.out.trans F2 (fun _ _ e => e)); clear F2)
          exact ⟨rfl, RQ.mkno HO.out HF2.out⟩
        | some y =>
          obtain ⟨x, m2⟩ := y
          have K := hide ((rdlimb_any w0 wr rb p m hrs hm8).mono (fun _ _ q => q.yes hx))
          have HO : Hid (out = more (xs ++ [x]) (rdRow rdLimb (n - (i + 1)) m2)) := ho.trans (more_yes hx)
          have HM8 := hide (rdLimb_by8 hx hm8)
          clear hrs hF hR ho hx
          go_wp2_with (go_at_call 88; refine K.out.mono ?_; rintro e2 w2 ⟨⟨rfl, hr2⟩, F2⟩; have HF2 := hide (HFF.out.trans F2 (fun _ _ e => e)); have HR2 := hide (HR.out.fr F2 (by omega)); have HRS2 := hide hr2; have y0 := (F2.cell (b := w.heap.size) (o := i) HR.out.lt (by omega)).trans z0; have y1 := HR2.out.fz i; clear F2 hr2)
          refine ⟨⟨i + 1, xs ++ [x], m2, hil, by go_num, by simp [hxl], HRS2.out.setO (by omega), HF2.out.setCell (fun e => by omega) _ _, HM8.out, ?_, HO.out⟩, by simp [intOf]; omega⟩
          have := HR2.out.push ((.int .u32 (x : Int) : Value)) (by simpa [hxl] using hil)
          simpa [hxl] using this
      · have e : i = n := by omega
        subst e
        have hil' : ¬ ((i : Int) < (i : Int)) := by omega
        rw [Nat.sub_self, rdRow_zero] at ho
        have HO : Hid (out = some (xs, m)) := by
          unfold Hid
          rw [ho]
          simp [more]
        have HFF := hide hF
        have HRS := hide hrs
        have HRR : Hid (RowU wr w.heap.size (.slice (some ⟨w.heap.size, 0, none⟩) i i) xs) := .inr ⟨_, Nat.le_refl _, by rw [hxl], by rw [hxl]; exact hR⟩
        clear hrs hF hR ho hil
        go_wp2
        go_ret
        exact RQ.mk' HO.out HFF.out ⟨_, rfl, HRR.out, HRS.out⟩

theorem wpList_mkX {w : World} {ops : Array Oper} {rest : List Oper} {o : Oper} {a : Act} {Q : Exit → Act → World → Prop}
    (hg : o.guard = none) (l c : Operand) (hop : o.op = Op.makeSlice 46 l c)
    (kl kc : IntKind) (L C : Int) (n : Nat) (hl : a.eval l = .int kl L) (hc : a.eval c = .int kc C) (hL : L = (n : Int)) (hC : C = (n : Int)) (b2 : 16 * n ≤ 281474976710656)
    (hK : ∀ w', FR 9 w' w.heap.size n [] → Fr (fun _ => False) w w' → w.heap.size < w'.heap.size → wpList Try.prog ops Q rest (a.put o.dst (.slice (some ⟨w.heap.size, 0, none⟩) n n)) w') :
    wpList Try.prog ops Q (o :: rest) a w := by
  obtain ⟨i, hi, hz0, hz1, hz2⟩ := info_parts infoXr
  refine wpList_make_full w hg l c 46 hop w.heap.size 9 i (.string ⟨#[]⟩) 1 Try.underlying46 hi hz0 hz1 kl kc L C n hl hc hL hC (by rw [hz2]; exact b2) (by unfold maxLen; omega) (Nat.le_refl _) ?_
  intro w' hown hgrow
  have hR : FR 9 w' w.heap.size n [] := by
    rcases hown.2 with ⟨e, _⟩ | ⟨g, cap, cur, e, h1, h2, h3, h4, h5, h6⟩
    · cases e
    · cases e
      exact ⟨cur, h2, by omega, rfl⟩
  exact hK w' hR ((Fr.refl _ w).grow hgrow (fun k _ e => by cases e)) hR.lt
/-- A row that was read. -/
def RowX (w : World) (B : Nat) (v : Value) (xs : List ByteArray) : Prop := (xs = [] ∧ v = .slice none 0 0) ∨ ∃ g, B ≤ g ∧ v = .slice (some ⟨g, 0, none⟩) xs.length xs.length ∧ FR 9 w g xs.length (xs.map fun (x : ByteArray) => (.string x : Value))
def okX (w0 : World) (rb p B : Nat) (x : List ByteArray × List Nat) (e : Ending) (w' : World) : Prop := ∃ v, e = .returned v ∧ RowX w' B v x.1 ∧ RS w0 w' rb x.2 p

set_option maxRecDepth 20000 in
set_option maxHeartbeats 2000000 in
theorem rowX_any (w0 w : World) (rb p n : Nat) (l : List Nat) (h : RS w0 w rb l p) (h8 : By8 l) (hn : n ≤ 100000000) :
    Calls Try.prog 66 #[.int .i64 (n : Int), .func (.func 61) #[.pointer (some ⟨rb, 0, none⟩)] #[]] w fun e w' => RQ w rb (okX w0 rb p w.heap.size) (rdRow rdTxt n l) e w' := by
  obtain ⟨out, hout⟩ : ∃ o, o = rdRow rdTxt n l := ⟨_, rfl⟩
  rw [← hout]
  by_cases h0 : n = 0
  · subst h0
    have HO : Hid (out = some ([], l)) := hout
    have HRS := hide h
    clear h hout
    go_enter Try.func66, Try.ntmps66
    go_wp2
    go_ret
    exact RQ.mk' HO.out (Fr.refl _ _) ⟨_, rfl, .inl ⟨rfl, rfl⟩, HRS.out⟩
  · have g0 : ((n : Int) == 0) = false := by rw [beq_eq_false_iff_ne]; omega
    have HRS := hide h
    have HOUT := hide hout
    have H8 := hide h8
    have HRB := hide h.2.2
    have hrbl : rb < w.heap.size := by obtain ⟨v, -, hR⟩ := h.2.2; exact hR.lt
    clear h hout h8
    go_enter Try.func66, Try.ntmps66
    go_wp2_with (at_make; refine wpList_mkX rfl _ _ rfl .i64 .i64 _ _ n rfl rfl rfl rfl (by omega) ?_; intro w1 R1 F1 hlt1; have HR1 := hide R1; have HF1 := hide F1; clear R1 F1)
    go_loopw [13] (fun c wr => ∃ (i : Nat) (xs : List ByteArray) (m : List Nat), i ≤ n ∧ c = .int .i64 (i : Int) ∧ xs.length = i ∧ RS w0 wr rb m p ∧ Fr (fun j => j = rb) w wr ∧ By8 m ∧ FR 9 wr w.heap.size n (xs.map fun (x : ByteArray) => (.string x : Value)) ∧ out = more xs (rdRow rdTxt (n - i) m)) (fun c _ => n - (intOf c).toNat)
    case atStart => exact ⟨0, [], l, Nat.zero_le _, rfl, rfl, HRS.out.mono HF1.out.upw2, HF1.out.mono (fun _ _ e => e.elim), H8.out, HR1.out, by rw [more_nil]; exact HOUT.out⟩
    case round =>
      clear HRS HOUT H8 HR1 HF1
      obtain ⟨i, xs, m, hi, rfl, hxl, hrs, hF, hm8, hR, ho⟩ := hrel
      by_cases hil : i < n
      · have hiI : (i : Int) < (n : Int) := by omega
        rw [show n - i = (n - (i + 1)) + 1 by omega] at ho
        have HFF := hide hF
        have HR := hide hR
        obtain ⟨u0, z0⟩ := hR.some (i := i) hil
        cases hx : rdTxt m with
        | none =>
          have K := hide ((rdtxt_any w0 wr rb p m hrs hm8).mono (fun _ _ q => q.no hx))
          have HO : Hid (out = none) := ho.trans (more_no hx)
          clear hrs hF hR ho hx
          go_wp2_with (go_at_call 61; refine K.out.mono ?_; rintro e2 w2 ⟨rfl, F2⟩; have HF2 := hide (HFF.out.trans F2 (fun _ _ e => e)); clear F2)
          exact ⟨rfl, RQ.mkno HO.out HF2.out⟩
        | some y =>
          obtain ⟨x, m2⟩ := y
          have K := hide ((rdtxt_any w0 wr rb p m hrs hm8).mono (fun _ _ q => q.yes hx))
          have HO : Hid (out = more (xs ++ [x]) (rdRow rdTxt (n - (i + 1)) m2)) := ho.trans (more_yes hx)
          have HM8 := hide (rdTxt_by8 hx hm8)
          clear hrs hF hR ho hx
          go_wp2_with (go_at_call 61; refine K.out.mono ?_; rintro e2 w2 ⟨⟨rfl, hr2⟩, F2⟩; have HF2 := hide (HFF.out.trans F2 (fun _ _ e => e)); have HR2 := hide (HR.out.fr F2 (by omega)); have HRS2 := hide hr2; have y0 := (F2.cell (b := w.heap.size) (o := i) HR.out.lt (by omega)).trans z0; have y1 := HR2.out.fz i; clear F2 hr2)
          refine ⟨⟨i + 1, xs ++ [x], m2, hil, by go_num, by simp [hxl], HRS2.out.setO (by omega), HF2.out.setCell (fun e => by omega) _ _, HM8.out, ?_, HO.out⟩, by simp [intOf]; omega⟩
          have := HR2.out.push ((.string x : Value)) (by simpa [hxl] using hil)
          simpa [hxl] using this
      · have e : i = n := by omega
        subst e
        have hil' : ¬ ((i : Int) < (i : Int)) := by omega
        rw [Nat.sub_self, rdRow_zero] at ho
        have HO : Hid (out = some (xs, m)) := by
          unfold Hid
          rw [ho]
          simp [more]
        have HFF := hide hF
        have HRS := hide hrs
        have HRR : Hid (RowX wr w.heap.size (.slice (some ⟨w.heap.size, 0, none⟩) i i) xs) := .inr ⟨_, Nat.le_refl _, by rw [hxl], by rw [hxl]; exact hR⟩
        clear hrs hF hR ho hil
        go_wp2
        go_ret
        exact RQ.mk' HO.out HFF.out ⟨_, rfl, HRR.out, HRS.out⟩

end Go.Proofs.Ytmgaofpjbeihdaa
