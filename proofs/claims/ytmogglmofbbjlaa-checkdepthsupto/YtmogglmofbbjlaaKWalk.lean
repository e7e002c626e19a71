/-
  What is proved here: a proto's instructions are gone through: check's headed, walk.
-/
import Derived.Test.YtmogglmofbbjlaaKBegin
namespace Go.Proofs.Ytmogglmofbbjlaa
open Go Go.RowKit

theorem foC_at7 (cb num : Nat) (p : PR) (q : Hd) (dv tv : Value) : (foC cb num p q dv tv)[7]? = some (.pointer (some ⟨cb, 0, none⟩)) := rfl

/-- A proto, in memory. -/
structure PrAt (w : World) (g o : Nat) (p : PR) (q : Hd) : Prop where
  c0 : w.cell? ⟨g, o, none⟩ = some (.string q.nm)
  c1 : w.cell? ⟨g, o + 1, none⟩ = some (.int .i64 p.args)
  c2 : w.cell? ⟨g, o + 2, none⟩ = some (.int .i64 p.free)
  c3 : w.cell? ⟨g, o + 3, none⟩ = some (.bool p.rest)
  c4 : w.cell? ⟨g, o + 4, none⟩ = some (.slice q.co p.len q.cc)
  c5 : w.cell? ⟨g, o + 5, none⟩ = some (.slice q.ka p.nc q.kc)
  c6 : w.cell? ⟨g, o + 6, none⟩ = some (.slice q.na p.nn q.nc)
theorem PrAt.block {w w' : World} {g o : Nat} {p : PR} {q : Hd} (h : PrAt w g o p q) (hb : w'.heap[g]? = w.heap[g]?) : PrAt w' g o p q :=
  ⟨(World.cell?_of_block hb).trans h.c0, (World.cell?_of_block hb).trans h.c1, (World.cell?_of_block hb).trans h.c2, (World.cell?_of_block hb).trans h.c3, (World.cell?_of_block hb).trans h.c4, (World.cell?_of_block hb).trans h.c5, (World.cell?_of_block hb).trans h.c6⟩
theorem PrAt.lt {w : World} {g o : Nat} {p : PR} {q : Hd} (h : PrAt w g o p q) : g < w.heap.size := World.block_lt_of_cell? w _ h.c0

set_option maxRecDepth 20000 in
set_option maxHeartbeats 1000000 in
theorem headed_any (w : World) (cb pb g off np sc : Nat) (fr : Nat → Int) (num : Nat) (p : PR) (q : Hd) (h : ChAt w cb pb (some ⟨g, off, none⟩) np sc fr) (hp : PrAt w g (off + num * 7) p q) (hb : PB p q) (hn : num < np) :
    Calls Try.prog 23 #[.pointer (some ⟨cb, 0, none⟩), .int .i64 (num : Int)] w fun e w' => e = .returned (.bool (headM num p)) ∧ Fr (fun _ => False) w w' := by
  have d0 : w.cell? ⟨cb, 0, none⟩ = some (.slice (some ⟨g, off, none⟩) np sc) := cell_row h.ch (chC_0 _ _)
  have hs1 := h.s1
  have hs2 := h.s2
  obtain ⟨c0, c1, c2, c3, c4, c5, c6⟩ := hp
  have b1 := hb.c1
  have b2 := hb.c2
  clear h hb
  by_cases h0 : num = 0 ∧ (p.args ≠ 0 ∨ p.free ≠ 0 ∨ p.rest = true)
  · obtain ⟨rfl, hx⟩ := h0
    simp only [Nat.zero_mul, Nat.add_zero] at c0 c1 c2 c3 c4 c5 c6
    have HM : Hid (headM 0 p = false) := by
      unfold Hid headM
      rcases hx with e | e | e
      · simp [e]
      · simp [e]
      · simp [e]
    generalize headM 0 p = R at *
    rw [HM.out]
    generalize p.args = ar at *
    generalize p.free = fe at *
    generalize p.rest = re at *
    clear HM
    by_cases e1 : ar = 0
    · subst e1
      by_cases e2 : fe = 0
      · subst e2
        have e3 : re = true := by simpa using hx
        subst e3
        clear hx
        go_enter Try.func23, Try.ntmps23
        go_wp2
        go_ret
        exact ⟨rfl, (by repeat (first | exact Fr.refl _ _ | apply Fr.alloc | apply Fr.drew | apply Fr.drewN))⟩
      · have f2 : (fe != 0) = true := by rw [bne_iff_ne]; exact e2
        clear hx e2
        go_enter Try.func23, Try.ntmps23
        go_wp2
        go_ret
        exact ⟨rfl, (by repeat (first | exact Fr.refl _ _ | apply Fr.alloc | apply Fr.drew | apply Fr.drewN))⟩
    · have f1 : (ar != 0) = true := by rw [bne_iff_ne]; exact e1
      clear hx e1
      go_enter Try.func23, Try.ntmps23
      go_wp2
      go_ret
      exact ⟨rfl, (by repeat (first | exact Fr.refl _ _ | apply Fr.alloc | apply Fr.drew | apply Fr.drewN))⟩
  · have HM : Hid (headM num p = (isIn p.args 0 64 && (isIn p.free 0 4096 && isIn p.len 1 65536))) := by
      unfold Hid headM
      by_cases e : num = 0
      · have : ¬ (p.args ≠ 0 ∨ p.free ≠ 0 ∨ p.rest = true) := fun hh => h0 ⟨e, hh⟩
        have a1 : p.args = 0 := by
          by_cases x : p.args = 0
          · exact x
          · exact absurd (.inl x) this
        have a2 : p.free = 0 := by
          by_cases x : p.free = 0
          · exact x
          · exact absurd (.inr (.inl x)) this
        have a3 : p.rest = false := by
          cases x : p.rest with
          | false => rfl
          | true => exact absurd (.inr (.inr x)) this
        simp [a1, a2, a3]
      · simp [e]
    generalize headM num p = R at *
    have HX : Hid ((num = 0 ∧ p.args = 0 ∧ p.free = 0 ∧ p.rest = false) ∨ num ≠ 0) := by
      unfold Hid
      by_cases e : num = 0
      · refine .inl ⟨e, ?_, ?_, ?_⟩
        · by_cases x : p.args = 0
          · exact x
          · exact absurd ⟨e, .inl x⟩ h0
        · by_cases x : p.free = 0
          · exact x
          · exact absurd ⟨e, .inr (.inl x)⟩ h0
        · cases x : p.rest with
          | false => rfl
          | true => exact absurd ⟨e, .inr (.inr x)⟩ h0
      · exact .inr e
    clear h0
    rcases HX.out with ⟨e0, e1, e2, e3⟩ | en
    · rw [e1] at c1 HM
      rw [e2] at c2 HM
      rw [e3] at c3
      subst e0
      simp only [Nat.zero_mul, Nat.add_zero] at c0 c1 c2 c3 c4 c5 c6
      clear HX e1 e2 e3
      obtain ⟨z, hz⟩ : ∃ z, isIn (p.len : Int) 1 65536 = z := ⟨_, rfl⟩
      have HZ := hide hz
      clear hz
      go_enter Try.func23, Try.ntmps23
      go_wp2_with (go_at_call 30; refine (within_any _ _ _ _).mono ?_; rintro e w' ⟨rfl, rfl⟩; first | rw [HZ.out] | rw [show isIn 0 0 64 = true from rfl] | rw [show isIn 0 0 4096 = true from rfl])
      go_ret
      exact ⟨retB (by rw [HM.out, HZ.out]; rfl), (by repeat (first | exact Fr.refl _ _ | apply Fr.alloc | apply Fr.drew | apply Fr.drewN))⟩
    · have nn : ((num : Int) == 0) = false := by rw [beq_eq_false_iff_ne]; omega
      clear HX en
      obtain ⟨x, hx⟩ : ∃ x, isIn p.args 0 64 = x := ⟨_, rfl⟩
      obtain ⟨y, hy⟩ : ∃ y, isIn p.free 0 4096 = y := ⟨_, rfl⟩
      obtain ⟨z, hz⟩ : ∃ z, isIn (p.len : Int) 1 65536 = z := ⟨_, rfl⟩
      rw [hx, hy, hz] at HM
      have H3 : Hid (isIn p.args 0 64 = x ∧ isIn p.free 0 4096 = y ∧ isIn (p.len : Int) 1 65536 = z) := hide ⟨hx, hy, hz⟩
      clear hx hy hz
      cases x
      · go_enter Try.func23, Try.ntmps23
        go_wp2_with (go_at_call 30; refine (within_any _ _ _ _).mono ?_; rintro e w' ⟨rfl, rfl⟩; first | rw [H3.out.1] | rw [H3.out.2.1] | rw [H3.out.2.2])
        go_ret
        exact ⟨retB (by rw [HM.out]; rfl), (by repeat (first | exact Fr.refl _ _ | apply Fr.alloc | apply Fr.drew | apply Fr.drewN))⟩
      · cases y
        · go_enter Try.func23, Try.ntmps23
          go_wp2_with (go_at_call 30; refine (within_any _ _ _ _).mono ?_; rintro e w' ⟨rfl, rfl⟩; first | rw [H3.out.1] | rw [H3.out.2.1] | rw [H3.out.2.2])
          go_ret
          exact ⟨retB (by rw [HM.out]; rfl), (by repeat (first | exact Fr.refl _ _ | apply Fr.alloc | apply Fr.drew | apply Fr.drewN))⟩
        · go_enter Try.func23, Try.ntmps23
          go_wp2_with (go_at_call 30; refine (within_any _ _ _ _).mono ?_; rintro e w' ⟨rfl, rfl⟩; first | rw [H3.out.1] | rw [H3.out.2.1] | rw [H3.out.2.2])
          go_ret
          exact ⟨retB (by rw [HM.out]; rfl), (by repeat (first | exact Fr.refl _ _ | apply Fr.alloc | apply Fr.drew | apply Fr.drewN))⟩

theorem runM_none {np : Nat} {fr : Nat → Int} {p : PR} {k : Nat} {d : Nat → Int} {T : Nat → Bool} (h : leastT p.len T = none) : runM np fr p k d T = (0, 0, d) := by
  cases k with
  | zero => rfl
  | succ k => unfold runM; rw [h]
theorem runM_some {np : Nat} {fr : Nat → Int} {p : PR} {k pc : Nat} {d : Nat → Int} {T : Nat → Bool} (h : leastT p.len T = some pc) : runM np fr p (k + 1) d T = if (lookM np fr p pc d (updB T pc false)).1 ≠ 0 then ((lookM np fr p pc d (updB T pc false)).1, pc, d) else runM np fr p k (lookM np fr p pc d (updB T pc false)).2.1 (lookM np fr p pc d (updB T pc false)).2.2 := by
  rw [runM, h]

/-- The least place is taken. -/
theorem FSt.take {B : Nat} {w w' : World} {fb cb pb : Nat} {so : Option Addr} {np sc : Nat} {fr : Nat → Int} {num : Nat} {p : PR} {q : Hd} {db : Nat} {tv tv' : Value} {n : Nat} {f f' : Nat → Nat} {d : Nat → Int} {T : Nat → Bool} (h : FSt B w fb cb pb so np sc fr num p q db tv (n + 1) f d T)
    (h1 : w'.heap[fb]? = some (.cells ((foC cb num p q (.slice (some ⟨db, 0, none⟩) p.len p.len) tv).setIfInBounds 10 tv') 60 (0, 0))) (h2 : Own .i64 3 w' 0 tv' n f') (h3 : tv'.ownBlock = tv.ownBlock) (h4 : Pl n f') (h5 : ∀ y, Mem f' n y ↔ (Mem f (n + 1) y ∧ y ≠ f 0)) (h6 : Fr (fun k => k = fb ∨ tv.ownBlock = some k) w w') :
    FSt B w' fb cb pb so np sc fr num p q db tv' n f' d (updB T (f 0) false) ∧ Fr (fun k => B ≤ k) w w' := by
  have hf : Fr (fun k => B ≤ k) w w' := h6.mono (fun k _ e => by rcases e with e | e; rw [e]; exact h.fB; exact h.tB k e)
  obtain ⟨l1, l2⟩ := h.low hf
  refine ⟨{ h with
    rd := ⟨by rw [h1, foC_set], l1, l2, h.rd.pb⟩
    dep := h.dep.block (h6.block db h.dep.lt (fun e => by rcases e with e | e; exact h.ne e.symm; exact h.td e))
    ov := h2
    pl := h4
    le := fun i hi => by
      obtain ⟨⟨j, hj, e⟩, -⟩ := (h5 (f' i)).1 ⟨i, hi, rfl⟩
      rw [← e]; exact h.le j hj
    mem := fun y => by
      rw [h5, h.mem]
      by_cases e : y = f 0
      · rw [e, updB_same]; simp
      · rw [updB_other e]; simp [e]
    sane := fun y hy => by
      by_cases e : y = f 0
      · rw [e, updB_same] at hy; cases hy
      · rw [updB_other e] at hy; exact h.sane y hy
    tB := fun g hg => h.tB g (by rw [← h3]; exact hg)
    tf := by rw [h3]; exact h.tf
    td := by rw [h3]; exact h.td }, hf⟩
theorem FSt.least {B : Nat} {w : World} {fb cb pb : Nat} {so : Option Addr} {np sc : Nat} {fr : Nat → Int} {num : Nat} {p : PR} {q : Hd} {db : Nat} {tv : Value} {n : Nat} {f : Nat → Nat} {d : Nat → Int} {T : Nat → Bool} (h : FSt B w fb cb pb so np sc fr num p q db tv (n + 1) f d T) : leastT p.len T = some (f 0) ∧ 0 ≤ d (f 0) :=
  have ht : T (f 0) = true := (h.mem _).1 ⟨0, by omega, rfl⟩
  ⟨least_of (h.le 0 (by omega)) ht (fun i hi => by
    cases e : T i with
    | false => rfl
    | true =>
      obtain ⟨j, hj, e2⟩ := (h.mem i).2 e
      have := heap_least h.pl.heap j hj
      omega), h.sane _ ht⟩
theorem FSt.none {B : Nat} {w : World} {fb cb pb : Nat} {so : Option Addr} {np sc : Nat} {fr : Nat → Int} {num : Nat} {p : PR} {q : Hd} {db : Nat} {tv : Value} {f : Nat → Nat} {d : Nat → Int} {T : Nat → Bool} (h : FSt B w fb cb pb so np sc fr num p q db tv 0 f d T) : leastT p.len T = none :=
  least_no (fun i _ => by
    cases e : T i with
    | false => rfl
    | true => obtain ⟨j, hj, _⟩ := (h.mem i).2 e; omega)

/-- What a proto that is right leaves: its depths. -/
def WalkEnd (B : Nat) (w' : World) (fb : Nat) (p : PR) (R : Nat × Nat × (Nat → Int)) : Prop :=
  R.1 = 0 → ∃ db, w'.cell? ⟨fb, 9, none⟩ = some (.slice (some ⟨db, 0, none⟩) p.len p.len) ∧ DepAt w' db p.len R.2.2 ∧ B ≤ db

set_option maxRecDepth 20000 in
set_option maxHeartbeats 1000000 in
theorem walk_any (B : Nat) (w : World) (fb cb pb g off np sc : Nat) (fr : Nat → Int) (num : Nat) (p : PR) (q : Hd) (hr : Rdy w fb cb pb (some ⟨g, off, none⟩) np sc fr num p q (.slice none 0 0) (.slice none 0 0)) (fB : B ≤ fb) (cB : cb < B) (pB : pb < B) (sB : g < B) (kB : 1 ≤ p.len → ∀ g, q.co.map (·.block) = some g → g < B) (hp : PrAt w g (off + num * 7) p q) (hn : num < np) (R : Nat × Nat × (Nat → Int)) (hR : R = walkM np fr num p) :
    Calls Try.prog 17 #[.pointer (some ⟨fb, 0, none⟩)] w fun e w' => e = .returned (.tuple #[.int .i64 (R.2.1 : Int), .int .i64 (R.1 : Int)]) ∧ WalkEnd B w' fb p R ∧ Fr (fun k => B ≤ k) w w' := by
  have c7 : w.cell? ⟨fb, 7, none⟩ = some (.pointer (some ⟨cb, 0, none⟩)) := cell_row hr.fo rfl
  have c8 : w.cell? ⟨fb, 8, none⟩ = some (.int .i64 (num : Int)) := cell_row hr.fo rfl
  have hfb : fb < w.heap.size := (Array.getElem?_eq_some_iff.1 hr.fo).1
  have KH := fun (W : World) (hW : Fr (fun _ => False) w W) => headed_any W cb pb g off np sc fr num p q (hr.new hW).ch (hp.block (hW.block g hp.lt (fun e => e))) hr.pb hn
  have HKH := hide KH
  have HR := hide hr
  clear KH hr hp
  unfold walkM at hR
  by_cases hh : headM num p = true
  · rw [if_pos hh] at hR
    have hh2 : (0 ≤ p.args ∧ p.args ≤ 64) ∧ (0 ≤ p.free ∧ p.free ≤ 4096) ∧ (1 ≤ p.len ∧ p.len ≤ 65536) := by
      unfold headM at hh
      simp [isIn] at hh
      omega
    rw [hh] at HKH
    clear hh
    have KB := fun (W : World) (hW : Fr (fun _ => False) w W) => begin_any B W fb cb pb (some ⟨g, off, none⟩) np sc fr num p q ⟨HR.out.new hW, fB, cB, pB, fun x e => by cases e; exact sB, kB hh2.2.2.1, hh2.2.2.1, hh2.2.2.2⟩ hh2.1.1 hh2.1.2
    have HKB := hide KB
    have HGR := hide hR
    clear KB hR
    go_enter Try.func17, Try.ntmps17
    go_wp2
    go_region_held3 (fun w' => w'.cell? ⟨fb, 7, none⟩ = some (.pointer (some ⟨cb, 0, none⟩)) ∧ w'.cell? ⟨fb, 8, none⟩ = some (.int .i64 (num : Int))) (go_keep)
      (first | (go_at_call 23; refine (HKH.out _ (by repeat (first | exact Fr.refl _ _ | apply Fr.alloc | apply Fr.drew | apply Fr.drewN))).mono ?_; rintro e w1 ⟨rfl, F1⟩; have p0 : w1.cell? ⟨fb, 7, none⟩ = some (.pointer (some ⟨cb, 0, none⟩)) := (F1.cell hfb (fun e => e)).trans c7; have p1 : w1.cell? ⟨fb, 8, none⟩ = some (.int .i64 (num : Int)) := (F1.cell hfb (fun e => e)).trans c8; have HF1 : Hid (Fr (fun _ => False) w w1) := hide (Fr.trans (S := fun _ => False) ((Fr.refl _ _).drew) F1 (fun _ _ e => e)); clear F1))
    clear c7 c8
    go_wp2_with (go_at_call 24; refine (HKB.out _ HF1.out).mono ?_; rintro e w2 ⟨rfl, ⟨db, tv, n, f, S2⟩, F2⟩; have e4 : w2.cell? ⟨fb, 4, none⟩ = some (.slice q.co p.len q.cc) := cell_row S2.rd.fo rfl; have HS2 := hide S2; have HF2 : Hid (Fr (fun k => B ≤ k) w w2) := hide (Fr.trans (S := fun k => B ≤ k) (HF1.out.mono (fun _ _ e => e.elim)) F2 (fun _ _ e => e)); clear S2 F2)
    clear HKB HKH HR HF1 p0 p1
    go_loopw [24] (fun u wr => ∃ (i : Nat) (di : Nat → Int) (Ti : Nat → Bool) (db : Nat) (tv : Value) (n : Nat) (f : Nat → Nat), u = .int .i64 (i : Int) ∧ i ≤ p.len ∧ R = runM np fr p (p.len - i) di Ti ∧ FSt B wr fb cb pb (some ⟨g, off, none⟩) np sc fr num p q db tv n f di Ti ∧ Fr (fun k => B ≤ k) w wr) (fun u _ => p.len - (intOf u).toNat)
    case atStart => exact ⟨0, _, _, db, tv, n, f, rfl, Nat.zero_le _, HGR.out, HS2.out, HF2.out⟩
    case round =>
      clear HGR HS2 HF2 e4
      obtain ⟨i, di, Ti, db, tv, n, f, rfl, hi, hR, hS, hF⟩ := hrel
      have e10 : wr.cell? ⟨fb, 10, none⟩ = some tv := cell_row hS.rd.fo rfl
      obtain ⟨ao, cap, etv⟩ := hS.ov.shape
      rw [etv] at e10
      by_cases hil : i < p.len
      · by_cases hn0 : n = 0
        · subst hn0
          rw [runM_none hS.none] at hR
          have HGR := hide hR
          have HS := hide hS
          have HF := hide hF
          clear hR hS hF etv
          go_wp2
          go_ret2
          exact ⟨by rw [HGR.out]; rfl, fun _ => ⟨db, HS.out.c9, by rw [HGR.out]; exact HS.out.dep, HS.out.dB⟩, HF.out⟩
        · obtain ⟨m, rfl⟩ : ∃ m, n = m + 1 := ⟨n - 1, by omega⟩
          obtain ⟨hl, hd0⟩ := hS.least
          have hpl := hS.le 0 (by omega)
          have KT := take_any 60 wr fb _ 10 tv m f hS.rd.fo rfl hS.ov hS.tf hS.tb hS.pl (fun i hi => by have := hS.le i hi; omega)
          obtain ⟨k, hk⟩ : ∃ k, p.len - i = k + 1 := ⟨p.len - i - 1, by omega⟩
          have hk2 : p.len - (i + 1) = k := by omega
          rw [hk, runM_some hl] at hR
          obtain ⟨G, hG⟩ : ∃ G, G = lookM np fr p (f 0) di (updB Ti (f 0) false) := ⟨_, rfl⟩
          rw [← hG] at hR
          have nn0 : (((m + 1 : Nat) : Int) == 0) = false := by rw [beq_eq_false_iff_ne]; omega
          have KL := fun (W : World) (tv' : Value) (n' : Nat) (f' : Nat → Nat) (hW : FSt B W fb cb pb (some ⟨g, off, none⟩) np sc fr num p q db tv' n' f' di (updB Ti (f 0) false)) => look_any B W fb cb pb (some ⟨g, off, none⟩) np sc fr num p q db tv' n' f' di (updB Ti (f 0) false) hW hh2.2.1.1 (by omega) (f 0) hpl hd0 G hG
          have HKT := hide KT
          have HKL := hide KL
          have HS := hide hS
          have HF := hide hF
          have HK2 := hide hk2
          clear KT KL hS hF etv hl hd0 hG hk hk2 hn0
          by_cases hG0 : G.1 = 0
          · rw [if_neg (by simpa using hG0)] at hR
            have HGR := hide hR
            have HG0 := hide hG0
            have g0 : ((G.1 : Int) != 0) = false := by rw [hG0]; rfl
            clear hR hG0
            go_wp2_with (first
              | (go_at_call 25; refine HKT.out.mono ?_; rintro e w3 ⟨rfl, tv3, f3, t1, t2, t3, t4, t5, t6, t7⟩; obtain ⟨S3, F3⟩ := HS.out.take t1 t2 t3 t4 t5 t7; have HS3 := hide S3; have HF3 := hide F3; clear S3 F3 t1 t2 t3 t4 t5 t6 t7)
              | (go_at_call 26; refine (HKL.out _ tv3 m f3 HS3.out).mono ?_; rintro e w4 ⟨rfl, h4, F4⟩; have HF4 := hide F4; have H4 := hide h4; clear F4 h4))
            obtain ⟨tv4, n4, f4, S4⟩ := H4.out HG0.out
            exact ⟨⟨i + 1, _, _, db, tv4, n4, f4, by go_num, hil, by rw [HK2.out]; exact HGR.out, S4, Fr.trans (S := fun k => B ≤ k) HF.out (Fr.trans (S := fun k => B ≤ k) HF3.out HF4.out (fun _ _ e => e)) (fun _ _ e => e)⟩, by simp [intOf]; omega⟩
          · rw [if_pos hG0] at hR
            have HGR := hide hR
            have HG0 := hide hG0
            have g0 : ((G.1 : Int) != 0) = true := by rw [bne_iff_ne]; omega
            clear hR hG0
            go_wp2_with (first
              | (go_at_call 25; refine HKT.out.mono ?_; rintro e w3 ⟨rfl, tv3, f3, t1, t2, t3, t4, t5, t6, t7⟩; obtain ⟨S3, F3⟩ := HS.out.take t1 t2 t3 t4 t5 t7; have HS3 := hide S3; have HF3 := hide F3; clear S3 F3 t1 t2 t3 t4 t5 t6 t7)
              | (go_at_call 26; refine (HKL.out _ tv3 m f3 HS3.out).mono ?_; rintro e w4 ⟨rfl, h4, F4⟩; have HF4 := hide F4; clear F4 h4))
            go_ret2
            exact ⟨by rw [HGR.out]; rfl, fun h => absurd h (by rw [HGR.out]; exact HG0.out), Fr.trans (S := fun k => B ≤ k) HF.out (Fr.trans (S := fun k => B ≤ k) HF3.out HF4.out (fun _ _ e => e)) (fun _ _ e => e)⟩
      · have e : i = p.len := by omega
        subst e
        rw [Nat.sub_self] at hR
        have HGR : Hid (R = (0, 0, di)) := hR
        have HS := hide hS
        have HF := hide hF
        clear hR hS hF etv hil
        go_wp2
        go_ret2
        exact ⟨by rw [HGR.out]; rfl, fun _ => ⟨db, HS.out.c9, by rw [HGR.out]; exact HS.out.dep, HS.out.dB⟩, HF.out⟩
  · have hh' : headM num p = false := by simpa using hh
    rw [if_neg hh] at hR
    rw [hh'] at HKH
    have HG := hide hR
    clear hR hh hh'
    go_enter Try.func17, Try.ntmps17
    go_wp2
    go_region_held3 (fun w' => w'.cell? ⟨fb, 7, none⟩ = some (.pointer (some ⟨cb, 0, none⟩)) ∧ w'.cell? ⟨fb, 8, none⟩ = some (.int .i64 (num : Int))) (go_keep)
      (first | (go_at_call 23; refine (HKH.out _ (by repeat (first | exact Fr.refl _ _ | apply Fr.alloc | apply Fr.drew | apply Fr.drewN))).mono ?_; rintro e w1 ⟨rfl, F1⟩; have p0 : w1.cell? ⟨fb, 7, none⟩ = some (.pointer (some ⟨cb, 0, none⟩)) := (F1.cell hfb (fun e => e)).trans c7; have p1 : w1.cell? ⟨fb, 8, none⟩ = some (.int .i64 (num : Int)) := (F1.cell hfb (fun e => e)).trans c8; have HF1 : Hid (Fr (fun _ => False) w w1) := hide (Fr.trans (S := fun _ => False) ((Fr.refl _ _).drew) F1 (fun _ _ e => e)); clear F1))
    go_wp2
    go_ret2
    exact ⟨by rw [HG.out]; rfl, fun h => absurd h (by rw [HG.out]; exact Nat.succ_ne_zero _), HF1.out.mono (fun _ _ e => e.elim)⟩

end Go.Proofs.Ytmogglmofbbjlaa
