/-
  What is proved here: num.divide divides towards 0. num.divide by 0; num.isZero.
-/
import Derived.Test.YtjbocfhmfidjjaaDoorNText
import Derived.Test.YtjbocfhmfidjjaaDoorDiv
import Derived.Deep.RegionHeld3
import Derived.Deep.QuietTactic
namespace Go.Proofs.YtjbocfhmfidjjaaDoor
open Go Go.RowKit

theorem sgn_tdiv (a b : Bool) (x y : Nat) : sgn (a != b) (x / y) = Int.tdiv (sgn a x) (sgn b y) := by
  cases a <;> cases b <;> simp [sgn, Int.neg_tdiv, Int.tdiv_neg] <;> rfl
theorem sgn_tmod (a b : Bool) (x y : Nat) : sgn a (x % y) = Int.tmod (sgn a x) (sgn b y) := by
  cases a <;> cases b <;> simp [sgn, Int.neg_tmod, Int.tmod_neg] <;> rfl

theorem back22 {w3 : World} {g2 g3 : Nat} {c0 c1 : Value} {E : TypeId} (h : w3.heap[g3]? = some (.cells #[c0, c1] E (0, 0))) (hne : g3 ≠ g2) (x y : Value) :
    (∀ x', (((w3.setCell ⟨g2, 0, none⟩ x).setCell ⟨g2, 1, none⟩ y).setCell ⟨g3, 0, none⟩ x').cell? ⟨g3, 0, none⟩ = some x') ∧
    ∀ x' y', ((((w3.setCell ⟨g2, 0, none⟩ x).setCell ⟨g2, 1, none⟩ y).setCell ⟨g3, 0, none⟩ x').setCell ⟨g3, 1, none⟩ y').cell? ⟨g3, 1, none⟩ = some y' :=
  back2 (((heap_setCell_other _ _ _ _ (by show g3 ≠ g2; exact hne)).trans (heap_setCell_other _ _ _ _ (by show g3 ≠ g2; exact hne))).trans h)

/-- What is read behind a draw. -/
theorem drew2 {w : World} {g : Nat} {c0 c1 : Value} {E : TypeId} (h : w.heap[g]? = some (.cells #[c0, c1] E (0, 0))) : w.drew.cell? ⟨g, 0, none⟩ = some c0 ∧ w.drew.cell? ⟨g, 1, none⟩ = some c1 :=
  ⟨(cells2 h).1, (cells2 h).2.1⟩

set_option maxRecDepth 4000 in
set_option maxHeartbeats 2000000 in
theorem divide_any (a u : Value) (ba bu : Bool) (n m : Nat) (f h : Nat → Nat) (w : World) (ha : Wk w a ba n f) (hu : Wk w u bu m h) (hf : ∀ i, i < n → f i < 4294967296) (hh : ∀ i, i < m → h i < 4294967296) (hn : 4 * (n + 1) ≤ 281474976710656) (hpos : 0 < num 4294967296 h m) :
    Calls Tryd.prog 63 #[a, u] w fun e w' => ∃ (aq ar : Value) (bq br : Bool) (nq nr : Nat) (fq fr : Nat → Nat), e = .returned (.tuple #[aq, ar, .bool true]) ∧ OwnW w' w.heap.size aq bq nq fq ∧ OwnW w' w.heap.size ar br nr fr ∧ Up w w' ∧ CanZ bq fq nq ∧ CanZ br fr nr ∧ nq ≤ n + 1 ∧ nr ≤ m ∧
      sgn bq (num 4294967296 fq nq) = Int.tdiv (sgn ba (num 4294967296 f n)) (sgn bu (num 4294967296 h m)) ∧ sgn br (num 4294967296 fr nr) = Int.tmod (sgn ba (num 4294967296 f n)) (sgn bu (num 4294967296 h m)) := by
  obtain ⟨v, rfl, hv⟩ := ha
  obtain ⟨v', rfl, hu⟩ := hu
  obtain ⟨ao, cap, rfl, -⟩ := id hv
  obtain ⟨ao', cap', rfl, -⟩ := id hu
  have U0 := ((((up_alloc w (.cells #[.slice ao n cap, .bool ba] 51)).tr (up_alloc _ (.cells #[.slice ao' m cap', .bool bu] 51))).tr (up_alloc _ (.cells #[.slice none 0 0, .bool false] 51))).tr (up_alloc _ (.cells #[.slice none 0 0, .bool false] 51)))
  have K := hide (four_blocks w (.cells #[.slice ao n cap, .bool ba] 51) (.cells #[.slice ao' m cap', .bool bu] 51) (.cells #[.slice none 0 0, .bool false] 51) (.cells #[.slice none 0 0, .bool false] 51))
  have HP := hide hpos
  clear hpos
  go_enter Tryd.func63, Tryd.ntmps63
  go_wp2_with fail
  refine (div_any _ _ n m f h _ (hv.up U0) (hu.up U0) hf hh hn (unhide HP)).mono ?_
  rintro e w1 HX
  obtain ⟨nq, nr, fq, fr, vq, vr, rfl, oq, or, u1, cq, cr, lq, lr, sq, sr⟩ := unhide HX
  replace u1 : Up _ w1 := u1
  have HQ := hide (And.intro sq sr)
  clear sq sr HX
  obtain ⟨aoq, capq, rfl, -⟩ := id oq.sl
  obtain ⟨aor, capr, rfl, -⟩ := id or.sl
  have oq' : Own .u32 64 w1.drew (w.heap.size + 4) (.slice aoq nq capq) nq fq := (oq.up (up_drew _)).mono (by simp)
  have or' : Own .u32 64 w1.drew (w.heap.size + 4) (.slice aor nr capr) nr fr := (or.up (up_drew _)).mono (by simp)
  have u1' : Up _ w1.drew := u1.tr (up_drew _)
  obtain ⟨x0, x1⟩ := drew2 (u1.blk (unhide K).1)
  obtain ⟨y0, y1⟩ := drew2 (u1.blk (unhide K).2.1)
  have HU := hide U0
  clear oq or hf hh hn hv hu HP U0
  go_wp2_with fail
  go_region_held3 (fun w' => w'.cell? ⟨w.heap.size, 1, none⟩ = some (.bool ba) ∧ w'.cell? ⟨w.heap.size + 1, 1, none⟩ = some (.bool bu)) (first | (go_keep; done) | exact ⟨keep2 (by omega) x1'', keep2 (by omega) y1''⟩ | exact ⟨keep2 (by omega) (keep2 (by omega) x1''), keep2 (by omega) (keep2 (by omega) y1'')⟩) (first
    | (go_at_call_of 59 (Value.slice aoq nq capq); refine (numberOf_own (w.heap.size + 4) _ nq fq (ba != bu) _ oq' cq).mono ?_; rintro e w2 ⟨aq, bq, rfl, o2, u2, c2, s2⟩; obtain ⟨v2, rfl, o2⟩ := o2; obtain ⟨ao2, cap2, rfl, -⟩ := id o2.sl; have S2 := hide s2; clear s2; have u2' := u1'.tr u2; obtain ⟨x0', x1', -⟩ := cells2 (u2'.blk (unhide K).1); obtain ⟨y0', y1', -⟩ := cells2 (u2'.blk (unhide K).2.1); have or2 := or'.up u2)
    | (go_at_call_of 59 (Value.slice aor nr capr); refine (numberOf_own (w.heap.size + 4) _ nr fr ba _ or2 cr).mono ?_; rintro e w3 ⟨ar, br, rfl, o3, u3, c3, s3⟩; obtain ⟨v3, rfl, o3⟩ := o3; obtain ⟨ao3, cap3, rfl, -⟩ := id o3.sl; have S3 := hide s3; clear s3; have u3' := u2'.tr u3; obtain ⟨p0, p1, p2, p3, p4⟩ := cells2 (u3'.blk (unhide K).2.2.1); obtain ⟨q0, q1, q2, q3, q4⟩ := cells2 (u3'.blk (unhide K).2.2.2); have o2' := o2.up u3; obtain ⟨-, x1'', -⟩ := cells2 (u3'.blk (unhide K).1); obtain ⟨-, y1'', -⟩ := cells2 (u3'.blk (unhide K).2.1); obtain ⟨e0, e1⟩ := back2 (u3'.blk (unhide K).2.2.1); have E := back22 (g2 := w.heap.size + 1 + 1) (u3'.blk (unhide K).2.2.2) (by omega)))
  all_goals go_wp2_with fail
  all_goals refine bodyPost_ret (by simp [results, Tryd.results63, go_sem, e0, e1, E]; rfl) rfl ?_
  all_goals refine ⟨_, _, bq, br, nq, nr, fq, fr, rfl, ⟨_, rfl, ((o2'.set2 (by omega)).set2 (by omega)).mono (by omega)⟩, ⟨_, rfl, ((o3.set2 (by omega)).set2 (by omega)).mono (by omega)⟩, Up.set2 (Up.set2 ((unhide HU).tr u3') (by omega)) (by omega), c2, c3, by omega, lr, ?_, ?_⟩
  · rw [unhide S2, (unhide HQ).1]
    exact sgn_tdiv ba bu _ _
  · rw [unhide S3, (unhide HQ).2]
    exact sgn_tmod ba bu _ _

theorem isZero_any (ao : Option Addr) (n cap : Nat) (w : World) : Calls Tryd.prog 65 #[.slice ao n cap] w fun e w' => e = .returned (.bool (decide (n = 0))) ∧ w' = w := by
  go_enter Tryd.func65, Tryd.ntmps65
  by_cases h : n = 0
  · subst h
    go_wp2
    go_ret
    exact ⟨by simp, rfl⟩
  · have h2 : ((n : Int) == 0) = false := by simp; omega
    go_wp2
    go_ret
    exact ⟨by simp [h], rfl⟩

set_option maxRecDepth 4000 in
set_option maxHeartbeats 2000000 in
theorem divide_zero (a u : Value) (ba bu : Bool) (n m : Nat) (f h : Nat → Nat) (w : World) (ha : Wk w a ba n f) (hu : Wk w u bu m h) (hz : num 4294967296 h m = 0) :
    Calls Tryd.prog 63 #[a, u] w fun e w' => e = .returned (.tuple #[.agg #[.slice none 0 0, .bool false], .agg #[.slice none 0 0, .bool false], .bool false]) ∧ Up w w' := by
  obtain ⟨v, rfl, hv⟩ := ha
  obtain ⟨v', rfl, hu⟩ := hu
  obtain ⟨ao, cap, rfl, -⟩ := id hv
  obtain ⟨ao', cap', rfl, -⟩ := id hu
  have U0 := ((((up_alloc w (.cells #[.slice ao n cap, .bool ba] 51)).tr (up_alloc _ (.cells #[.slice ao' m cap', .bool bu] 51))).tr (up_alloc _ (.cells #[.slice none 0 0, .bool false] 51))).tr (up_alloc _ (.cells #[.slice none 0 0, .bool false] 51)))
  have K := hide (four_blocks w (.cells #[.slice ao n cap, .bool ba] 51) (.cells #[.slice ao' m cap', .bool bu] 51) (.cells #[.slice none 0 0, .bool false] 51) (.cells #[.slice none 0 0, .bool false] 51))
  have HP := hide hz
  clear hz
  go_enter Tryd.func63, Tryd.ntmps63
  go_wp2_with fail
  refine (div_zero _ _ n m f h _ (hv.up U0) (hu.up U0) (unhide HP)).mono ?_
  rintro e w1 ⟨rfl, u1⟩
  replace u1 : Up _ w1 := u1
  have u1' : Up _ w1.drew := u1.tr (up_drew _)
  obtain ⟨x0, x1⟩ := drew2 (u1.blk (unhide K).1)
  obtain ⟨y0, y1⟩ := drew2 (u1.blk (unhide K).2.1)
  have HU := hide U0
  have hnil : ∀ W : World, Own .u32 64 W (w.heap.size + 4) (.slice none 0 0) 0 (fun _ => 0) := fun W => .inl ⟨rfl, rfl⟩
  have hcan : Can 4294967296 (fun _ => 0) 0 := ⟨fun i hi => by omega, .inl rfl⟩
  have HN := hide (And.intro hnil hcan)
  clear hv hu HP U0 hnil hcan
  go_wp2_with fail
  go_region_held3 (fun w' => w'.cell? ⟨w.heap.size, 1, none⟩ = some (.bool ba) ∧ w'.cell? ⟨w.heap.size + 1, 1, none⟩ = some (.bool bu)) (first | (go_keep; done) | exact ⟨keep2 (by omega) x1'', keep2 (by omega) y1''⟩ | exact ⟨keep2 (by omega) (keep2 (by omega) x1''), keep2 (by omega) (keep2 (by omega) y1'')⟩) (first
    | (go_at_call 59; have hh := u2'; clear hh; refine (numberOf_any none 0 0 (fun _ => 0) _ _ (.inl rfl) (Nat.le_refl _) (by omega)).mono ?_; rintro e w3 ⟨m3, hm3, rfl, u3, -⟩; obtain rfl : m3 = 0 := (by omega); have u3' := u2'.tr u3; obtain ⟨p0, p1, p2, p3, p4⟩ := cells2 (u3'.blk (unhide K).2.2.1); obtain ⟨q0, q1, q2, q3, q4⟩ := cells2 (u3'.blk (unhide K).2.2.2); obtain ⟨-, x1'', -⟩ := cells2 (u3'.blk (unhide K).1); obtain ⟨-, y1'', -⟩ := cells2 (u3'.blk (unhide K).2.1); obtain ⟨e0, e1⟩ := back2 (u3'.blk (unhide K).2.2.1); have E := back22 (g2 := w.heap.size + 1 + 1) (u3'.blk (unhide K).2.2.2) (by omega))
    | (go_at_call 59; refine (numberOf_any none 0 0 (fun _ => 0) _ _ (.inl rfl) (Nat.le_refl _) (by omega)).mono ?_; rintro e w2 ⟨m2, hm2, rfl, u2, -⟩; obtain rfl : m2 = 0 := (by omega); have u2' := u1'.tr u2; obtain ⟨x0', x1', -⟩ := cells2 (u2'.blk (unhide K).1); obtain ⟨y0', y1', -⟩ := cells2 (u2'.blk (unhide K).2.1)))
  all_goals go_wp2_with fail
  all_goals refine bodyPost_ret (by simp [results, Tryd.results63, go_sem, e0, e1, E]; rfl) rfl ?_
  all_goals exact ⟨by simp, Up.set2 (Up.set2 ((unhide HU).tr u3') (by omega)) (by omega)⟩

end Go.Proofs.YtjbocfhmfidjjaaDoor
