/-
  What is proved here: a number's decimal text is one. tandemlaw02.awake answers true: the document's own examples of a division downwards and of a sum.
-/
import Derived.Test.YtjbocfhmfidjjaaDoorText
import Derived.Test.YtjbocfhmfidjjaaDoorNFloor
namespace Go.Proofs.YtjbocfhmfidjjaaDoor
open Go Go.RowKit

theorem dec_inj {d e : Nat → Nat} {L : Nat} (hd : ∀ i, i < L → d i ≤ 9) (he : ∀ i, i < L → e i ≤ 9) (h : dec d L = dec e L) : ∀ i, i < L → d i = e i := by
  induction L with
  | zero => intro i hi; omega
  | succ k ih =>
    have h1 := hd k (by omega)
    have h2 := he k (by omega)
    rw [dec, dec] at h
    intro i hi
    by_cases e' : i = k
    · rw [e']; omega
    · exact ih (fun i hi => hd i (by omega)) (fun i hi => he i (by omega)) (by omega) i (by omega)
theorem dec_ge {d : Nat → Nat} {L : Nat} (hL : 1 ≤ L) (h0 : d 0 ≠ 0) : 10 ^ (L - 1) ≤ dec d L := by
  obtain ⟨k, rfl⟩ : ∃ k, L = k + 1 := ⟨L - 1, by omega⟩
  rw [Nat.add_sub_cancel]
  clear hL
  induction k with
  | zero => simp [dec]; omega
  | succ k ih => rw [dec, Nat.pow_succ]; omega
theorem says_len {d e : Nat → Nat} {L M : Nat} (hM : 1 ≤ L) (hd : ∀ i, i < L → d i ≤ 9) (h : dec d L = dec e M) (h0 : M = 1 ∨ e 0 ≠ 0) : ¬ L < M := by
  intro hlt
  have h1 := dec_lt hd
  have h2 := dec_ge (d := e) (L := M) (by omega) (by rcases h0 with h | h; omega; exact h)
  have h3 : 10 ^ L ≤ 10 ^ (M - 1) := Nat.pow_le_pow_right (by decide) (by omega)
  omega
theorem says_uniq {s t : ByteArray} {x : Nat} (hs : Says s x) (ht : Says t x) : s = t := by
  obtain ⟨d, a1, a2, a3, a4⟩ := hs
  obtain ⟨e, b1, b2, b3, b4⟩ := ht
  have l1 := says_len a1 (fun i hi => (a2 i hi).2) (a3.trans b3.symm) b4
  have l2 := says_len b1 (fun i hi => (b2 i hi).2) (b3.trans a3.symm) a4
  have hl : s.size = t.size := by omega
  have hi := dec_inj (fun i hi => (a2 i hi).2) (fun i hi => (b2 i (by omega)).2) (by rw [a3, hl, b3])
  apply ByteArray.ext
  apply Array.ext
  · exact hl
  · intro i h1 h2
    apply UInt8.toNat_inj.1
    exact ((a2 i h1).1.trans (by rw [hi i h1])).trans (b2 i h2).1.symm

theorem saysZ_uniq {s t : ByteArray} {z : Int} (hs : SaysZ s z) (ht : SaysZ t z) : s = t := by
  rcases hs with ⟨h1, h2⟩ | ⟨h1, s', rfl, h2⟩ <;> rcases ht with ⟨k1, k2⟩ | ⟨k1, t', rfl, k2⟩
  · exact says_uniq h2 k2
  · omega
  · omega
  · rw [says_uniq h2 k2]
theorem says_dig (c : UInt8) (d : Nat) (hc : c.toNat = 48 + d) (hd : d ≤ 9) : Says ⟨#[c]⟩ d :=
  ⟨fun _ => d, Nat.le_refl _, (fun i h => by
    have h1 : i < 1 := h
    match i, h1 with
    | 0, _ => exact ⟨hc, hd⟩), (by show dec (fun _ => d) 1 = d; simp [dec]), .inl rfl⟩
theorem text_m4 : SaysZ ⟨#[45, 52]⟩ (-4) := .inr ⟨by decide, ⟨#[52]⟩, rfl, says_dig 52 4 rfl (by decide)⟩
theorem text_1 : SaysZ ⟨#[49]⟩ 1 := .inl ⟨by decide, says_dig 49 1 rfl (by decide)⟩
theorem text_5 : SaysZ ⟨#[53]⟩ 5 := .inl ⟨by decide, says_dig 53 5 rfl (by decide)⟩

set_option maxRecDepth 4000 in
set_option maxHeartbeats 2000000 in
theorem awake_any (w : World) (htab : Tab w) : Calls Tryd.prog 20 #[] w fun e w' => e = .returned (.bool true) ∧ Up w w' := by
  have HT := hide htab
  clear htab
  go_enter Tryd.func20, Tryd.ntmps20
  go_wp2_with fail
  refine (of_any (-7) _ (by decide) (by decide)).mono ?_
  rintro e w1 ⟨a1, b1, n1, f1, rfl, o1, u1, c1, l1, s1⟩
  go_wp2_with fail
  refine (of_any 2 _ (by decide) (by decide)).mono ?_
  rintro e w2 ⟨a2, b2, n2, f2, rfl, o2, u2, c2, l2, s2⟩
  have N1 := o1.nm.up u2
  have H12 := hide (And.intro s1 s2)
  clear s1 s2 o1
  go_wp2_with fail
  refine (floor_any a1 a2 b1 b2 n1 n2 2 f1 f2 (-7) 2 _ N1 o2.nm c1.1.1 c2.1.1 l1 l2 (by decide) (unhide H12).1 (unhide H12).2).mono ?_
  rintro e w3 HX
  obtain ⟨aq, ar, bq, br, nq, nr, fq, fr, rfl, oq, or, u3, cq, cr, lq, lr, sq, sr⟩ := HX
  have U3 := (u1.tr u2).tr u3
  obtain ⟨vq, rfl, oq⟩ := oq
  obtain ⟨vr, rfl, or⟩ := or
  obtain ⟨aoq, capq, rfl, -⟩ := id oq.sl
  obtain ⟨aor, capr, rfl, -⟩ := id or.sl
  replace sq : sgn bq (num 4294967296 fq nq) = -4 := sq
  replace sr : sgn br (num 4294967296 fr nr) = 1 := sr
  have H3 := hide (And.intro sq (And.intro sr (And.intro oq or)))
  clear sq sr oq or N1 o2 u1 u2 u3 H12
  rw [show decide ((2 : Int) ≠ 0) = true from rfl]
  go_wp2_with fail
  have V3 := U3.tr ((up_alloc w3 (.cells #[.bool bq, .slice aoq nq capq] 26)).tr (up_alloc _ (.cells #[.bool br, .slice aor nr capr] 26)))
  have K2 := (two_blocks w3 (.cells #[.bool bq, .slice aoq nq capq] 26) (.cells #[.bool br, .slice aor nr capr] 26)).2
  refine (textz_any _ bq nq fq _ ⟨_, rfl, (unhide H3).2.2.1.sl.up ((up_alloc _ _).tr (up_alloc _ _))⟩ cq.1.1 (by omega) ((unhide HT).up V3)).mono ?_
  rintro e w4 ⟨s4, rfl, u4, l4, t4⟩
  rw [(unhide H3).1] at t4
  obtain rfl := saysZ_uniq t4 text_m4
  obtain ⟨x0, x1, -⟩ := cells2 (u4.blk K2)
  have O4 := hide ((unhide H3).2.2.2.sl.up (((up_alloc w3 (.cells #[.bool bq, .slice aoq nq capq] 26)).tr (up_alloc _ (.cells #[.bool br, .slice aor nr capr] 26))).tr u4))
  have U4 := V3.tr u4
  clear t4 l4 K2 u4 V3 U3
  go_wp2_with fail
  refine (textz_any _ br nr fr _ ⟨_, rfl, unhide O4⟩ cr.1.1 (by omega) ((unhide HT).up U4)).mono ?_
  rintro e w5 ⟨s5, rfl, u5, l5, t5⟩
  rw [(unhide H3).2.1] at t5
  obtain rfl := saysZ_uniq t5 text_1
  have U5 := U4.tr u5
  clear t5 l5 u5 U4 x0 x1
  go_wp2_with fail
  refine (of_any 2 _ (by decide) (by decide)).mono ?_
  rintro e w6 ⟨a6, b6, n6, f6, rfl, o6, u6, c6, l6, s6⟩
  have H6 := hide (And.intro s6 o6)
  clear s6 o6
  go_wp2_with fail
  refine (of_any 3 _ (by decide) (by decide)).mono ?_
  rintro e w7 ⟨a7, b7, n7, f7, rfl, o7, u7, c7, l7, s7⟩
  have H7 := hide (And.intro s7 o7)
  obtain ⟨v6, rfl, o6⟩ := (unhide H6).2
  obtain ⟨v7, rfl, o7⟩ := o7
  obtain ⟨ao6, cap6, rfl, -⟩ := id o6.sl
  obtain ⟨ao7, cap7, rfl, -⟩ := id o7.sl
  have S6 := hide (o6.sl.up u7)
  have S7 := hide o7.sl
  have U7 := (U5.tr u6).tr u7
  clear s7 o6 o7 U5 u6 u7
  go_wp2_with fail
  refine (addz2 _ _ _ b6 b7 n6 n7 2 f6 f7 26 _ rfl (unhide S6) (unhide S7) c6.1.1 c7.1.1 l6 l7 (by decide)).mono ?_
  rintro e w8 ⟨a8, b8, n8, f8, rfl, o8, u8, c8, l8, s8⟩
  rw [(unhide H6).1, (unhide H7).1] at s8
  have U8 := U7.tr u8
  have N8 := hide (And.intro s8 o8.nm)
  obtain ⟨v8, rfl, o8⟩ := o8
  obtain ⟨ao8, cap8, rfl, -⟩ := id o8.sl
  clear s8 o8 U7 u8
  go_wp2_with fail
  refine (textz_any _ b8 n8 f8 _ (unhide N8).2 c8.1.1 (by omega) ((unhide HT).up U8)).mono ?_
  rintro e w9 ⟨s9, rfl, u9, l9, t9⟩
  rw [(unhide N8).1] at t9
  obtain rfl := saysZ_uniq t9 text_5
  have U9 := U8.tr u9
  clear t9 l9 u9 U8
  go_wp2_with fail
  go_ret
  exact ⟨rfl, U9⟩

end Go.Proofs.YtjbocfhmfidjjaaDoor
