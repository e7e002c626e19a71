/-
  What is proved here: tandemlaw06.ShowLists.
-/
import Derived.Test.YtedhknfgliepeaaDoorSAwake
namespace Go.Proofs.YtedhknfgliepeaaDoor
open Go Go.RowKit

theorem its_snoc {α : Type} (f : α → List UInt8) (d : α) : ∀ (l : List α) (g : List UInt8), its f g (l ++ [d]) = its f g l ++ (if l = [] then g else [32]) ++ f d
  | [], g => by simp [its]
  | a :: l, g => by
    rw [List.cons_append, its, its_snoc f d l [32], its]
    by_cases h : l = [] <;> simp [h, its]
theorem its_take {α : Type} (f : α → List UInt8) (l : List α) {k : Nat} (hk : k < l.length) : its f [] (l.take (k + 1)) = its f [] (l.take k) ++ (if k = 0 then [] else [32]) ++ f l[k] := by
  rw [List.take_succ_eq_append_getElem hk, its_snoc]
  have : l.take k = [] ↔ k = 0 := by
    rw [List.take_eq_nil_iff]
    constructor
    · rintro (h | h)
      · exact h
      · rw [h] at hk; simp at hk
    · exact .inl
  simp [this]
theorem cat_bytes (a b : List UInt8) : (⟨a.toArray⟩ : ByteArray) ++ ⟨b.toArray⟩ = ⟨(a ++ b).toArray⟩ := by
  apply ByteArray.ext
  simp [ByteArray.data_append]

/-- The data of a row, as far as their texts go. -/
theorem its_len {w : World} {h : Nat} {I : List (Tr h)} {v : Value} (hr : RowD w (DatC w h) v I) (sh : Bool) (k : Nat) : (its (wr h sh) [] (I.take k)).length ≤ 60 * (I.map (bk h)).sum := by
  have key : ∀ a ∈ I, (wr h sh a).length + 1 ≤ 60 * bk h a := fun a ha => by
    obtain ⟨i, hi, rfl⟩ := List.getElem_of_mem ha
    obtain ⟨ao, cap, rfl⟩ := hr.shape
    obtain ⟨-, b, off, -, cs, -, -, hc⟩ := hr.get hi
    exact wr_le h sh _ w cs hc
  have keyI : ∀ (l : List (Tr h)) (g : List UInt8), (∀ a ∈ l, (wr h sh a).length + 1 ≤ 60 * bk h a) → (its (wr h sh) g l).length ≤ g.length + 60 * (l.map (bk h)).sum := fun l => by
    induction l with
    | nil => intro g _; simp [its]
    | cons a l ih =>
      intro g hg
      have h1 := ih [32] (fun x hx => hg x (by simp [hx]))
      have h2 := hg a (by simp)
      simp only [its, List.length_append, List.map_cons, List.sum_cons, List.length_singleton] at *
      omega
  have h1 := keyI (I.take k) [] (fun a ha => key a (List.mem_of_mem_take ha))
  have h2 : (I.map (bk h)).sum = ((I.take k).map (bk h)).sum + ((I.drop k).map (bk h)).sum := by
    rw [← List.sum_append, ← List.map_append, List.take_append_drop]
  rw [List.length_nil, Nat.zero_add] at h1
  omega

/-- Write of a list, and of a vector, of these items. -/
theorem writeL (w : World) (h : Nat) (I R : List (Tr h)) (ui ur : Value) (htab : Tab w) (hI : RowD w (DatC w h) ui I) (hR : RowD w (DatC w h) ur R) (hb : (I.map (bk h)).sum + (R.map (bk h)).sum ≤ 5000000) (hn : I ≠ [] ∨ R = []) :
    Calls Tryd.prog 6 #[.agg #[.int .i64 6, .int .i64 0, .bool false, .slice none 0 0, .string ⟨#[]⟩, ui, ur]] w fun e w' => e = .returned (.string ⟨([40] ++ its (wr h false) [] I ++ dotW (wr h false) R ++ [41]).toArray⟩) ∧ Up w w' := by
  have := write_any w (h + 1) (6, 0, false, [], ⟨#[]⟩, I, R) _ _ _ _ _ _ _ htab (by simp only [bk]; have : (⟨#[]⟩ : ByteArray).size = 0 := rfl; simp; omega) ⟨.slice none 0 0, ui, ur, rfl, by decide, sl_nil w, fun i hi => by simp at hi, hI, hR⟩
  have e : wr (h + 1) false (6, 0, false, [], ⟨#[]⟩, I, R) = [40] ++ its (wr h false) [] I ++ dotW (wr h false) R ++ [41] := by
    cases I with
    | nil => cases R with
      | nil => simp [wr, its, dotW]
      | cons r R' => rcases hn with h | h <;> simp at h
    | cons i I' => simp [wr]
  rw [e] at this
  exact this
theorem writeV (w : World) (h : Nat) (I : List (Tr h)) (ui : Value) (htab : Tab w) (hI : RowD w (DatC w h) ui I) (hb : (I.map (bk h)).sum ≤ 5000000) :
    Calls Tryd.prog 6 #[.agg #[.int .i64 7, .int .i64 0, .bool false, .slice none 0 0, .string ⟨#[]⟩, ui, .slice none 0 0]] w fun e w' => e = .returned (.string ⟨([35, 40] ++ its (wr h false) [] I ++ [41]).toArray⟩) ∧ Up w w' := by
  have := write_any w (h + 1) (7, 0, false, [], ⟨#[]⟩, I, []) _ _ _ _ _ _ _ htab (by simp only [bk]; have : (⟨#[]⟩ : ByteArray).size = 0 := rfl; simp; omega) ⟨.slice none 0 0, ui, .slice none 0 0, rfl, by decide, sl_nil w, fun i hi => by simp at hi, hI, RowD.nil' _ _⟩
  have e : wr (h + 1) false (7, 0, false, [], ⟨#[]⟩, I, []) = [35, 40] ++ its (wr h false) [] I ++ [41] := by simp [wr]
  rw [e] at this
  exact this

set_option maxHeartbeats 8000000 in
set_option maxRecDepth 100000 in
theorem showLists_any (w : World) (h : Nat) (I : List (Tr h)) (r : Tr h) (v : Value) (c0 c1 c2 c3 c4 c5 c6 : Value) (dt : Bool) (htab : Tab w) (hI : RowD w (DatC w h) v I) (hr : DatC w h r [c0, c1, c2, c3, c4, c5, c6]) (hb : (I.map (bk h)).sum ≤ 2000000) (hbr : bk h r ≤ 2000000) :
    Calls Tryd.prog 5 #[v, .agg #[c0, c1, c2, c3, c4, c5, c6], .bool dt] w fun e w' => e = .returned (.bool true) ∧ Up w w' := by
  obtain ⟨ao, cap, rfl⟩ := hI.shape
  obtain ⟨kk, kn, kb, um, kt, ui, ur, he, ⟨x1, x2, x3, rfl⟩, ⟨y1, y2, y3, rfl⟩, ⟨z1, z2, z3, rfl⟩⟩ := hr.shapes
  simp at he
  obtain ⟨rfl, rfl, rfl, rfl, rfl, rfl, rfl⟩ := he
  have hlI : I.length ≤ 2000000 := Nat.le_trans (sum_ge (m := bk h) (l := I) (fun a _ => bk_one h a)) hb
  have hmem : ∀ (i : Nat) (hi : i < I.length), bk h I[i] ≤ 2000000 := fun i hi => by
    obtain ⟨l1, l2, e⟩ := List.append_of_mem (List.getElem_mem hi)
    have : (I.map (bk h)).sum = (l1.map (bk h)).sum + (bk h I[i] + (l2.map (bk h)).sum) := by
      conv => lhs; rw [e]
      simp
    omega
  obtain ⟨w1, hw1⟩ : ∃ w1, w1 = w.alloc (.cells #[.int .i64 kk, .int .i64 kn, .bool kb, .slice x1 x2 x3, .string kt, .slice y1 y2 y3, .slice z1 z2 z3] 27) := ⟨_, rfl⟩
  have u1 : Up w w1 := by rw [hw1]; exact up_alloc _ _
  have b1 : w1.heap[w.heap.size]? = some (.cells #[.int .i64 kk, .int .i64 kn, .bool kb, .slice x1 x2 x3, .string kt, .slice y1 y2 y3, .slice z1 z2 z3] 27 (0, 0)) := by rw [hw1]; exact heap_alloc_new _ _
  have hI1 := hI.upD u1
  have hlen := fun k => its_len hI1 false k
  have KW := fun (W : World) (u : Up w1 W) (i : Nat) (hi : i < I.length) (d0 d1 d2 d3 d4 d5 d6 : Value) (hd : DatC W h I[i] [d0, d1, d2, d3, d4, d5, d6]) => write_any W h I[i] d0 d1 d2 d3 d4 d5 d6 (htab.up (u1.tr u)) (by have := hmem i hi; omega) hd
  have KR := fun (W : World) (u : Up w1 W) (d0 d1 d2 d3 d4 d5 d6 : Value) (hd : DatC W h r [d0, d1, d2, d3, d4, d5, d6]) => write_any W h r d0 d1 d2 d3 d4 d5 d6 (htab.up (u1.tr u)) (by omega) hd
  have KL := fun (W : World) (u : Up w1 W) (R : List (Tr h)) (ui ur : Value) (hI' : RowD W (DatC W h) ui I) (hR' : RowD W (DatC W h) ur R) (hbR : (R.map (bk h)).sum ≤ 2000000) (hn : I ≠ [] ∨ R = []) => writeL W h I R ui ur (htab.up (u1.tr u)) hI' hR' (by omega) hn
  have KV := fun (W : World) (u : Up w1 W) (ui : Value) (hI' : RowD W (DatC W h) ui I) => writeV W h I ui (htab.up (u1.tr u)) hI' (by omega)
  have KA := fun (W : World) (u : Up w1 W) => awake_any W (htab.up (u1.tr u))
  have KC := fun (W : World) (u : Up w1 W) (i : Nat) (hi : i < I.length) (d0 d1 d2 d3 d4 d5 d6 : Value) (hd : DatC W h I[i] [d0, d1, d2, d3, d4, d5, d6]) => copy_all h I[i] d0 d1 d2 d3 d4 d5 d6 W hd (by have := hmem i hi; omega)
  have KD := fun (W : World) (u : Up w1 W) => copyAll_all h I (.slice ao I.length cap) W (hI1.upD u) (by omega)
  have KX := fun (W : World) (u : Up w1 W) => copy_all h r _ _ _ _ _ _ _ W ((hr.up u1).up u) (by omega)
  have hrl := wr_le h false r w _ hr
  generalize hF : wr h false = F at *
  clear hF
  have HI := hide hI1
  have HKW := hide KW
  have HKR := hide KR
  have HKL := hide KL
  have HKV := hide KV
  have HKA := hide KA
  have HKC := hide KC
  have HKD := hide KD
  have HKX := hide KX
  have HLN := hide (And.intro hlen (And.intro hb (And.intro hbr hrl)))
  have HU1 := hide u1
  have HB1 := hide b1
  have HW1 := hide hw1
  clear hI hI1 hr htab hmem hb hbr u1 b1 hw1 hlen KW KR KL KV KA KC KD KX hrl
  go_enter Tryd.func5, Tryd.ntmps5
  go_wp2_with fail
  rw [← HW1.out]
  go_loopw [7, 8] (fun a7 a8 w' => ∃ k : Nat, k ≤ I.length ∧ a8 = .int .i64 (k : Int) ∧ a7 = .string ⟨(its F [] (I.take k)).toArray⟩ ∧ Up w1 w') (fun _ a8 _ => I.length - (intOf a8).toNat)
  case atStart => exact ⟨0, Nat.zero_le _, rfl, by simp [its], Up.refl _⟩
  case round =>
    obtain ⟨k, hk, rfl, rfl, hU⟩ := hrel
    have HU := hide hU
    by_cases hlt : k < I.length
    · obtain ⟨b, off, rfl, ik, im, ib, jum, it, jui, jur, hdat, ⟨p1, p2, p3, rfl⟩, ⟨q1, q2, q3, rfl⟩, ⟨s1, s2, s3, rfl⟩, e0, e1, e2, e3, e4, e5, e6⟩ := row_cells HI.out hU hlt
      have K1 := HKC.out wr hU k hlt _ _ _ _ _ _ _ (hdat.up hU)
      have hl1 := HLN.out.1 k
      have hl2 := HLN.out.1 (k + 1)
      have hbb := HLN.out.2.1
      have eT := its_take F I hlt
      have hkI : (k : Int) < (I.length : Int) := by omega
      have HK1 := hide K1
      obtain ⟨S, hS⟩ : ∃ S, S = its F [] (I.take k) := ⟨_, rfl⟩
      obtain ⟨S', hS'⟩ : ∃ S', S' = its F [] (I.take (k + 1)) := ⟨_, rfl⟩
      obtain ⟨T, hT⟩ : ∃ T, T = F I[k] := ⟨_, rfl⟩
      rw [← hS, ← hS', ← hT] at eT
      rw [← hS] at hl1 ⊢
      rw [← hS'] at hl2
      have HS' := hide hS'
      have HTT := hide hT
      have z1 : (⟨S.toArray⟩ : ByteArray).size = S.length := by simp [ByteArray.size]
      have z2 : (⟨T.toArray⟩ : ByteArray).size = T.length := by simp [ByteArray.size]
      have l1 : S.length ≤ 1000000000 := by omega
      have l2 : T.length ≤ 1000000000 := by rw [eT] at hl2; simp at hl2; omega
      clear K1 hdat hU hS hS' hT hl1 hl2 hbb
      by_cases hk0 : k = 0
      · subst hk0
        simp only [Nat.zero_mul, Nat.add_zero] at e0 e1 e2 e3 e4 e5 e6
        have e7 : (⟨S.toArray⟩ : ByteArray) ++ ⟨T.toArray⟩ = ⟨S'.toArray⟩ := by rw [cat_bytes, eT]; simp
        have HE := hide e7
        clear eT e7
        go_wp2_with (first
          | (go_at_call 7; refine HK1.out.mono ?_; rintro e w2 ⟨d0, d1, d2, d3, d4, d5, d6, rfl, q2, u2⟩; have HQ2 := hide q2; have HU2 := hide u2; clear q2 u2)
          | (go_at_call 6; refine (HKW.out _ (HU.out.tr HU2.out) 0 hlt _ _ _ _ _ _ _ HQ2.out.dat).mono ?_; rw [← HTT.out]; rintro e w3 ⟨rfl, u3⟩; have HU3 := hide u3; clear u3))
        refine ⟨⟨0 + 1, by omega, by go_num, by rw [HE.out, HS'.out], HU.out.tr (HU2.out.tr HU3.out)⟩, ?_⟩
        simp [intOf]
        omega
      · have hk1 : 0 < (k : Int) := by omega
        have e7 : ((⟨S.toArray⟩ : ByteArray) ++ ⟨#[32]⟩) ++ ⟨T.toArray⟩ = ⟨S'.toArray⟩ := by rw [eT, if_neg hk0]; exact (congrArg (· ++ _) (cat_bytes S [32])).trans (cat_bytes _ _)
        have z3 : ((⟨S.toArray⟩ : ByteArray) ++ ⟨#[32]⟩).size = S.length + 1 := by rw [ByteArray.size_append, z1]; rfl
        have HE := hide e7
        clear eT e7
        go_wp2_with (first
          | (go_at_call 7; refine HK1.out.mono ?_; rintro e w2 ⟨d0, d1, d2, d3, d4, d5, d6, rfl, q2, u2⟩; have HQ2 := hide q2; have HU2 := hide u2; clear q2 u2)
          | (go_at_call 6; refine (HKW.out _ (HU.out.tr HU2.out) k hlt _ _ _ _ _ _ _ HQ2.out.dat).mono ?_; rw [← HTT.out]; rintro e w3 ⟨rfl, u3⟩; have HU3 := hide u3; clear u3))
        refine ⟨⟨k + 1, by omega, by go_num, by rw [HE.out, HS'.out], HU.out.tr (HU2.out.tr HU3.out)⟩, ?_⟩
        simp [intOf]
        omega
    · have hkK : k = I.length := by omega
      subst hkK
      have hl1 := HLN.out.1 I.length
      have hbb := HLN.out.2.1
      have hbr := HLN.out.2.2.1
      have hrl := HLN.out.2.2.2
      rw [List.take_length] at hl1 ⊢
      have hkI : ¬ ((I.length : Int) < (I.length : Int)) := by omega
      have K1 := HKL.out
      have K2 := HKV.out
      obtain ⟨S, hS⟩ : ∃ S, S = its F [] I := ⟨_, rfl⟩
      rw [← hS] at hl1 K1 K2 ⊢
      have sz1 : (⟨S.toArray⟩ : ByteArray).size = S.length := by simp [ByteArray.size]
      have l1 : S.length ≤ 1000000000 := by omega
      have eL : (⟨([40] ++ S ++ dotW F [] ++ [41]).toArray⟩ : ByteArray) = (⟨#[40]⟩ ++ ⟨S.toArray⟩) ++ ⟨#[41]⟩ := by
        refine Eq.trans ?_ (congrArg (· ++ (⟨#[41]⟩ : ByteArray)) (cat_bytes [40] S)).symm
        rw [show (⟨#[41]⟩ : ByteArray) = ⟨([41] : List UInt8).toArray⟩ from rfl, cat_bytes]
        simp [dotW]
      have eV : (⟨([35, 40] ++ S ++ [41]).toArray⟩ : ByteArray) = (⟨#[35, 40]⟩ ++ ⟨S.toArray⟩) ++ ⟨#[41]⟩ := by
        refine Eq.trans ?_ (congrArg (· ++ (⟨#[41]⟩ : ByteArray)) (cat_bytes [35, 40] S)).symm
        rw [show (⟨#[41]⟩ : ByteArray) = ⟨([41] : List UInt8).toArray⟩ from rfl, cat_bytes]
      have sz2 : ((⟨#[40]⟩ : ByteArray) ++ ⟨S.toArray⟩).size = S.length + 1 := by rw [ByteArray.size_append, sz1, Nat.add_comm]; rfl
      have sz3 : ((⟨#[35, 40]⟩ : ByteArray) ++ ⟨S.toArray⟩).size = S.length + 2 := by rw [ByteArray.size_append, sz1, Nat.add_comm]; rfl
      have KL0 := fun (W : World) (u : Up w1 W) (ui : Value) (hI' : RowD W (DatC W h) ui I) => K1 W u [] ui (.slice none 0 0) hI' (RowD.nil' _ _) (by simp) (.inr rfl)
      rw [eL] at KL0
      rw [eV] at K2
      have HL0 := hide KL0
      have HV0 := hide K2
      have HKL' := hide K1
      have HS := hide hS
      have HQ := hide (And.intro hl1 (And.intro hbb (And.intro hbr hrl)))
      clear hU KL0 K1 K2 hS eL eV hl1 hbb hbr hrl
      by_cases hcase : dt = true ∧ I ≠ []
      · obtain ⟨rfl, hne⟩ := hcase
        have hlp : 0 < I.length := List.length_pos_iff.2 hne
        have hlpI : (0 : Int) < (I.length : Int) := by omega
        go_wp2_with (first
          | (go_at_call 12; have h6 : Nat := g2; clear h6; refine (HKD.out _ (HU.out.tr (HU2.out.tr (up_alloc _ _)))).mono ?_; rintro e w4 ⟨v4, rfl, r4, -, u4⟩; obtain ⟨ao4, cap4, rfl⟩ := r4.shape; have HR4 := hide (r4.mono (fun _ _ h => h.dat)); have bL := Up.old (u4.tr (up_alloc w4 (.cells #[.int .i64 7, .int .i64 0, .bool false, .slice none 0 0, .string ⟨#[]⟩, .slice ao4 I.length cap4, .slice none 0 0] 27))) (heap_alloc_new w2 (.cells #[.int .i64 6, .int .i64 0, .bool false, .slice none 0 0, .string ⟨#[]⟩, .slice ao2 I.length cap2, .slice none 0 0] 27)); obtain ⟨n0, n1, n2, n3, n4, n5, n6⟩ := cells7 bL; have HBL := hide bL; have HBV := hide (heap_alloc_new w4 (.cells #[.int .i64 7, .int .i64 0, .bool false, .slice none 0 0, .string ⟨#[]⟩, .slice ao4 I.length cap4, .slice none 0 0] 27)); have HU24 := hide ((up_alloc w2 (.cells #[.int .i64 6, .int .i64 0, .bool false, .slice none 0 0, .string ⟨#[]⟩, .slice ao2 I.length cap2, .slice none 0 0] 27)).tr (u4.tr (up_alloc w4 (.cells #[.int .i64 7, .int .i64 0, .bool false, .slice none 0 0, .string ⟨#[]⟩, .slice ao4 I.length cap4, .slice none 0 0] 27)))); have HUV := hide (HU.out.tr (HU2.out.tr ((up_alloc w2 (.cells #[.int .i64 6, .int .i64 0, .bool false, .slice none 0 0, .string ⟨#[]⟩, .slice ao2 I.length cap2, .slice none 0 0] 27)).tr (u4.tr (up_alloc w4 (.cells #[.int .i64 7, .int .i64 0, .bool false, .slice none 0 0, .string ⟨#[]⟩, .slice ao4 I.length cap4, .slice none 0 0] 27)))))); have HRL := hide ((HR2.out.upD (up_alloc w2 (.cells #[.int .i64 6, .int .i64 0, .bool false, .slice none 0 0, .string ⟨#[]⟩, .slice ao2 I.length cap2, .slice none 0 0] 27))).upD (u4.tr (up_alloc w4 (.cells #[.int .i64 7, .int .i64 0, .bool false, .slice none 0 0, .string ⟨#[]⟩, .slice ao4 I.length cap4, .slice none 0 0] 27)))); have HRV := hide (HR4.out.upD (up_alloc w4 (.cells #[.int .i64 7, .int .i64 0, .bool false, .slice none 0 0, .string ⟨#[]⟩, .slice ao4 I.length cap4, .slice none 0 0] 27))); clear r4 u4 bL)
          | (go_at_call 12; refine (HKD.out _ HU.out).mono ?_; rintro e w2 ⟨v2, rfl, r2, -, u2⟩; obtain ⟨ao2, cap2, rfl⟩ := r2.shape; obtain ⟨g2, hg2⟩ : ∃ g, g = w2.heap.size := ⟨_, rfl⟩; have HR2 := hide (r2.mono (fun _ _ h => h.dat)); have HU2 := hide u2; have HG2 := hide hg2; clear r2 u2 hg2)
          | (go_at_call 6; have h6 : Nat := g5; clear h6; refine (HV0.out _ (HUV.out.tr HU5.out) _ (HRV.out.upD HU5.out)).mono ?_; rintro e w6 ⟨rfl, u6⟩; have HU56 := hide (HU5.out.tr u6); have HU6 := hide (HUV.out.tr (HU5.out.tr u6)); have bR := Up.old HU6.out HB1.out; obtain ⟨p0, p1, p2, p3, p4, p5, p6⟩ := cells7 bR; have HBR := hide bR; have HBL6 := hide (Up.old (HU5.out.tr u6) HBL.out); clear n0 n1 n2 n3 n4 n5 n6 u6 bR)
          | (go_at_call 9; refine (HKA.out _ HU6.out).mono ?_; rintro e w9 ⟨rfl, u9⟩)
          | (go_at_call 6; refine (HL0.out _ HUV.out _ HRL.out).mono ?_; rintro e w5 ⟨rfl, u5⟩; obtain ⟨g5, hg5⟩ : ∃ g, g = w5.heap.size := ⟨_, rfl⟩; have bV := Up.old u5 HBV.out; clear n0 n1 n2 n3 n4 n5 n6; obtain ⟨n0, n1, n2, n3, n4, n5, n6⟩ := cells7 bV; have HU5 := hide u5; have HG5 := hide hg5; clear u5 bV hg5))
        refine (HKX.out w6 HU6.out).mono ?_
        rintro e w7 ⟨d0, d1, d2, d3, d4, d5, d6, rfl, q7, u7⟩
        have bL7 := Up.old u7 HBL6.out
        have bLA := Up.old (up_alloc w7 (.cells #[d0, d1, d2, d3, d4, d5, d6] 27)) bL7
        have f6 := frozen_of_row _ _ 6 _ _ bLA
        have m6 := (cells7 bLA).2.2.2.2.2.2
        have m6' := (cells7 bL7).2.2.2.2.2.2
        have f6' := frozen_of_row _ _ 6 _ _ bL7
        have HQ7 := hide q7
        have HU7 := hide u7
        have HBL7 := hide bL7
        have HBLA := hide bLA
        clear q7 u7 bL7 bLA p0 p1 p2 p3 p4 p5 p6
        go_wp2_with fail
        have hs26 : w2.heap.size < w6.heap.size := (Array.getElem?_eq_some_iff.1 HBL6.out).1
        have hs67 := HU7.out.size
        have U28 : Up w2 ((w7.alloc (.cells #[d0, d1, d2, d3, d4, d5, d6] 27)).setCell ⟨w2.heap.size, 6, none⟩ (.slice (some ⟨w7.heap.size, 0, none⟩) 1 1)) := up_set (HU24.out.tr (HU56.out.tr (HU7.out.tr (up_alloc w7 _)))) (Nat.le_refl _) 6 _
        have bl8 := heap_setCell_same (w7.alloc (.cells #[d0, d1, d2, d3, d4, d5, d6] 27)) w2.heap.size 6 _ _ (.slice (some ⟨w7.heap.size, 0, none⟩) 1 1) HBLA.out
        have br8 := Up.old U28 (Up.old (HU.out.tr HU2.out) HB1.out)
        have bq8 : ((w7.alloc (.cells #[d0, d1, d2, d3, d4, d5, d6] 27)).setCell ⟨w2.heap.size, 6, none⟩ (.slice (some ⟨w7.heap.size, 0, none⟩) 1 1)).heap[w7.heap.size]? = some (.cells #[d0, d1, d2, d3, d4, d5, d6] 27 (0, 0)) := (heap_setCell_other _ _ _ _ (show w7.heap.size ≠ w2.heap.size from by omega)).trans (heap_alloc_new _ _)
        have q8 : DatC ((w7.alloc (.cells #[d0, d1, d2, d3, d4, d5, d6] 27)).setCell ⟨w2.heap.size, 6, none⟩ (.slice (some ⟨w7.heap.size, 0, none⟩) 1 1)) h r [d0, d1, d2, d3, d4, d5, d6] := (DatQ.keep (Q' := fun _ => True) (w := w7) (fun b hb hq => (heap_setCell_other _ _ _ _ (show b ≠ w2.heap.size from by omega)).trans (heap_alloc_old _ _ hb)) (fun _ _ _ => trivial) HQ7.out).dat
        have r8 := HR2.out.upD U28
        have u18 := (HU.out.tr HU2.out).tr U28
        clear m6 m6' f6 f6'
        generalize ((w7.alloc (.cells #[d0, d1, d2, d3, d4, d5, d6] 27)).setCell ⟨w2.heap.size, 6, none⟩ (.slice (some ⟨w7.heap.size, 0, none⟩) 1 1)) = W8 at *
        generalize w7.heap.size = g7 at *
        generalize hG : w2.heap.size = G at *
        clear hG
        have rr8 : RowD W8 (DatC W8 h) (.slice (some ⟨g7, 0, none⟩) 1 1) [r] := ⟨_, _, rfl, by simp, by decide, .inr ⟨g7, 0, rfl, fun i hi => by
          have hi0 : i = 0 := by simp at hi; omega
          subst hi0
          exact ⟨_, rfl, fun j hj => by rw [cell_of_row _ _ _ _ _ _ bq8]; match j, hj with | 0, _ | 1, _ | 2, _ | 3, _ | 4, _ | 5, _ | 6, _ => rfl, q8⟩⟩⟩
        have KLW := fun (W : World) (u : Up W8 W) => HKL'.out W (u18.tr u) [r] _ _ (r8.upD u) (rr8.upD u) (by simp; have := HQ.out.2.2.1; omega) (.inl hne)
        have KRW := HKR.out
        obtain ⟨T, hT⟩ : ∃ T, T = F r := ⟨_, rfl⟩
        have lT : T.length ≤ 1000000000 := by have := HQ.out.2.2.1; have := HQ.out.2.2.2; rw [hT]; omega
        rw [show dotW F [r] = [32, 46, 32] ++ F r from rfl, ← hT] at KLW
        rw [← hT] at KRW
        have zT : (⟨T.toArray⟩ : ByteArray).size = T.length := by simp [ByteArray.size]
        have eD : (⟨([40] ++ S ++ ([32, 46, 32] ++ T) ++ [41]).toArray⟩ : ByteArray) = (((⟨#[40]⟩ ++ ⟨S.toArray⟩) ++ ⟨#[32, 46, 32]⟩) ++ ⟨T.toArray⟩) ++ ⟨#[41]⟩ := by
          have a1 := cat_bytes [40] S
          have a2 := cat_bytes ([40] ++ S) [32, 46, 32]
          have a3 := cat_bytes ([40] ++ S ++ [32, 46, 32]) T
          have a4 := cat_bytes ([40] ++ S ++ [32, 46, 32] ++ T) [41]
          rw [show (⟨#[40]⟩ : ByteArray) = ⟨([40] : List UInt8).toArray⟩ from rfl, a1, show (⟨#[32, 46, 32]⟩ : ByteArray) = ⟨([32, 46, 32] : List UInt8).toArray⟩ from rfl, a2, a3, show (⟨#[41]⟩ : ByteArray) = ⟨([41] : List UInt8).toArray⟩ from rfl, a4]
          simp
        rw [eD] at KLW
        have sz4 : (((⟨#[40]⟩ : ByteArray) ++ ⟨S.toArray⟩) ++ ⟨#[32, 46, 32]⟩).size = S.length + 4 := by rw [ByteArray.size_append, sz2]; rfl
        have sz5 : ((((⟨#[40]⟩ : ByteArray) ++ ⟨S.toArray⟩) ++ ⟨#[32, 46, 32]⟩) ++ ⟨T.toArray⟩).size = S.length + 4 + T.length := by rw [ByteArray.size_append, sz4, zT]
        have ka1 : ¬ 9223372036854775807 < 1 + S.length := by omega
        have ka2 : ¬ 9223372036854775807 < S.length + 1 + 3 := by omega
        have ka3 : ¬ 9223372036854775807 < S.length + 4 := by omega
        have ka4 : ¬ 9223372036854775807 < S.length + 4 + T.length := by omega
        have ka5 : ¬ 9223372036854775807 < S.length + 4 + T.length + 1 := by omega
        obtain ⟨n0, n1, n2, n3, n4, n5, n6⟩ := cells7 bl8
        obtain ⟨p0, p1, p2, p3, p4, p5, p6⟩ := cells7 br8
        have HBl8 := hide bl8
        have HBr8 := hide br8
        have HLW := hide KLW
        have HRW := hide KRW
        have H18 := hide u18
        have HUW : Hid (Up W8 W8.drew) := hide (up_drew W8)
        clear bl8 br8 bq8 q8 r8 rr8 KLW KRW u18 U28 hT eD hs26 hs67
        go_region_held3 (fun w' => Hid (Up W8 w') ∧ w'.cell? ⟨G, 0, none⟩ = some (.int .i64 6) ∧ w'.cell? ⟨G, 1, none⟩ = some (.int .i64 0) ∧ w'.cell? ⟨G, 2, none⟩ = some (.bool false) ∧ w'.cell? ⟨G, 3, none⟩ = some (.slice none 0 0) ∧ w'.cell? ⟨G, 4, none⟩ = some (.string ⟨#[]⟩) ∧ w'.cell? ⟨G, 5, none⟩ = some (.slice ao2 I.length cap2) ∧ w'.cell? ⟨G, 6, none⟩ = some (.slice (some ⟨g7, 0, none⟩) 1 1) ∧ w'.cell? ⟨w.heap.size, 0, none⟩ = some (.int .i64 kk) ∧ w'.cell? ⟨w.heap.size, 1, none⟩ = some (.int .i64 kn) ∧ w'.cell? ⟨w.heap.size, 2, none⟩ = some (.bool kb) ∧ w'.cell? ⟨w.heap.size, 3, none⟩ = some (.slice x1 x2 x3) ∧ w'.cell? ⟨w.heap.size, 4, none⟩ = some (.string kt) ∧ w'.cell? ⟨w.heap.size, 5, none⟩ = some (.slice y1 y2 y3) ∧ w'.cell? ⟨w.heap.size, 6, none⟩ = some (.slice z1 z2 z3)) (first | (refine ⟨?_, ?_, ?_, ?_, ?_, ?_, ?_, ?_, ?_, ?_, ?_, ?_, ?_, ?_, ?_⟩ <;> assumption) | go_keep)
          (first
            | (go_at_call 6; with_reducible (show Calls _ _ #[Value.agg #[Value.int .i64 6, Value.int .i64 0, _, _, _, _, _]] _ _); refine (HLW.out _ ?hu).mono ?_; (case hu => exact Hid.out (by assumption)); rintro e wa ⟨rfl, ua⟩; (try (have HQb := hide (HQb.out.up ua))); have HUa : Hid (Up W8 wa) := hide (Up.tr (Hid.out (by assumption)) ua); obtain ⟨n0, n1, n2, n3, n4, n5, n6⟩ := cells7 (Up.old HUa.out HBl8.out); obtain ⟨p0, p1, p2, p3, p4, p5, p6⟩ := cells7 (Up.old HUa.out HBr8.out); clear ua)
            | (go_at_call 7; refine (HKX.out _ ?hu).mono ?_; (case hu => exact H18.out.tr (Hid.out (by assumption))); rintro e wb ⟨e0, e1, e2, e3, e4, e5, e6, rfl, qb, ub⟩; have HQb := hide qb.dat; have HUb : Hid (Up W8 wb) := hide (Up.tr (Hid.out (by assumption)) ub); obtain ⟨n0, n1, n2, n3, n4, n5, n6⟩ := cells7 (Up.old HUb.out HBl8.out); obtain ⟨p0, p1, p2, p3, p4, p5, p6⟩ := cells7 (Up.old HUb.out HBr8.out); clear ub qb)
            | (go_at_call 6; refine (HRW.out _ ?hu _ _ _ _ _ _ _ HQb.out).mono ?_; (case hu => exact H18.out.tr (Hid.out (by assumption))); rintro e wc ⟨rfl, uc⟩; have HUc : Hid (Up W8 wc) := hide (Up.tr (Hid.out (by assumption)) uc); obtain ⟨n0, n1, n2, n3, n4, n5, n6⟩ := cells7 (Up.old HUc.out HBl8.out); obtain ⟨p0, p1, p2, p3, p4, p5, p6⟩ := cells7 (Up.old HUc.out HBr8.out); clear uc)
            | (go_at_call 9; refine (HKA.out _ ?hu).mono ?_; (case hu => exact H18.out.tr (Hid.out (by assumption))); rintro e wd ⟨rfl, ud⟩; have HUd : Hid (Up W8 wd) := hide (Up.tr (Hid.out (by assumption)) ud); obtain ⟨n0, n1, n2, n3, n4, n5, n6⟩ := cells7 (Up.old HUd.out HBl8.out); obtain ⟨p0, p1, p2, p3, p4, p5, p6⟩ := cells7 (Up.old HUd.out HBr8.out); clear ud))
        all_goals (go_wp2; go_ret; exact ⟨rfl, HU1.out.tr (H18.out.tr HUd.out)⟩)
      · have hcase2 : dt = false ∨ (dt = true ∧ I.length = 0) := by
          cases dt with
          | false => exact .inl rfl
          | true => exact .inr ⟨rfl, by
              cases I with
              | nil => rfl
              | cons a l => exact absurd ⟨rfl, by simp⟩ hcase⟩
        clear hcase
        rcases hcase2 with rfl | ⟨rfl, hl0⟩
        · go_wp2_with (first
            | (go_at_call 12; have h6 : Nat := g2; clear h6; refine (HKD.out _ (HU.out.tr (HU2.out.tr (up_alloc _ _)))).mono ?_; rintro e w4 ⟨v4, rfl, r4, -, u4⟩; obtain ⟨ao4, cap4, rfl⟩ := r4.shape; have HR4 := hide (r4.mono (fun _ _ h => h.dat)); have bL := Up.old (u4.tr (up_alloc w4 (.cells #[.int .i64 7, .int .i64 0, .bool false, .slice none 0 0, .string ⟨#[]⟩, .slice ao4 I.length cap4, .slice none 0 0] 27))) (heap_alloc_new w2 (.cells #[.int .i64 6, .int .i64 0, .bool false, .slice none 0 0, .string ⟨#[]⟩, .slice ao2 I.length cap2, .slice none 0 0] 27)); obtain ⟨n0, n1, n2, n3, n4, n5, n6⟩ := cells7 bL; have HBL := hide bL; have HBV := hide (heap_alloc_new w4 (.cells #[.int .i64 7, .int .i64 0, .bool false, .slice none 0 0, .string ⟨#[]⟩, .slice ao4 I.length cap4, .slice none 0 0] 27)); have HU24 := hide ((up_alloc w2 (.cells #[.int .i64 6, .int .i64 0, .bool false, .slice none 0 0, .string ⟨#[]⟩, .slice ao2 I.length cap2, .slice none 0 0] 27)).tr (u4.tr (up_alloc w4 (.cells #[.int .i64 7, .int .i64 0, .bool false, .slice none 0 0, .string ⟨#[]⟩, .slice ao4 I.length cap4, .slice none 0 0] 27)))); have HUV := hide (HU.out.tr (HU2.out.tr ((up_alloc w2 (.cells #[.int .i64 6, .int .i64 0, .bool false, .slice none 0 0, .string ⟨#[]⟩, .slice ao2 I.length cap2, .slice none 0 0] 27)).tr (u4.tr (up_alloc w4 (.cells #[.int .i64 7, .int .i64 0, .bool false, .slice none 0 0, .string ⟨#[]⟩, .slice ao4 I.length cap4, .slice none 0 0] 27)))))); have HRL := hide ((HR2.out.upD (up_alloc w2 (.cells #[.int .i64 6, .int .i64 0, .bool false, .slice none 0 0, .string ⟨#[]⟩, .slice ao2 I.length cap2, .slice none 0 0] 27))).upD (u4.tr (up_alloc w4 (.cells #[.int .i64 7, .int .i64 0, .bool false, .slice none 0 0, .string ⟨#[]⟩, .slice ao4 I.length cap4, .slice none 0 0] 27)))); have HRV := hide (HR4.out.upD (up_alloc w4 (.cells #[.int .i64 7, .int .i64 0, .bool false, .slice none 0 0, .string ⟨#[]⟩, .slice ao4 I.length cap4, .slice none 0 0] 27))); clear r4 u4 bL)
            | (go_at_call 12; refine (HKD.out _ HU.out).mono ?_; rintro e w2 ⟨v2, rfl, r2, -, u2⟩; obtain ⟨ao2, cap2, rfl⟩ := r2.shape; obtain ⟨g2, hg2⟩ : ∃ g, g = w2.heap.size := ⟨_, rfl⟩; have HR2 := hide (r2.mono (fun _ _ h => h.dat)); have HU2 := hide u2; have HG2 := hide hg2; clear r2 u2 hg2)
            | (go_at_call 6; have h6 : Nat := g5; clear h6; refine (HV0.out _ (HUV.out.tr HU5.out) _ (HRV.out.upD HU5.out)).mono ?_; rintro e w6 ⟨rfl, u6⟩; have HU56 := hide (HU5.out.tr u6); have HU6 := hide (HUV.out.tr (HU5.out.tr u6)); have bR := Up.old HU6.out HB1.out; obtain ⟨p0, p1, p2, p3, p4, p5, p6⟩ := cells7 bR; have HBR := hide bR; have HBL6 := hide (Up.old (HU5.out.tr u6) HBL.out); clear n0 n1 n2 n3 n4 n5 n6 u6 bR)
            | (go_at_call 9; refine (HKA.out _ HU6.out).mono ?_; rintro e w9 ⟨rfl, u9⟩)
            | (go_at_call 6; refine (HL0.out _ HUV.out _ HRL.out).mono ?_; rintro e w5 ⟨rfl, u5⟩; obtain ⟨g5, hg5⟩ : ∃ g, g = w5.heap.size := ⟨_, rfl⟩; have bV := Up.old u5 HBV.out; clear n0 n1 n2 n3 n4 n5 n6; obtain ⟨n0, n1, n2, n3, n4, n5, n6⟩ := cells7 bV; have HU5 := hide u5; have HG5 := hide hg5; clear u5 bV hg5))
          go_ret
          exact ⟨rfl, HU1.out.tr (HU6.out.tr u9)⟩
        · have hlN : ¬ (0 : Int) < (I.length : Int) := by omega
          clear hl0
          go_wp2_with (first
            | (go_at_call 12; have h6 : Nat := g2; clear h6; refine (HKD.out _ (HU.out.tr (HU2.out.tr (up_alloc _ _)))).mono ?_; rintro e w4 ⟨v4, rfl, r4, -, u4⟩; obtain ⟨ao4, cap4, rfl⟩ := r4.shape; have HR4 := hide (r4.mono (fun _ _ h => h.dat)); have bL := Up.old (u4.tr (up_alloc w4 (.cells #[.int .i64 7, .int .i64 0, .bool false, .slice none 0 0, .string ⟨#[]⟩, .slice ao4 I.length cap4, .slice none 0 0] 27))) (heap_alloc_new w2 (.cells #[.int .i64 6, .int .i64 0, .bool false, .slice none 0 0, .string ⟨#[]⟩, .slice ao2 I.length cap2, .slice none 0 0] 27)); obtain ⟨n0, n1, n2, n3, n4, n5, n6⟩ := cells7 bL; have HBL := hide bL; have HBV := hide (heap_alloc_new w4 (.cells #[.int .i64 7, .int .i64 0, .bool false, .slice none 0 0, .string ⟨#[]⟩, .slice ao4 I.length cap4, .slice none 0 0] 27)); have HU24 := hide ((up_alloc w2 (.cells #[.int .i64 6, .int .i64 0, .bool false, .slice none 0 0, .string ⟨#[]⟩, .slice ao2 I.length cap2, .slice none 0 0] 27)).tr (u4.tr (up_alloc w4 (.cells #[.int .i64 7, .int .i64 0, .bool false, .slice none 0 0, .string ⟨#[]⟩, .slice ao4 I.length cap4, .slice none 0 0] 27)))); have HUV := hide (HU.out.tr (HU2.out.tr ((up_alloc w2 (.cells #[.int .i64 6, .int .i64 0, .bool false, .slice none 0 0, .string ⟨#[]⟩, .slice ao2 I.length cap2, .slice none 0 0] 27)).tr (u4.tr (up_alloc w4 (.cells #[.int .i64 7, .int .i64 0, .bool false, .slice none 0 0, .string ⟨#[]⟩, .slice ao4 I.length cap4, .slice none 0 0] 27)))))); have HRL := hide ((HR2.out.upD (up_alloc w2 (.cells #[.int .i64 6, .int .i64 0, .bool false, .slice none 0 0, .string ⟨#[]⟩, .slice ao2 I.length cap2, .slice none 0 0] 27))).upD (u4.tr (up_alloc w4 (.cells #[.int .i64 7, .int .i64 0, .bool false, .slice none 0 0, .string ⟨#[]⟩, .slice ao4 I.length cap4, .slice none 0 0] 27)))); have HRV := hide (HR4.out.upD (up_alloc w4 (.cells #[.int .i64 7, .int .i64 0, .bool false, .slice none 0 0, .string ⟨#[]⟩, .slice ao4 I.length cap4, .slice none 0 0] 27))); clear r4 u4 bL)
            | (go_at_call 12; refine (HKD.out _ HU.out).mono ?_; rintro e w2 ⟨v2, rfl, r2, -, u2⟩; obtain ⟨ao2, cap2, rfl⟩ := r2.shape; obtain ⟨g2, hg2⟩ : ∃ g, g = w2.heap.size := ⟨_, rfl⟩; have HR2 := hide (r2.mono (fun _ _ h => h.dat)); have HU2 := hide u2; have HG2 := hide hg2; clear r2 u2 hg2)
            | (go_at_call 6; have h6 : Nat := g5; clear h6; refine (HV0.out _ (HUV.out.tr HU5.out) _ (HRV.out.upD HU5.out)).mono ?_; rintro e w6 ⟨rfl, u6⟩; have HU56 := hide (HU5.out.tr u6); have HU6 := hide (HUV.out.tr (HU5.out.tr u6)); have bR := Up.old HU6.out HB1.out; obtain ⟨p0, p1, p2, p3, p4, p5, p6⟩ := cells7 bR; have HBR := hide bR; have HBL6 := hide (Up.old (HU5.out.tr u6) HBL.out); clear n0 n1 n2 n3 n4 n5 n6 u6 bR)
            | (go_at_call 9; refine (HKA.out _ HU6.out).mono ?_; rintro e w9 ⟨rfl, u9⟩)
            | (go_at_call 6; refine (HL0.out _ HUV.out _ HRL.out).mono ?_; rintro e w5 ⟨rfl, u5⟩; obtain ⟨g5, hg5⟩ : ∃ g, g = w5.heap.size := ⟨_, rfl⟩; have bV := Up.old u5 HBV.out; clear n0 n1 n2 n3 n4 n5 n6; obtain ⟨n0, n1, n2, n3, n4, n5, n6⟩ := cells7 bV; have HU5 := hide u5; have HG5 := hide hg5; clear u5 bV hg5))
          go_ret
          exact ⟨rfl, HU1.out.tr (HU6.out.tr u9)⟩

end Go.Proofs.YtedhknfgliepeaaDoor
