/-
  What is proved here: tandemref06's Text: a text as it is written.
-/
import Derived.Test.YtedhknfgliepeaaDoorSRefB
namespace Go.Proofs.YtedhknfgliepeaaDoor
open Go Go.RowKit

theorem RT.conv {w : World} {v : Value} {S : List UInt8} {W : World} (h : RT w v S W) : (convert 39 9 v).run Tryd.prog W = .ok (.string ⟨S.toArray⟩) W := by
  rcases h.own.2 with ⟨rfl, e0⟩ | ⟨g, cap, cur, rfl, _, h2, h3, _, h5, h6⟩
  · have hS : S = [] := List.eq_nil_of_length_eq_zero e0
    subst hS
    exact run_convert_bytes_nil W 39 5 Tryd.underlying39 Tryd.underlying5 0 0 9 Tryd.underlying9
  · exact run_convert_bytes_back (P := Tryd.prog) W 39 9 5 ⟨g, 0, none⟩ cap S Tryd.underlying39 Tryd.underlying5 Tryd.underlying9 (fun j hj => by
      have := h.own.cells (g := g) rfl j (.int .u8 S[j].toNat) (by simp [Lib.byteCells, hj])
      exact this)

set_option maxHeartbeats 8000000 in
set_option maxRecDepth 100000 in
theorem rText_any (s : ByteArray) (hs : s.size ≤ 10000000) (w : World) :
    Calls Tryd.prog 21 #[.string s] w fun e w' => e = .returned (.string ⟨([34] ++ tsW s.data.toList ++ [34]).toArray⟩) ∧ Up w w' := by
  have hsz := bytes_len s
  have R0 : RT w (.slice (some ⟨w.heap.size, 0, none⟩) 1 1) [34] (w.alloc (.cells #[.int .u8 34] 5)) := ⟨up_alloc w _, rfl, .inr ⟨w.heap.size, 1, _, rfl, Nat.le_refl _, heap_alloc_new w _, by decide, by decide, rfl, rfl⟩⟩
  have HR0 := hide R0
  clear R0
  go_enter Tryd.func21, Tryd.ntmps21
  go_wp2_with fail
  go_loopw [3, 4] (fun a3 a4 w' => ∃ k : Nat, k ≤ s.size ∧ a4 = .int .i64 (k : Int) ∧ RT w a3 ([34] ++ tsW (s.data.toList.take k)) w') (fun _ a4 _ => s.size - (intOf a4).toNat)
  case atStart => exact ⟨0, Nat.zero_le _, rfl, by simpa [tsW] using HR0.out⟩
  case round =>
    obtain ⟨k, hk, rfl, hR⟩ := hrel
    obtain ⟨ao, cap, rfl⟩ := hR.shape
    have hle := tsW_le (s.data.toList.take k)
    rw [List.length_take] at hle
    by_cases hlt : k < s.size
    · have hlt' : k < s.data.toList.length := by omega
      have e2 := tsW_take s.data.toList hlt'
      have e4 : s[k] = s.data.toList[k] := by simp [ByteArray.getElem_eq_getElem_data]
      rw [← e4] at e2
      obtain ⟨b, hb⟩ : ∃ b, b = s[k] := ⟨_, rfl⟩
      rw [← hb] at e2
      have cx : s[k].toNat = b.toNat := by rw [hb]
      have hkI : (k : Int) < (s.size : Int) := by omega
      obtain ⟨S, hS⟩ : ∃ S, S = [34] ++ tsW (s.data.toList.take k) := ⟨_, rfl⟩
      have e5 : [34] ++ tsW (s.data.toList.take (k + 1)) = S ++ tbW b := by rw [e2, hS]; simp
      have hSl : S.length ≤ 100000000 := by rw [hS]; simp only [List.length_append, List.length_singleton]; omega
      rw [← hS] at hR ⊢
      have HR := hide hR
      have HE := hide e5
      have KT := fun W => rtwo_any (b.toNat : Int) W
      unfold tbW at HE
      obtain ⟨n, hn⟩ : ∃ n, n = b.toNat := ⟨_, rfl⟩
      have hb256 : n < 256 := by rw [hn]; exact b.toNat_lt
      have q34 : b = 34 ↔ n = 34 := by rw [hn]; exact UInt8.toNat_inj.symm
      have q92 : b = 92 ↔ n = 92 := by rw [hn]; exact UInt8.toNat_inj.symm
      have q10 : b = 10 ↔ n = 10 := by rw [hn]; exact UInt8.toNat_inj.symm
      have q9 : b = 9 ↔ n = 9 := by rw [hn]; exact UInt8.toNat_inj.symm
      have q32 : b < 32 ↔ n < 32 := by rw [hn]; exact UInt8.lt_iff_toNat_lt
      have q126 : 126 < b ↔ 126 < n := by rw [hn]; exact UInt8.lt_iff_toNat_lt
      rw [← hn] at KT cx HE
      simp only [q34, q92, q10, q9, q32, q126] at HE
      have HT := hide KT
      have HNB := hide hn
      clear q34 q92 q10 q9 q32 q126 KT hn e2 e4 e5 hb hR hS hle
      by_cases h1 : n = 34 ∨ n = 92
      · rw [if_pos h1] at HE
        rcases h1 with rfl | rfl
        · go_wp2_with (at_builtin; refine rt_app (l := [92, b]) HR.out (by simp [Lib.byteCells, ← HNB.out]) (by simp) (by simp; omega) rfl _ _ rfl rfl _ rfl ?_; intro g9 cap9 w9 h9)
          refine ⟨⟨k + 1, by omega, by go_num, by rw [HE.out]; exact h9⟩, ?_⟩
          simp [intOf]
          omega
        · go_wp2_with (at_builtin; refine rt_app (l := [92, b]) HR.out (by simp [Lib.byteCells, ← HNB.out]) (by simp) (by simp; omega) rfl _ _ rfl rfl _ rfl ?_; intro g9 cap9 w9 h9)
          refine ⟨⟨k + 1, by omega, by go_num, by rw [HE.out]; exact h9⟩, ?_⟩
          simp [intOf]
          omega
      rw [if_neg h1] at HE
      have h11 : ¬ n = 34 := fun e => h1 (.inl e)
      have h12 : ¬ n = 92 := fun e => h1 (.inr e)
      have i11 : ¬ (n : Int) = 34 := by omega
      have i12 : ¬ (n : Int) = 92 := by omega
      have b11 : ((n : Int) == 34) = false := by simpa using i11
      have b12 : ((n : Int) == 92) = false := by simpa using i12
      have d11 : (n == 34) = false := by simpa using h11
      have d12 : (n == 92) = false := by simpa using h12
      clear h1
      by_cases h2 : n = 10
      · rw [if_pos h2] at HE
        subst h2
        go_wp2_with (at_builtin; refine rt_app (l := [92, 110]) HR.out (by simp [Lib.byteCells]) (by simp) (by simp; omega) rfl _ _ rfl rfl _ rfl ?_; intro g9 cap9 w9 h9)
        refine ⟨⟨k + 1, by omega, by go_num, by rw [HE.out]; exact h9⟩, ?_⟩
        simp [intOf]
        omega
      rw [if_neg h2] at HE
      by_cases h3 : n = 9
      · rw [if_pos h3] at HE
        subst h3
        go_wp2_with (at_builtin; refine rt_app (l := [92, 116]) HR.out (by simp [Lib.byteCells]) (by simp) (by simp; omega) rfl _ _ rfl rfl _ rfl ?_; intro g9 cap9 w9 h9)
        refine ⟨⟨k + 1, by omega, by go_num, by rw [HE.out]; exact h9⟩, ?_⟩
        simp [intOf]
        omega
      rw [if_neg h3] at HE
      have i2 : ¬ (n : Int) = 10 := by omega
      have i3 : ¬ (n : Int) = 9 := by omega
      by_cases h4 : n < 32 ∨ 126 < n
      · rw [if_pos h4] at HE
        have em : ((n : Int) % 256).toNat = n := by omega
        have K2 := HT.out
        rw [em] at K2
        unfold two at HE K2
        generalize hexd (n / 16) = x at *
        generalize hexd (n % 16) = y at *
        have HK2 := hide K2
        clear K2 em
        rcases Nat.lt_or_ge n 32 with h5 | h5
        · clear h4
          have i5 : (n : Int) < 32 := by omega
          go_wp2_with (first
            | (at_builtin; have h6 : Nat := g2; clear h6; refine rt_app4 (l := [59]) (m := S.length + 4) H3.out (by simp) (by simp [Lib.byteCells]) (by simp) (by simp; omega) rfl _ _ rfl rfl _ rfl ?_; intro g9 cap9 w9 h9)
            | (at_builtin; refine rt_app (l := [92, 120]) HR.out (by simp [Lib.byteCells]) (by simp) (by simp; omega) rfl _ _ rfl rfl _ rfl ?_; intro g1 cap1 w1 h1; have H1 := hide h1; clear h1)
            | (go_at_call 32; refine (HK2.out _).mono ?_; rintro e w2 ⟨rfl, u2⟩; have H2 := hide (H1.out.more u2); clear u2)
            | (at_builtin; refine rt_appS H2.out (by show _ + 2 ≤ _; simp only [List.length_append, List.length_cons, List.length_nil]; omega) rfl _ _ rfl rfl rfl ?_; intro v3 w3 h3; have h4 : RT w v3 (S ++ [92, 120, x, y]) w3 := (by simpa using h3); obtain ⟨ao3, cap3, ev⟩ := h4.shape; rw [show (S ++ [92, 120, x, y]).length = S.length + 4 from (by simp)] at ev; subst ev; obtain ⟨g2, hg2⟩ : ∃ g, g = w3.heap.size := ⟨_, rfl⟩; have H3 := hide h4; have HG := hide hg2; clear h3 h4 hg2))
          refine ⟨⟨k + 1, by omega, by go_num, by rw [HE.out]; simpa using h9⟩, ?_⟩
          simp [intOf]
          omega
        · have h6 : 127 ≤ n := by omega
          clear h4
          have i5 : ¬ (n : Int) < 32 := by omega
          have i6 : (127 : Int) ≤ (n : Int) := by omega
          go_wp2_with (first
            | (at_builtin; have h6 : Nat := g2; clear h6; refine rt_app4 (l := [59]) (m := S.length + 4) H3.out (by simp) (by simp [Lib.byteCells]) (by simp) (by simp; omega) rfl _ _ rfl rfl _ rfl ?_; intro g9 cap9 w9 h9)
            | (at_builtin; refine rt_app (l := [92, 120]) HR.out (by simp [Lib.byteCells]) (by simp) (by simp; omega) rfl _ _ rfl rfl _ rfl ?_; intro g1 cap1 w1 h1; have H1 := hide h1; clear h1)
            | (go_at_call 32; refine (HK2.out _).mono ?_; rintro e w2 ⟨rfl, u2⟩; have H2 := hide (H1.out.more u2); clear u2)
            | (at_builtin; refine rt_appS H2.out (by show _ + 2 ≤ _; simp only [List.length_append, List.length_cons, List.length_nil]; omega) rfl _ _ rfl rfl rfl ?_; intro v3 w3 h3; have h4 : RT w v3 (S ++ [92, 120, x, y]) w3 := (by simpa using h3); obtain ⟨ao3, cap3, ev⟩ := h4.shape; rw [show (S ++ [92, 120, x, y]).length = S.length + 4 from (by simp)] at ev; subst ev; obtain ⟨g2, hg2⟩ : ∃ g, g = w3.heap.size := ⟨_, rfl⟩; have H3 := hide h4; have HG := hide hg2; clear h3 h4 hg2))
          refine ⟨⟨k + 1, by omega, by go_num, by rw [HE.out]; simpa using h9⟩, ?_⟩
          simp [intOf]
          omega
      rw [if_neg h4] at HE
      have h5 : ¬ n < 32 := by omega
      have h6 : ¬ 127 ≤ n := by omega
      have i5 : ¬ (n : Int) < 32 := by omega
      have i6 : ¬ (127 : Int) ≤ (n : Int) := by omega
      clear h4
      go_wp2_with (at_builtin; refine rt_app (l := [b]) HR.out (by simp [Lib.byteCells, ← HNB.out]) (by simp) (by simp; omega) rfl _ _ rfl rfl _ rfl ?_; intro g9 cap9 w9 h9)
      refine ⟨⟨k + 1, by omega, by go_num, by rw [HE.out]; exact h9⟩, ?_⟩
      simp [intOf]
      omega
    · have hkK : k = s.size := by omega
      subst hkK
      have e5 : s.data.toList.take s.size = s.data.toList := List.take_of_length_le (by omega)
      rw [e5] at hR
      rw [e5]
      have hkI : ¬ ((s.size : Int) < (s.size : Int)) := by omega
      obtain ⟨S, hS⟩ : ∃ S, S = [34] ++ tsW s.data.toList := ⟨_, rfl⟩
      have hSl : S.length ≤ 100000000 := by rw [hS]; have := tsW_le s.data.toList; simp only [List.length_append, List.length_singleton]; omega
      rw [← hS] at hR ⊢
      have HR := hide hR
      have HSS := hide hS
      clear hR hS e5 hle
      go_wp2_with (at_builtin; refine rt_app (l := [34]) HR.out (by simp [Lib.byteCells]) (by simp) (by simp; omega) rfl _ _ rfl rfl _ rfl ?_; intro g9 cap9 w9 h9; have kc := h9.conv; simp only [List.length_cons, List.length_nil, Nat.zero_add] at kc; have H9 := hide h9.up; clear h9)
      go_ret
      exact ⟨by rw [HSS.out]; simp, H9.out⟩

end Go.Proofs.YtedhknfgliepeaaDoor
