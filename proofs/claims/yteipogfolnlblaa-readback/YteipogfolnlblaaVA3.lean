/-
  What is proved here: tandemref06's two, char. bytes that are put together in new memory. tandemref06's Text: a text as it is written. tandemref06's many, given its text of one datum.
-/
import Derived.Test.YteipogfolnlblaaVA1
import Derived.Test.YteipogfolnlblaaVA2
namespace Go.Proofs.Yteipogfolnlblaa
open Go Go.RowKit

theorem hex_cut (k : Nat) (hk : k < 16) : (⟨#[48, 49, 50, 51, 52, 53, 54, 55, 56, 57, 97, 98, 99, 100, 101, 102]⟩ : ByteArray).extract k (k + 1) = ⟨#[hexd k]⟩ := by
  have : k = 0 ∨ k = 1 ∨ k = 2 ∨ k = 3 ∨ k = 4 ∨ k = 5 ∨ k = 6 ∨ k = 7 ∨ k = 8 ∨ k = 9 ∨ k = 10 ∨ k = 11 ∨ k = 12 ∨ k = 13 ∨ k = 14 ∨ k = 15 := by omega
  rcases this with rfl | rfl | rfl | rfl | rfl | rfl | rfl | rfl | rfl | rfl | rfl | rfl | rfl | rfl | rfl | rfl <;> decide

set_option maxHeartbeats 2000000 in
set_option maxRecDepth 100000 in
theorem rtwo_any (n : Int) (w : World) :
    Calls Try.prog 67 #[.int .i64 n] w fun e w' => e = .returned (.string ⟨(two (n % 256).toNat).toArray⟩) ∧ Up w w' := by
  obtain ⟨m, hm⟩ : ∃ m : Nat, m = (n % 256).toNat := ⟨_, rfl⟩
  have hm256 : m < 256 := by omega
  rw [← hm]
  have l0 : 0 ≤ (m : Int) % 16 := by omega
  have l1 : (m : Int) % 16 + 1 ≤ 16 := by omega
  have l2 : ((m : Int) % 16).toNat = m % 16 := by omega
  have l3 : ((m : Int) % 16 + 1).toNat = m % 16 + 1 := by omega
  have u0 : 0 ≤ (m : Int) / 16 := by omega
  have u1 : (m : Int) / 16 + 1 ≤ 16 := by omega
  have u2 : ((m : Int) / 16).toNat = m / 16 := by omega
  have u3 : ((m : Int) / 16 + 1).toNat = m / 16 + 1 := by omega
  have t1 : (m : Int).tdiv 16 = (m : Int) / 16 := Int.tdiv_eq_ediv_of_nonneg (by omega)
  have t2 : (m : Int).tmod 16 = (m : Int) % 16 := Int.tmod_eq_emod_of_nonneg (by omega)
  have x1 := hex_cut (m / 16) (by omega)
  have x2 := hex_cut (m % 16) (by omega)
  have hcase : (n.tmod 256 = (m : Int)) ∨ (n.tmod 256 < 0 ∧ n.tmod 256 + 256 = (m : Int)) := by
    rcases Int.lt_or_le n 0 with hn | hn
    · have h1 := Int.tmod_eq_emod (a := n) (b := 256)
      have h2 := Int.emod_lt_of_pos n (show (0 : Int) < 256 by decide)
      have h3 := Int.emod_nonneg n (show (256 : Int) ≠ 0 by decide)
      by_cases hd : (256 : Int) ∣ n
      · left
        have : n % 256 = 0 := Int.emod_eq_zero_of_dvd hd
        rw [h1]
        simp [hd]
        omega
      · right
        rw [h1]
        have hn' : ¬ 0 ≤ n := by omega
        simp [hd, hn']
        omega
    · left
      rw [Int.tmod_eq_emod_of_nonneg hn]
      omega
  unfold two
  have HM := hide hm
  clear hm
  have hmn : ¬ (m : Int) < 0 := by omega
  have w1 : IntKind.i64.wrap ((m : Int) / 16 + 1) = (m : Int) / 16 + 1 := by simp only [IntKind.wrap, IntKind.bits, IntKind.signed]; simp; omega
  have w2 : IntKind.i64.wrap ((m : Int) % 16 + 1) = (m : Int) % 16 + 1 := by simp only [IntKind.wrap, IntKind.bits, IntKind.signed]; simp; omega
  have v1 : (m : Int) / 16 ≤ (m : Int) / 16 + 1 := by omega
  have v2 : (m : Int) % 16 ≤ (m : Int) % 16 + 1 := by omega
  rcases hcase with hr | ⟨hr1, hr2⟩
  · go_enter Try.func67, Try.ntmps67
    go_wp2
    go_region
    all_goals (go_wp2; go_ret; exact ⟨rfl, up_drew w⟩)
  · generalize hr : n.tmod 256 = r at *
    have w3 : IntKind.i64.wrap (r + 256) = (m : Int) := by rw [hr2]; simp only [IntKind.wrap, IntKind.bits, IntKind.signed]; simp; omega
    have w4 : wrap64 (r + 256) = (m : Int) := by unfold wrap64; omega
    go_enter Try.func67, Try.ntmps67
    go_wp2
    go_region
    all_goals (go_wp2; go_ret; exact ⟨rfl, up_drew w⟩)

set_option maxHeartbeats 2000000 in
set_option maxRecDepth 100000 in
theorem rchar_any (n : Int) (hn : -9223372036854775808 ≤ n ∧ n ≤ 9223372036854775807) (w : World) :
    Calls Try.prog 43 #[.int .i64 n] w fun e w' => e = .returned (.string ⟨([35, 92] ++ chW n).toArray⟩) ∧ Up w w' := by
  have hu : (n % 256).toNat.toUInt8.toNat = (n % 256).toNat := by simp; omega
  unfold chW
  by_cases h1 : n = 32
  · subst h1
    go_enter Try.func43, Try.ntmps43
    go_wp2
    go_ret
    exact ⟨rfl, Up.refl w⟩
  rw [if_neg h1]
  by_cases h2 : n = 10
  · subst h2
    go_enter Try.func43, Try.ntmps43
    go_wp2
    go_ret
    exact ⟨rfl, Up.refl w⟩
  rw [if_neg h2]
  by_cases h3 : n = 9
  · subst h3
    go_enter Try.func43, Try.ntmps43
    go_wp2
    go_ret
    exact ⟨rfl, Up.refl w⟩
  rw [if_neg h3]
  by_cases h4 : n = 0
  · subst h4
    go_enter Try.func43, Try.ntmps43
    go_wp2
    go_ret
    exact ⟨rfl, Up.refl w⟩
  rw [if_neg h4]
  by_cases h5 : 32 < n ∧ n ≤ 126
  · rw [if_pos h5]
    obtain ⟨h6, h7⟩ := h5
    have kc := conv_new w [(n % 256).toNat.toUInt8] 1
    simp only [Lib.byteCells, List.map_cons, List.map_nil, List.length_cons, List.length_nil, Nat.zero_add] at kc
    rw [hu, show (((n % 256).toNat : Nat) : Int) = n by omega] at kc
    generalize (n % 256).toNat.toUInt8 = b at *
    have h8 : 33 ≤ n := by omega
    clear hu
    go_enter Try.func43, Try.ntmps43
    go_wp2
    go_ret
    exact ⟨rfl, up_alloc w _⟩
  · rw [if_neg h5]
    have K2 := fun w => rtwo_any n w
    unfold two at *
    generalize hexd ((n % 256).toNat / 16) = x at *
    generalize hexd ((n % 256).toNat % 16) = y at *
    have HK2 := hide K2
    have h8 : ¬ 33 ≤ n ∨ (33 ≤ n ∧ ¬ n ≤ 126) := by omega
    clear h5 K2 hu
    rcases h8 with h8 | ⟨h8, h9⟩
    · go_enter Try.func43, Try.ntmps43
      go_wp2_with (go_at_call 67; refine (HK2.out _).mono ?_; rintro e w2 ⟨rfl, hu2⟩)
      go_ret
      exact ⟨rfl, hu2⟩
    · go_enter Try.func43, Try.ntmps43
      go_wp2_with (go_at_call 67; refine (HK2.out _).mono ?_; rintro e w2 ⟨rfl, hu2⟩)
      go_ret
      exact ⟨rfl, hu2⟩

/-- append of new bytes, as a step. -/
theorem rt_app {w W : World} {v : Value} {S l : List UInt8} {cells : List Value} {ops : Array Oper} {rest : List Oper} {o : Oper} {a : Act} {Q : Exit → Act → World → Prop} (hRT : RT w v S W) (hcs : cells = Lib.byteCells l) (hl : 0 < l.length) (hS : S.length + l.length ≤ 1000000000) (hgd : o.guard = none) (s x : Operand) (ho : o.op = .call { callee := .builtin .append, args := #[s, x], argTypes := #[72, 72] })
    (hs : a.eval s = v) (c : Nat) (hx : a.eval x = .slice (some ⟨W.heap.size, 0, none⟩) l.length c)
    (h : ∀ g cap w', RT w (.slice (some ⟨g, 0, none⟩) (S.length + l.length) cap) (S ++ l) w' → wpList Try.prog ops Q rest (a.put o.dst (.slice (some ⟨g, 0, none⟩) (S.length + l.length) cap)) w') : wpList Try.prog ops Q (o :: rest) a (W.alloc (.cells cells.toArray 5)) := by
  subst hcs
  obtain ⟨i0, hi, hz0, hz1, hz2⟩ := info_parts infoU8
  have hA := hRT.more (up_alloc W (.cells (Lib.byteCells l).toArray 5))
  refine wpList_append_lies _ hgd s x 72 ho w.heap.size 5 i0 (.int .u8 0) 1 1 Try.underlying72 hi hz0 hz1 hz2 rfl (by decide) v S.length _ hs hA.own ⟨W.heap.size, 0, none⟩ l.length c (Lib.byteCells l) hx (by rw [Lib.byteCells_length]; omega) (bytes_at W l) (bytes_one l) hl (by unfold maxLen; omega) (by omega) hA.up.size (W.heap.size + 1) (by simp) ?_
  intro g cap w' h1 h2 _ _
  exact h g cap w' (hA.snoc h1 rfl h2)

/-- The same, the length said otherwise. -/
theorem rt_app4 {w W : World} {ao : Option Addr} {m cap : Nat} {S l : List UInt8} {cells : List Value} {ops : Array Oper} {rest : List Oper} {o : Oper} {a : Act} {Q : Exit → Act → World → Prop} (hRT : RT w (.slice ao m cap) S W) (hm : m = S.length) (hcs : cells = Lib.byteCells l) (hl : 0 < l.length) (hS : S.length + l.length ≤ 1000000000) (hgd : o.guard = none) (s x : Operand) (ho : o.op = .call { callee := .builtin .append, args := #[s, x], argTypes := #[72, 72] })
    (hs : a.eval s = .slice ao m cap) (c : Nat) (hx : a.eval x = .slice (some ⟨W.heap.size, 0, none⟩) l.length c)
    (h : ∀ g cap w', RT w (.slice (some ⟨g, 0, none⟩) (m + l.length) cap) (S ++ l) w' → wpList Try.prog ops Q rest (a.put o.dst (.slice (some ⟨g, 0, none⟩) (m + l.length) cap)) w') : wpList Try.prog ops Q (o :: rest) a (W.alloc (.cells cells.toArray 5)) := by
  subst hm
  exact rt_app hRT hcs hl hS hgd s x ho hs c hx h

/-- append of a text, as a step. -/
theorem rt_appS {w W : World} {v : Value} {S : List UInt8} {t : ByteArray} {ops : Array Oper} {rest : List Oper} {o : Oper} {a : Act} {Q : Exit → Act → World → Prop} (hRT : RT w v S W) (hS : S.length + t.size ≤ 1000000000) (hgd : o.guard = none) (s x : Operand) (ho : o.op = .call { callee := .builtin .append, args := #[s, x], argTypes := #[72, 9] })
    (hs : a.eval s = v) (hx : a.eval x = .string t)
    (h : ∀ v' w', RT w v' (S ++ t.data.toList) w' → wpList Try.prog ops Q rest (a.put o.dst v') w') : wpList Try.prog ops Q (o :: rest) a W := by
  obtain ⟨i0, hi, hz0, hz1, hz2⟩ := info_parts infoU8
  refine Lib.wpList_append_own_string _ hgd s x 72 9 ho w.heap.size 5 i0 Try.underlying72 Try.underlying9 hi hz0 hz1 hz2 _ _ _ hs hRT.own t hx (by unfold maxLen; omega) (by omega) hRT.up.size ?_
  intro v' w' h1 h2 _
  exact h v' w' (hRT.snoc (by rw [← Lib.strCells_eq]; exact h1) (by rw [bytes_len]) h2)

theorem RT.conv {w : World} {v : Value} {S : List UInt8} {W : World} (h : RT w v S W) : (convert 72 9 v).run Try.prog W = .ok (.string ⟨S.toArray⟩) W := by
  rcases h.own.2 with ⟨rfl, e0⟩ | ⟨g, cap, cur, rfl, _, h2, h3, _, h5, h6⟩
  · have hS : S = [] := List.eq_nil_of_length_eq_zero e0
    subst hS
    exact run_convert_bytes_nil W 72 5 Try.underlying72 Try.underlying5 0 0 9 Try.underlying9
  · exact run_convert_bytes_back (P := Try.prog) W 72 9 5 ⟨g, 0, none⟩ cap S Try.underlying72 Try.underlying5 Try.underlying9 (fun j hj => by
      have := h.own.cells (g := g) rfl j (.int .u8 S[j].toNat) (by simp [Lib.byteCells, hj])
      exact this)

set_option maxHeartbeats 8000000 in
set_option maxRecDepth 100000 in
theorem rText_any (s : ByteArray) (hs : s.size ≤ 10000000) (w : World) :
    Calls Try.prog 44 #[.string s] w fun e w' => e = .returned (.string ⟨([34] ++ tsW s.data.toList ++ [34]).toArray⟩) ∧ Up w w' := by
  have hsz := bytes_len s
  have R0 : RT w (.slice (some ⟨w.heap.size, 0, none⟩) 1 1) [34] (w.alloc (.cells #[.int .u8 34] 5)) := ⟨up_alloc w _, rfl, .inr ⟨w.heap.size, 1, _, rfl, Nat.le_refl _, heap_alloc_new w _, by decide, by decide, rfl, rfl⟩⟩
  have HR0 := hide R0
  clear R0
  go_enter Try.func44, Try.ntmps44
  go_wp2_with fail
  go_loopw [3, 4] (fun a3 a4 w' => ∃ k : Nat, k ≤ s.size ∧ a4 = .int .i64 (k : Int) ∧ RT w a3 ([34] ++ tsW (s.data.toList.take k)) w') (fun _ a4 _ => s.size - (intOf a4).toNat)
  case atStart => exact ⟨0, Nat.zero_le _, rfl, by simpa [tsW] using HR0.out⟩
  case round =>
    obtain ⟨k, hk, rfl, hR⟩ := hrel
    obtain ⟨ao, cap, rfl⟩ := hR.shape
    have hle := tsW_le (s.data.toList.take k)
    rw [List.length_take] at hle
    by_cases hlt : k < s.size
    · have hlt' : k < s.data.toList.length := by omega
      have e2 := tsW_take s.data.toList hlt'
      have e4 : s[k] = s.data.toList[k] := by simp [ByteArray.getElem_eq_getElem_data]
      rw [← e4] at e2
      obtain ⟨b, hb⟩ : ∃ b, b = s[k] := ⟨_, rfl⟩
      rw [← hb] at e2
      have cx : s[k].toNat = b.toNat := by rw [hb]
      have hkI : (k : Int) < (s.size : Int) := by omega
      obtain ⟨S, hS⟩ : ∃ S, S = [34] ++ tsW (s.data.toList.take k) := ⟨_, rfl⟩
      have e5 : [34] ++ tsW (s.data.toList.take (k + 1)) = S ++ tbW b := by rw [e2, hS]; simp
      have hSl : S.length ≤ 100000000 := by rw [hS]; simp only [List.length_append, List.length_singleton]; omega
      rw [← hS] at hR ⊢
      have HR := hide hR
      have HE := hide e5
      have KT := fun W => rtwo_any (b.toNat : Int) W
      unfold tbW at HE
      obtain ⟨n, hn⟩ : ∃ n, n = b.toNat := ⟨_, rfl⟩
      have hb256 : n < 256 := by rw [hn]; exact b.toNat_lt
      have q34 : b = 34 ↔ n = 34 := by rw [hn]; exact UInt8.toNat_inj.symm
      have q92 : b = 92 ↔ n = 92 := by rw [hn]; exact UInt8.toNat_inj.symm
      have q10 : b = 10 ↔ n = 10 := by rw [hn]; exact UInt8.toNat_inj.symm
      have q9 : b = 9 ↔ n = 9 := by rw [hn]; exact UInt8.toNat_inj.symm
      have q32 : b < 32 ↔ n < 32 := by rw [hn]; exact UInt8.lt_iff_toNat_lt
      have q126 : 126 < b ↔ 126 < n := by rw [hn]; exact UInt8.lt_iff_toNat_lt
      rw [← hn] at KT cx HE
      simp only [q34, q92, q10, q9, q32, q126] at HE
      have HT := hide KT
      have HNB := hide hn
      clear q34 q92 q10 q9 q32 q126 KT hn e2 e4 e5 hb hR hS hle
      by_cases h1 : n = 34 ∨ n = 92
      · rw [if_pos h1] at HE
        rcases h1 with rfl | rfl
        · go_wp2_with (at_builtin; refine rt_app (l := [92, b]) HR.out (by simp [Lib.byteCells, ← HNB.out]) (by simp) (by simp; omega) rfl _ _ rfl rfl _ rfl ?_; intro g9 cap9 w9 h9)
          refine ⟨⟨k + 1, by omega, by go_num, by rw [HE.out]; exact h9⟩, ?_⟩
          simp [intOf]
          omega
        · go_wp2_with (at_builtin; refine rt_app (l := [92, b]) HR.out (by simp [Lib.byteCells, ← HNB.out]) (by simp) (by simp; omega) rfl _ _ rfl rfl _ rfl ?_; intro g9 cap9 w9 h9)
          refine ⟨⟨k + 1, by omega, by go_num, by rw [HE.out]; exact h9⟩, ?_⟩
          simp [intOf]
          omega
      rw [if_neg h1] at HE
      have h11 : ¬ n = 34 := fun e => h1 (.inl e)
      have h12 : ¬ n = 92 := fun e => h1 (.inr e)
      have i11 : ¬ (n : Int) = 34 := by omega
      have i12 : ¬ (n : Int) = 92 := by omega
      have b11 : ((n : Int) == 34) = false := by simpa using i11
      have b12 : ((n : Int) == 92) = false := by simpa using i12
      have d11 : (n == 34) = false := by simpa using h11
      have d12 : (n == 92) = false := by simpa using h12
      clear h1
      by_cases h2 : n = 10
      · rw [if_pos h2] at HE
        subst h2
        go_wp2_with (at_builtin; refine rt_app (l := [92, 110]) HR.out (by simp [Lib.byteCells]) (by simp) (by simp; omega) rfl _ _ rfl rfl _ rfl ?_; intro g9 cap9 w9 h9)
        refine ⟨⟨k + 1, by omega, by go_num, by rw [HE.out]; exact h9⟩, ?_⟩
        simp [intOf]
        omega
      rw [if_neg h2] at HE
      by_cases h3 : n = 9
      · rw [if_pos h3] at HE
        subst h3
        go_wp2_with (at_builtin; refine rt_app (l := [92, 116]) HR.out (by simp [Lib.byteCells]) (by simp) (by simp; omega) rfl _ _ rfl rfl _ rfl ?_; intro g9 cap9 w9 h9)
        refine ⟨⟨k + 1, by omega, by go_num, by rw [HE.out]; exact h9⟩, ?_⟩
        simp [intOf]
        omega
      rw [if_neg h3] at HE
      have i2 : ¬ (n : Int) = 10 := by omega
      have i3 : ¬ (n : Int) = 9 := by omega
      by_cases h4 : n < 32 ∨ 126 < n
      · rw [if_pos h4] at HE
        have em : ((n : Int) % 256).toNat = n := by omega
        have K2 := HT.out
        rw [em] at K2
        unfold two at HE K2
        generalize hexd (n / 16) = x at *
        generalize hexd (n % 16) = y at *
        have HK2 := hide K2
        clear K2 em
        rcases Nat.lt_or_ge n 32 with h5 | h5
        · clear h4
          have i5 : (n : Int) < 32 := by omega
          go_wp2_with (first
            | (at_builtin; have h6 : Nat := g2; clear h6; refine rt_app4 (l := [59]) (m := S.length + 4) H3.out (by simp) (by simp [Lib.byteCells]) (by simp) (by simp; omega) rfl _ _ rfl rfl _ rfl ?_; intro g9 cap9 w9 h9)
            | (at_builtin; refine rt_app (l := [92, 120]) HR.out (by simp [Lib.byteCells]) (by simp) (by simp; omega) rfl _ _ rfl rfl _ rfl ?_; intro g1 cap1 w1 h1; have H1 := hide h1; clear h1)
            | (go_at_call 67; refine (HK2.out _).mono ?_; rintro e w2 ⟨rfl, u2⟩; have H2 := hide (H1.out.more u2); clear u2)
            | (at_builtin; refine rt_appS H2.out (by show _ + 2 ≤ _; simp only [List.length_append, List.length_cons, List.length_nil]; omega) rfl _ _ rfl rfl rfl ?_; intro v3 w3 h3; have h4 : RT w v3 (S ++ [92, 120, x, y]) w3 := (by simpa using h3); obtain ⟨ao3, cap3, ev⟩ := h4.shape; rw [show (S ++ [92, 120, x, y]).length = S.length + 4 from (by simp)] at ev; subst ev; obtain ⟨g2, hg2⟩ : ∃ g, g = w3.heap.size := ⟨_, rfl⟩; have H3 := hide h4; have HG := hide hg2; clear h3 h4 hg2))
          refine ⟨⟨k + 1, by omega, by go_num, by rw [HE.out]; simpa using h9⟩, ?_⟩
          simp [intOf]
          omega
        · have h6 : 127 ≤ n := by omega
          clear h4
          have i5 : ¬ (n : Int) < 32 := by omega
          have i6 : (127 : Int) ≤ (n : Int) := by omega
          go_wp2_with (first
            | (at_builtin; have h6 : Nat := g2; clear h6; refine rt_app4 (l := [59]) (m := S.length + 4) H3.out (by simp) (by simp [Lib.byteCells]) (by simp) (by simp; omega) rfl _ _ rfl rfl _ rfl ?_; intro g9 cap9 w9 h9)
            | (at_builtin; refine rt_app (l := [92, 120]) HR.out (by simp [Lib.byteCells]) (by simp) (by simp; omega) rfl _ _ rfl rfl _ rfl ?_; intro g1 cap1 w1 h1; have H1 := hide h1; clear h1)
            | (go_at_call 67; refine (HK2.out _).mono ?_; rintro e w2 ⟨rfl, u2⟩; have H2 := hide (H1.out.more u2); clear u2)
            | (at_builtin; refine rt_appS H2.out (by show _ + 2 ≤ _; simp only [List.length_append, List.length_cons, List.length_nil]; omega) rfl _ _ rfl rfl rfl ?_; intro v3 w3 h3; have h4 : RT w v3 (S ++ [92, 120, x, y]) w3 := (by simpa using h3); obtain ⟨ao3, cap3, ev⟩ := h4.shape; rw [show (S ++ [92, 120, x, y]).length = S.length + 4 from (by simp)] at ev; subst ev; obtain ⟨g2, hg2⟩ : ∃ g, g = w3.heap.size := ⟨_, rfl⟩; have H3 := hide h4; have HG := hide hg2; clear h3 h4 hg2))
          refine ⟨⟨k + 1, by omega, by go_num, by rw [HE.out]; simpa using h9⟩, ?_⟩
          simp [intOf]
          omega
      rw [if_neg h4] at HE
      have h5 : ¬ n < 32 := by omega
      have h6 : ¬ 127 ≤ n := by omega
      have i5 : ¬ (n : Int) < 32 := by omega
      have i6 : ¬ (127 : Int) ≤ (n : Int) := by omega
      clear h4
      go_wp2_with (at_builtin; refine rt_app (l := [b]) HR.out (by simp [Lib.byteCells, ← HNB.out]) (by simp) (by simp; omega) rfl _ _ rfl rfl _ rfl ?_; intro g9 cap9 w9 h9)
      refine ⟨⟨k + 1, by omega, by go_num, by rw [HE.out]; exact h9⟩, ?_⟩
      simp [intOf]
      omega
    · have hkK : k = s.size := by omega
      subst hkK
      have e5 : s.data.toList.take s.size = s.data.toList := List.take_of_length_le (by omega)
      rw [e5] at hR
      rw [e5]
      have hkI : ¬ ((s.size : Int) < (s.size : Int)) := by omega
      obtain ⟨S, hS⟩ : ∃ S, S = [34] ++ tsW s.data.toList := ⟨_, rfl⟩
      have hSl : S.length ≤ 100000000 := by rw [hS]; have := tsW_le s.data.toList; simp only [List.length_append, List.length_singleton]; omega
      rw [← hS] at hR ⊢
      have HR := hide hR
      have HSS := hide hS
      clear hR hS e5 hle
      go_wp2_with (at_builtin; refine rt_app (l := [34]) HR.out (by simp [Lib.byteCells]) (by simp) (by simp; omega) rfl _ _ rfl rfl _ rfl ?_; intro g9 cap9 w9 h9; have kc := h9.conv; simp only [List.length_cons, List.length_nil, Nat.zero_add] at kc; have H9 := hide h9.up; clear h9)
      go_ret
      exact ⟨by rw [HSS.out]; simp, H9.out⟩

/-- What tandemref06.text does with one datum. -/
def RTextOK (h : Nat) : Prop := ∀ (sh : Bool) (d : Tr h) (c0 c1 c2 c3 c4 c5 c6 : Value) (w : World), DatC w h d [c0, c1, c2, c3, c4, c5, c6] → bk h d ≤ 10000000 →
  Calls Try.prog 25 #[.agg #[c0, c1, c2, c3, c4, c5, c6], .bool sh] w fun e w' => e = .returned (.string ⟨(wr h sh d).toArray⟩) ∧ Up w w'

def RManyOK (h : Nat) : Prop := ∀ (sh : Bool) (I : List (Tr h)) (v : Value) (w : World), RowD w (DatC w h) v I → (I.map (bk h)).sum ≤ 10000000 →
  Calls Try.prog 45 #[v, .bool sh] w fun e w' => e = .returned (.string ⟨(its (wr h sh) [] I).toArray⟩) ∧ Up w w'

theorem mem_sum {α : Type} {m : α → Nat} {l : List α} {i : Nat} (hi : i < l.length) : m l[i] ≤ (l.map m).sum := by
  obtain ⟨l1, l2, e⟩ := List.append_of_mem (List.getElem_mem hi)
  have : (l.map m).sum = (l1.map m).sum + (m l[i] + (l2.map m).sum) := by
    conv => lhs; rw [e]
    simp
  omega

set_option maxHeartbeats 8000000 in
set_option maxRecDepth 100000 in
theorem many_of {h : Nat} (hT : RTextOK h) : RManyOK h := by
  intro sh I v w hr hs
  obtain ⟨ao, cap, rfl⟩ := hr.shape
  have hIl : I.length ≤ 10000000 := Nat.le_trans (sum_ge (m := bk h) (l := I) (fun a _ => bk_one h a)) hs
  have hlen := fun k => its_len hr sh k
  have KX := fun (W : World) (i : Nat) (hi : i < I.length) (d0 d1 d2 d3 d4 d5 d6 : Value) (hd : DatC W h I[i] [d0, d1, d2, d3, d4, d5, d6]) => hT sh I[i] d0 d1 d2 d3 d4 d5 d6 W hd (Nat.le_trans (mem_sum hi) hs)
  generalize hF : wr h sh = F at *
  clear hF
  have HR := hide hr
  have HX := hide KX
  have HLN := hide (And.intro hlen hs)
  have R0 : Hid (RT w (.slice none 0 0) [] w) := hide ⟨Up.refl w, World.ownsRow_nil _ _ _ _⟩
  clear hr KX hlen hs hT
  go_enter Try.func45, Try.ntmps45
  go_wp2
  go_loopw [5, 6] (fun a5 a6 w' => ∃ k : Nat, k ≤ I.length ∧ a6 = .int .i64 (k : Int) ∧ RT w a5 (its F [] (I.take k)) w') (fun _ a6 _ => I.length - (intOf a6).toNat)
  case atStart => exact ⟨0, Nat.zero_le _, rfl, by simpa [its] using R0.out⟩
  case round =>
    obtain ⟨k, hk, rfl, hR⟩ := hrel
    obtain ⟨aoV, capV, rfl⟩ := hR.shape
    by_cases hlt : k < I.length
    · obtain ⟨b, off, rfl, ik, im, ib, jum, it, jui, jur, hdat, ⟨p1, p2, p3, rfl⟩, ⟨q1, q2, q3, rfl⟩, ⟨s1, s2, s3, rfl⟩, e0, e1, e2, e3, e4, e5, e6⟩ := row_cells HR.out (Up.refl w) hlt
      have hbw : b < w.heap.size := World.block_lt_of_cell? w _ e0
      have hcu : ∀ W, Up w W → W.cell? ⟨b, off + k * 7, none⟩ = some (.int .i64 ik) ∧ W.cell? ⟨b, off + k * 7 + 1, none⟩ = some (.int .i64 im) ∧ W.cell? ⟨b, off + k * 7 + 2, none⟩ = some (.bool ib) ∧ W.cell? ⟨b, off + k * 7 + 3, none⟩ = some (.slice p1 p2 p3) ∧ W.cell? ⟨b, off + k * 7 + 4, none⟩ = some (.string it) ∧ W.cell? ⟨b, off + k * 7 + 5, none⟩ = some (.slice q1 q2 q3) ∧ W.cell? ⟨b, off + k * 7 + 6, none⟩ = some (.slice s1 s2 s3) := fun W u => ⟨(u.cell (p := ⟨b, off + k * 7, none⟩) hbw).trans e0, (u.cell (p := ⟨b, off + k * 7 + 1, none⟩) hbw).trans e1, (u.cell (p := ⟨b, off + k * 7 + 2, none⟩) hbw).trans e2, (u.cell (p := ⟨b, off + k * 7 + 3, none⟩) hbw).trans e3, (u.cell (p := ⟨b, off + k * 7 + 4, none⟩) hbw).trans e4, (u.cell (p := ⟨b, off + k * 7 + 5, none⟩) hbw).trans e5, (u.cell (p := ⟨b, off + k * 7 + 6, none⟩) hbw).trans e6⟩
      clear e0 e1 e2 e3 e4 e5 e6
      obtain ⟨e0, e1, e2, e3, e4, e5, e6⟩ := hcu wr hR.up
      have HCU := hide hcu
      clear hcu
      have hl1 := HLN.out.1 k
      have hl2 := HLN.out.1 (k + 1)
      have hbb := HLN.out.2
      have eT := its_take F I hlt
      have hkI : (k : Int) < (I.length : Int) := by omega
      obtain ⟨S, hS⟩ : ∃ S, S = its F [] (I.take k) := ⟨_, rfl⟩
      obtain ⟨T, hTT⟩ : ∃ T, T = F I[k] := ⟨_, rfl⟩
      rw [← hS, ← hTT] at eT
      rw [← hS] at hl1 hR ⊢
      have K1 := fun (W : World) (u : Up w W) => HX.out W k hlt _ _ _ _ _ _ _ (hdat.up u)
      rw [← hTT] at K1
      have l1 : S.length ≤ 600000000 := by omega
      have l2 : T.length ≤ 1000000000 - S.length - 1 := by rw [eT] at hl2; simp at hl2; omega
      have zT : (⟨T.toArray⟩ : ByteArray).size = T.length := by simp [ByteArray.size]
      have HR1 := hide hR
      have HK1 := hide K1
      have HE := hide eT
      clear K1 hdat hS hTT hl1 hl2 hbb eT
      by_cases hk0 : k = 0
      · subst hk0
        simp only [Nat.zero_mul, Nat.add_zero] at e0 e1 e2 e3 e4 e5 e6
        go_wp2_with (first
          | (go_at_call 25; refine (HK1.out _ HR1.out.up).mono ?_; rintro e w2 ⟨rfl, u2⟩; have H2 := hide (HR1.out.more u2); clear u2)
          | (at_builtin; refine rt_appS H2.out (by rw [zT]; omega) rfl _ _ rfl rfl rfl ?_; intro v3 w3 h3; obtain ⟨ao3, cap3, rfl⟩ := h3.shape))
        refine ⟨⟨0 + 1, by omega, by go_num, by rw [HE.out]; simpa using h3⟩, ?_⟩
        simp [intOf]
        omega
      · have hk1 : 0 < (k : Int) := by omega
        go_wp2_with (first
          | (at_builtin; refine rt_app (l := [32]) HR1.out (by simp [Lib.byteCells]) (by simp) (by simp; omega) rfl _ _ rfl rfl _ rfl ?_; intro g1 cap1 w1 h1; clear e0 e1 e2 e3 e4 e5 e6; obtain ⟨e0, e1, e2, e3, e4, e5, e6⟩ := HCU.out _ h1.up; have H1 := hide h1; clear h1)
          | (go_at_call 25; refine (HK1.out _ H1.out.up).mono ?_; rintro e w2 ⟨rfl, u2⟩; have H2 := hide (H1.out.more u2); clear u2)
          | (at_builtin; refine rt_appS H2.out (by rw [zT]; simp; omega) rfl _ _ rfl rfl rfl ?_; intro v3 w3 h3; obtain ⟨ao3, cap3, rfl⟩ := h3.shape))
        refine ⟨⟨k + 1, by omega, by go_num, by rw [HE.out, if_neg hk0]; simpa using h3⟩, ?_⟩
        simp [intOf]
        omega
    · have hkK : k = I.length := by omega
      subst hkK
      rw [List.take_length] at hR ⊢
      have hkI : ¬ ((I.length : Int) < (I.length : Int)) := by omega
      obtain ⟨S, hS⟩ : ∃ S, S = its F [] I := ⟨_, rfl⟩
      rw [← hS] at hR ⊢
      have kc := hR.conv
      have HU := hide hR.up
      have HSS := hide hS
      clear hS
      clear hR
      go_wp2
      go_ret
      exact ⟨by rw [HSS.out]; rfl, HU.out⟩

end Go.Proofs.Yteipogfolnlblaa
