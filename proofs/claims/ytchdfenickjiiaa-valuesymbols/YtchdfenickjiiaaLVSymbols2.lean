/-
  What is proved here: the walk of ValueSymbols of more than 60 names, of which the first 60 count.
-/
import Derived.Test.YtchdfenickjiiaaLVSymbols
namespace Go.Proofs.Ytchdfenickjiiaa
open Go Go.RowKit

set_option maxRecDepth 100000 in
set_option maxHeartbeats 4000000 in
theorem valueSymbols_many (an ab : Option Addr) (nn cn nb cb : Nat) (nms : Nat → ByteArray) (kb : Nat → Bool) (w : World) (hn0 : RdS w an nn nms) (hk : RdT w ab nb kb) (hnn : 60 < nn) (hcn0 : nn ≤ cn) (hcb : nb ≤ cb) (hcb2 : cb ≤ 9223372036854775807) (hcn2 : cn ≤ 9223372036854775807) :
    Calls Try.prog 4 #[.slice an nn cn, .slice ab nb cb] w fun e w' => e = .returned (.bool true) ∧ Below w.heap.size w w' := by
  have KN := vnew_ok 32768 w (by decide) (by decide)
  have hlI : (60 : Int) < (nn : Int) := by omega
  have hlC : (60 : Int) ≤ (cn : Int) := by omega
  have hlC2 : 60 ≤ cn := by omega
  have hcz : ¬ (cn = 0) := by omega
  obtain ⟨iW, hiW, hz0, hz1, hz2⟩ := info_parts infoW
  obtain ⟨l, hl60⟩ : ∃ l, l = 60 := ⟨60, rfl⟩
  have hl : l ≤ 60 := by omega
  have hcn : l ≤ cn := by omega
  have hn : RdS w an l nms := by
    rcases hn0 with e | ⟨b, off, e, h⟩
    · omega
    · exact .inr ⟨b, off, e, fun i hi => h i (by omega)⟩
  have HL60 : Hid (Value.slice an 60 cn = Value.slice an l cn) := hide (by rw [hl60])
  have HN := hide hn
  have HKb := hide hk
  clear hn hk hn0 hl60
  go_enter Try.func4, Try.ntmps4
  go_wp2_with (go_at_call 15; refine KN.mono ?_; rintro e w1 ⟨sb, hb, X, mb, rfl, St, hmp, hX, hsb, hmb, F1⟩; have S0 := SyS.start (nms := nms) St hmp hX hsb hmb F1; have HS0 := hide S0; clear S0 St hmp hX hsb hmb F1)
  rw [HL60.out]
  clear HL60 hlI hlC hlC2
  go_loopw [7, 8] (fun a7 a8 wr => ∃ k lw, k ≤ l ∧ a8 = .int .i64 (k : Int) ∧ SyS w sb hb nms k k (1 + 50 * k) lw a7 wr) (fun _ a8 _ => l - (intOf a8).toNat)
  case atStart => exact ⟨0, _, Nat.zero_le _, rfl, HS0.out⟩
  case round =>
    obtain ⟨k, lw, hkl, rfl, hS⟩ := hrel
    by_cases hlt : k < l
    · obtain ⟨b, off, rfl, hc⟩ : ∃ b off, an = some ⟨b, off, none⟩ ∧ ∀ i, i < l → w.cell? ⟨b, off + i, none⟩ = some (.string (nms i)) := by
        rcases HN.out with e | e
        · omega
        · exact e
      have cx := (hS.below.cell (p := ⟨b, off + k, none⟩) (World.block_lt_of_cell? _ _ (hc k hlt))).trans (hc k hlt)
      have hkI : (k : Int) < (l : Int) := by omega
      by_cases hbig : 300 < (nms k).size
      · have hbI : (300 : Int) < ((nms k).size : Int) := by omega
        have HS := hide hS
        clear hS hc
        go_wp2_with (go_at_call 14; refine (vawake_any _).mono ?_; rintro e w9 ⟨rfl, F9⟩)
        go_ret
        exact ⟨rfl, (HS.out.fr F9).below⟩
      · have hbI : ¬ (300 : Int) < ((nms k).size : Int) := by omega
        have KI := sys_intern hS (by omega) (by omega)
        have HKI := hide KI
        have hu := hS.below.size
        have kc := fun (W : World) => Lib.run_convert_bytes_const (P := Try.prog) W 38 5 #[.int .u8 98, .int .u8 101, .int .u8 116, .int .u8 119, .int .u8 101, .int .u8 101, .int .u8 110] 7 7 Try.underlying38 Try.underlying5
        clear hS hc KI
        by_cases hkb : k < nb
        · obtain ⟨bk, ok, rfl, hkc⟩ : ∃ b off, ab = some ⟨b, off, none⟩ ∧ ∀ i, i < nb → w.cell? ⟨b, off + i, none⟩ = some (.bool (kb i)) := by
            rcases HKb.out with e | e
            · omega
            · exact e
          have hkbI : (k : Int) < (nb : Int) := by omega
          cases hkk : kb k with
          | true =>
            go_wp2_with (first
              | (go_at_call 16; refine HKI.out.mono ?_; rintro e w2 ⟨x, rfl, S2⟩; have hO2 := S2.own.row; have hu2 := S2.below.size; have HS2 := hide S2; clear S2)
              | (at_builtin; refine wpList_append_lies _ rfl _ _ 35 rfl w.heap.size 22 iW (.int .u64 0) 1 8 Try.underlying35 hiW hz0 hz1 hz2 rfl (by decide) _ k _ rfl (hO2.alloc _) ⟨w2.heap.size, 0, none⟩ 1 1 [.int .u64 (x : Int)] rfl rfl (hcells_one _ _ _) (fun u hu => by simp at hu; subst hu; rfl) (by decide) (by unfold maxLen; omega) (by omega) (by simp; omega) (w2.heap.size + 1) (by simp) ?_; intro g3 cap3 w3 hown hgrow hat _; have S3 := HS2.out.push hown hgrow hat; have HS3 := hide S3; clear S3 hown hgrow hat)
              | (go_at_call 17; refine (sys_text HS3.out (by omega)).mono ?_; rintro e w4 ⟨y, rfl, S4⟩; have HS4 := hide S4; have cz := (S4.below.cell (p := ⟨bk, ok + k, none⟩) (World.block_lt_of_cell? _ _ (hkc k hkb))).trans (hkc k hkb); rw [hkk] at cz; clear S4)
              | (go_at_call 18; refine (sys_keep HS4.out (by omega) (by omega) (by omega)).mono ?_; rintro e w5 ⟨v5, lw5, rfl, S5⟩; have HS5 := hide S5; clear S5))
            refine ⟨⟨k + 1, lw5, hlt, by go_num, HS5.out.more (by omega)⟩, ?_⟩
            simp [intOf]
            omega
          | false =>
            go_wp2_with (first
              | (go_at_call 16; refine HKI.out.mono ?_; rintro e w2 ⟨x, rfl, S2⟩; have hO2 := S2.own.row; have hu2 := S2.below.size; have HS2 := hide S2; clear S2)
              | (at_builtin; refine wpList_append_lies _ rfl _ _ 35 rfl w.heap.size 22 iW (.int .u64 0) 1 8 Try.underlying35 hiW hz0 hz1 hz2 rfl (by decide) _ k _ rfl (hO2.alloc _) ⟨w2.heap.size, 0, none⟩ 1 1 [.int .u64 (x : Int)] rfl rfl (hcells_one _ _ _) (fun u hu => by simp at hu; subst hu; rfl) (by decide) (by unfold maxLen; omega) (by omega) (by simp; omega) (w2.heap.size + 1) (by simp) ?_; intro g3 cap3 w3 hown hgrow hat _; have S3 := HS2.out.push hown hgrow hat; have HS3 := hide S3; clear S3 hown hgrow hat)
              | (go_at_call 17; refine (sys_text HS3.out (by omega)).mono ?_; rintro e w4 ⟨y, rfl, S4⟩; have HS4 := hide S4; have cz := (S4.below.cell (p := ⟨bk, ok + k, none⟩) (World.block_lt_of_cell? _ _ (hkc k hkb))).trans (hkc k hkb); rw [hkk] at cz; clear S4))
            refine ⟨⟨k + 1, _, hlt, by go_num, HS4.out.more (by omega)⟩, ?_⟩
            simp [intOf]
            omega
        · have hkbI : ¬ (k : Int) < (nb : Int) := by omega
          go_wp2_with (first
            | (go_at_call 16; refine HKI.out.mono ?_; rintro e w2 ⟨x, rfl, S2⟩; have hO2 := S2.own.row; have hu2 := S2.below.size; have HS2 := hide S2; clear S2)
            | (at_builtin; refine wpList_append_lies _ rfl _ _ 35 rfl w.heap.size 22 iW (.int .u64 0) 1 8 Try.underlying35 hiW hz0 hz1 hz2 rfl (by decide) _ k _ rfl (hO2.alloc _) ⟨w2.heap.size, 0, none⟩ 1 1 [.int .u64 (x : Int)] rfl rfl (hcells_one _ _ _) (fun u hu => by simp at hu; subst hu; rfl) (by decide) (by unfold maxLen; omega) (by omega) (by simp; omega) (w2.heap.size + 1) (by simp) ?_; intro g3 cap3 w3 hown hgrow hat _; have S3 := HS2.out.push hown hgrow hat; have HS3 := hide S3; clear S3 hown hgrow hat)
            | (go_at_call 17; refine (sys_text HS3.out (by omega)).mono ?_; rintro e w4 ⟨y, rfl, S4⟩; have HS4 := hide S4; clear S4))
          refine ⟨⟨k + 1, _, hlt, by go_num, HS4.out.more (by omega)⟩, ?_⟩
          simp [intOf]
          omega
    · have hkE : k = l := by omega
      subst hkE
      obtain ⟨ao, cap, rfl⟩ := hS.own.shape
      have hkI : ¬ (k : Int) < (k : Int) := by omega
      have hne : ((k : Int) != (k : Int)) = false := by simp
      have HS := hide hS
      clear hS
      go_wp2
      go_loopw [11] (fun a11 w2 => ∃ i, i ≤ k ∧ a11 = .int .i64 (i : Int) ∧ SyS w sb hb nms k k (1 + 50 * k) lw (.slice ao k cap) w2) (fun a11 _ => k - (intOf a11).toNat)
      case atStart => exact ⟨0, Nat.zero_le _, rfl, HS.out⟩
      case round =>
        obtain ⟨i, hik, rfl, hS2⟩ := hrel
        by_cases hlt2 : i < k
        · obtain ⟨b, off, rfl, hc⟩ : ∃ b off, an = some ⟨b, off, none⟩ ∧ ∀ i, i < k → w.cell? ⟨b, off + i, none⟩ = some (.string (nms i)) := by
            rcases HN.out with e | e
            · omega
            · exact e
          have hcl := SyS.cells hS2
          obtain ⟨gl, hgl⟩ : ∃ gl, ao = some ⟨gl, 0, none⟩ := by
            obtain ⟨g, c, e, _⟩ := hS2.own.rd (i := i) (by omega)
            cases e
            exact ⟨g, rfl⟩
          subst hgl
          have cl := hcl gl rfl i hlt2
          have hiI : (i : Int) < (k : Int) := by omega
          have KN := sys_name hS2 hlt2
          have hwr : ∀ (W' : World), Fr (fun _ => False) wr W' → SyS w sb hb nms k k (1 + 50 * k) lw (.slice (some ⟨gl, 0, none⟩) k cap) W' := fun _ F => hS2.fr F
          have HW := hide hwr
          have HKN := hide KN
          have HC := hide hc
          clear hS2 KN hwr hc hcl HS
          go_wp2_with (go_at_call 19; refine HKN.out.mono ?_; rintro e w3 ⟨rfl, F3⟩; have HS3 := hide (HW.out _ F3); have cx3 := (HS3.out.below.cell (p := ⟨b, off + i, none⟩) (World.block_lt_of_cell? _ _ (HC.out i hlt2))).trans (HC.out i hlt2); clear F3)
          go_loopw [14] (fun a14 wx => ∃ j q, j ≤ i ∧ a14 = .int .i64 (j : Int) ∧ wx = w3.drewN q) (fun a14 _ => i - (intOf a14).toNat)
          case atStart => exact ⟨0, 0, Nat.zero_le _, rfl, rfl⟩
          case round =>
            obtain ⟨j, q, hji, rfl, rfl⟩ := hrel
            by_cases hj : j < i
            · have hjI : (j : Int) < (i : Int) := by omega
              have hjk : (j : Int) < (k : Int) := by omega
              have hcl := HS3.out.cells gl rfl
              have ci := hcl i hlt2
              have cj := hcl j (by omega)
              have nj := (HS3.out.below.cell (p := ⟨b, off + j, none⟩) (World.block_lt_of_cell? _ _ (HC.out j (by omega)))).trans (HC.out j (by omega))
              have hsame := HS3.out.same hlt2 (show j < k by omega)
              have hdw : ((lw i : Int) == (lw j : Int)) = decide (nms i = nms j) := by
                by_cases e : lw i = lw j
                · rw [e, decide_eq_true (hsame.1 e)]; simp
                · rw [decide_eq_false (fun e2 => e (hsame.2 e2)), beq_eq_false_iff_ne]; omega
              have hds := str_beq (nms i) (nms j)
              generalize decide (nms i = nms j) = dd at hdw hds
              have hdd : (!dd == dd) = false := by cases dd <;> rfl
              have hdd2 : (dd != dd) = false := by cases dd <;> rfl
              clear hcl hsame
              go_wp2
              go_quiet (fail)
              go_wp2
              refine ⟨⟨j + 1, _, hj, by go_num, rfl⟩, ?_⟩
              simp [intOf]
              omega
            · have hjE : j = i := by omega
              subst hjE
              have hjI : ¬ (j : Int) < (j : Int) := by omega
              go_wp2
              refine ⟨⟨j + 1, hlt2, by go_num, HS3.out.fr ((Fr.refl _ w3).drewN q)⟩, ?_⟩
              simp [intOf]
              omega
        · have hik2 : i = k := by omega
          subst hik2
          have HS2 := hide hS2
          clear hS2 HS
          go_wp2_with (go_at_call 14; refine (vawake_any _).mono ?_; rintro e w9 ⟨rfl, F9⟩)
          go_ret
          exact ⟨rfl, (HS2.out.fr F9).below⟩

theorem valueSymbols_any (an ab : Option Addr) (nn cn nb cb : Nat) (nms : Nat → ByteArray) (kb : Nat → Bool) (w : World) (hn : RdS w an nn nms) (hk : RdT w ab nb kb) (hcn : nn ≤ cn) (hcb : nb ≤ cb) (hcb2 : cb ≤ 9223372036854775807) (hcn2 : cn ≤ 9223372036854775807) :
    Calls Try.prog 4 #[.slice an nn cn, .slice ab nb cb] w fun e w' => e = .returned (.bool true) ∧ Below w.heap.size w w' := by
  rcases Nat.lt_or_ge 60 nn with h | h
  · exact valueSymbols_many an ab nn cn nb cb nms kb w hn hk h hcn hcb hcb2 hcn2
  · exact valueSymbols_few an ab nn cn nb cb nms kb w hn hk h hcn hcb hcb2 hcn2

end Go.Proofs.Ytchdfenickjiiaa
