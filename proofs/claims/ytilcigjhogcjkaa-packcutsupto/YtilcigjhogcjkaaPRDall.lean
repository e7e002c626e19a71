/-
  What is proved here: the reader's datum, data and rest (package pack), of any depth.
-/
import Derived.Test.YtilcigjhogcjkaaPRDtm
namespace Go.Proofs.Ytilcigjhogcjkaa
open Go Go.RowKit

set_option maxRecDepth 20000 in
theorem datum_zero (w : World) (rb : Nat) :
    Calls Try.prog 77 #[.pointer (some ⟨rb, 0, none⟩), .int .i64 ((0 : Nat) : Int)] w fun e w' => e = .panicked PAN ∧ Fr (fun j => j = rb) w w' := by
  have HM := hide (fun (W : World) => must_no W)
  have HF := hide ((Fr.refl (fun j => j = rb) w).alloc (.cells #[.int .i64 0, .int .i64 0, .bool false, .slice none 0 0, .string ⟨#[]⟩, .slice none 0 0, .slice none 0 0] 64))
  go_enter Try.func77, Try.ntmps77
  go_wp2_with (go_at_call 46; refine (HM.out _).mono ?_; rintro e9 w9 ⟨rfl, hw⟩; replace hw := hw.symm; subst hw)
  exact ⟨rfl, rfl, HF.out⟩
set_option maxRecDepth 20000 in
theorem datum_nonum {w0 w : World} {rb p dp : Nat} {l : List Nat} (hr : RS w0 w rb l p) (h8 : By8 l) (hn : rdNum l = none) :
    Calls Try.prog 77 #[.pointer (some ⟨rb, 0, none⟩), .int .i64 ((dp + 1 : Nat) : Int)] w fun e w' => e = .panicked PAN ∧ Fr (fun j => j = rb) w w' := by
  have hdI : (0 : Int) < ((dp + 1 : Nat) : Int) := by omega
  have HM := hide (fun (W : World) => must_yes W)
  have HR0 := hide (hr.mono (up_alloc w (.cells #[.int .i64 0, .int .i64 0, .bool false, .slice none 0 0, .string ⟨#[]⟩, .slice none 0 0, .slice none 0 0] 64)))
  have HF := hide ((Fr.refl (fun j => j = rb) w).alloc (.cells #[.int .i64 0, .int .i64 0, .bool false, .slice none 0 0, .string ⟨#[]⟩, .slice none 0 0, .slice none 0 0] 64))
  have K := hide (rdnum_no HR0.out h8 hn)
  clear hr hn
  go_enter Try.func77, Try.ntmps77
  go_wp2_with (first
    | (go_at_call 46; refine (HM.out _).mono ?_; rintro e9 w9 ⟨rfl, hw⟩; replace hw := hw.symm; subst hw)
    | (go_at_call 60; refine K.out.mono ?_; rintro e1 w1 ⟨rfl, F1⟩; have HF1 := hide (HF.out.trans F1 (fun _ _ e => e)); clear F1))
  exact ⟨rfl, rfl, HF1.out⟩
theorem datum_of {h : Nat} (hC : DOK h) : DOK (h + 1) := by
  intro w0 w rb p dp l hr h8 hl hp hd hh
  have hD := data_of hC
  have hT := rest_of hC
  cases dp with
  | zero => exact (datum_zero w rb).mono (fun e w' q => by obtain ⟨rfl, F⟩ := q; exact RQ.mkno rfl F)
  | succ dp =>
    cases hn : rdNum l with
    | none =>
      have hno : rdDat (h + 1) (dp + 1) l p = none := by simp only [rdDat, hn]
      exact (datum_nonum hr h8 hn).mono (fun e w' q => by obtain ⟨rfl, F⟩ := q; exact RQ.mkno hno F)
    | some x =>
      obtain ⟨k, m⟩ := x
      by_cases hk : (1 ≤ k ∧ k ≤ 7) ∨ k = 9
      · have h9 : k = 1 ∨ k = 2 ∨ k = 3 ∨ k = 9 ∨ k = 4 ∨ k = 5 ∨ k = 6 ∨ k = 7 := by omega
        rcases h9 with rfl | rfl | rfl | rfl | rfl | rfl | rfl | rfl
        · exact datum_1 hD hT w0 w rb p dp l m hr h8 hl hp hd (by omega) hn
        · exact datum_2 hD hT w0 w rb p dp l m hr h8 hl hp hd (by omega) hn
        · exact datum_3 hD hT w0 w rb p dp l m hr h8 hl hp hd (by omega) hn
        · exact datum_9 hD hT w0 w rb p dp l m hr h8 hl hp hd (by omega) hn
        · exact datum_4 hD hT w0 w rb p dp l m hr h8 hl hp hd (by omega) hn
        · exact datum_5 hD hT w0 w rb p dp l m hr h8 hl hp hd (by omega) hn
        · exact datum_6 hD hT w0 w rb p dp l m hr h8 hl hp hd (by omega) hn
        · exact datum_7 hD hT w0 w rb p dp l m hr h8 hl hp hd (by omega) hn
      · exact datum_o hD hT w0 w rb p dp k l m hr h8 hl hp hd (by omega) hn ⟨fun h => hk (.inl h), fun h => hk (.inr h)⟩
theorem datum_all : (h : Nat) → DOK h
  | 0 => fun w0 w rb p dp l hr h8 hl hp hd hh => by
    have e : dp = 0 := by omega
    subst e
    exact (datum_zero w rb).mono (fun e w' q => by obtain ⟨rfl, F⟩ := q; exact RQ.mkno rfl F)
  | h + 1 => datum_of (datum_all h)
theorem data_all (h : Nat) : DTOK h := data_of (datum_all h)

end Go.Proofs.Ytilcigjhogcjkaa
