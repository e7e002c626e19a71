/-
  What is proved here: package show's list.
-/
import Derived.Test.YtfplplobhmacoaaGreatDoorSText2
namespace Go.Proofs.YtfplplobhmacoaaGreatDoor
open Go Go.RowKit

/-- A datum is told, or its beginning, and the rest is left to rows that are less. -/
def Told (w0 : World) (tb : Nat) (out : List UInt8) (σ : List RowP) (sh : Bool) (h : Nat) (d : Tr h) (w' : World) : Prop :=
  ∃ out' σ', TS w0 tb out' σ' w' ∧ out' ++ pendA σ' = out ++ (wr h sh d ++ pendA σ) ∧ wtA σ' < wtA σ + bk h d

theorem RowD.one {α : Type} {w : World} {P : α → List Value → Prop} {a : α} {I : List α} {b off cap : Nat} (h : RowD w P (.slice (some ⟨b, off, none⟩) (I.length + 1) cap) (a :: I)) : RowD w P (.slice (some ⟨b, off, none⟩) 1 cap) [a] := by
  obtain ⟨ao, cap', e, h1, h2, h3⟩ := h
  cases e
  refine ⟨_, _, rfl, by simp at *; omega, h2, ?_⟩
  rcases h3 with h3 | ⟨b', off', e, h3⟩
  · simp at h3
  · refine .inr ⟨b', off', e, fun i hi => ?_⟩
    have hi0 : i = 0 := by simp at hi; omega
    subst hi0
    exact h3 0 (by simp)
theorem RowD.nil' {α : Type} (w : World) (P : α → List Value → Prop) : RowD w P (.slice none 0 0) ([] : List α) := ⟨none, 0, rfl, Nat.le_refl _, by decide, .inl rfl⟩

theorem bk_pos {h : Nat} (d : Tr (h + 1)) : 2 ≤ bk (h + 1) d := by
  obtain ⟨k, n, b, L, t, I, R⟩ := d
  simp only [bk]
  omega

set_option maxHeartbeats 4000000 in
set_option maxRecDepth 100000 in
theorem list_any (w0 : World) (tb : Nat) (out : List UInt8) (σ : List RowP) (sh : Bool) (w : World) (h : Nat) (n : Int) (b : Bool) (L : List Nat) (t : ByteArray) (I R : List (Tr h)) (um ui ur : Value) (hS : TS w0 tb out σ w) (hlen : out.length + 200 ≤ 140737488355328) (hσ : σ.length ≤ 1000000000)
    (hM : Sl .u32 w0 um L.length (fun i => L.getD i 0)) (hI : RowD w0 (DatC w0 h) ui I) (hR : RowD w0 (DatC w0 h) ur R) :
    Calls Tryz.prog 43 #[.pointer (some ⟨tb, 0, none⟩), .agg #[.int .i64 6, .int .i64 n, .bool b, um, .string t, ui, ur], .int .i64 (howI sh)] w fun e w' => e = .returned (.tuple #[]) ∧ Told w0 tb out σ sh (h + 1) (6, n, b, L, t, I, R) w' := by
  obtain ⟨aom, capm, rfl, -⟩ := hM
  obtain ⟨aoi, capi, rfl⟩ := hI.shape
  have HS := hide hS
  by_cases hA : I = [] ∧ R ≠ []
  · obtain ⟨rfl, hR0⟩ := hA
    obtain ⟨r, R', rfl⟩ : ∃ r R', R = r :: R' := by
      cases R with
      | nil => exact absurd rfl hR0
      | cons r R' => exact ⟨r, R', rfl⟩
    obtain ⟨rb, ro, capr, rfl, c1, c2, -⟩ := hR.head
    have hone := hR.one
    have KB := fun (W : World) (hW : TS w0 tb out σ W) => begin_any w0 tb out σ ⟨h, sh, ⟨#[]⟩, [r], [], ⟨#[]⟩⟩ [] (.slice none 0 0) (.int .i64 (howI sh)) (.string ⟨#[]⟩) (.slice (some ⟨rb, ro, none⟩) 1 capr) (.slice none 0 0) (.string ⟨#[]⟩) W hW ⟨none, 0, rfl, .inl rfl⟩ (by simp [flat]; omega) (by simp) ⟨_, _, rfl, hone, RowD.nil' _ _⟩ hσ
    have HB := hide KB
    have hcp : ((1 : Nat) : Int) ≤ (capr : Int) := by omega
    generalize howI sh = H at *
    have hl : (0 : Int) < ((R'.length : Int) + 1) := by omega
    clear KB hI hR hone hS c2 hR0
    simp only [List.length_nil]
    go_enter Tryz.func43, Tryz.ntmps43
    go_wp2_with (go_at_call 44; refine (HB.out _ (HS.out.more (up_alloc w _))).mono ?_; rintro e w2 ⟨rfl, h2⟩)
    ((try simp only [Exit.inBlock, Exit.then]); refine bodyPost_ret (results_none rfl _ _ _) rfl ?_)
    refine ⟨rfl, _, _, h2, ?_, ?_⟩
    · rw [pendA_snoc]
      simp [flat, pendR, its, dotW, wr]
    · rw [wtA_snoc]
      simp [wtR, bk]
      omega
  · have hc : ¬ I.length = 0 ∨ (I.length = 0 ∧ R.length = 0) := by
      cases I with
      | nil => cases R with
        | nil => exact .inr ⟨rfl, rfl⟩
        | cons r R' => exact absurd ⟨rfl, by simp⟩ hA
      | cons i I' => exact .inl (by simp)
    have hw : wr (h + 1) sh (6, n, b, L, t, I, R) = [40] ++ its (wr h sh) [] I ++ dotW (wr h sh) R ++ [41] := by
      cases I with
      | nil => cases R with
        | nil => simp [wr, its, dotW]
        | cons r R' => exact absurd ⟨rfl, by simp⟩ hA
      | cons i I' => simp [wr]
    obtain ⟨aor, capr, rfl⟩ := hR.shape
    obtain ⟨W, hW⟩ : ∃ W, W = w.alloc (.cells #[.int .i64 6, .int .i64 n, .bool b, .slice aom L.length capm, .string t, .slice aoi I.length capi, .slice aor R.length capr] 32) := ⟨_, rfl⟩
    have SW : TS w0 tb out σ W := by rw [hW]; exact hS.more (up_alloc w _)
    have zW : W.heap.size = w.heap.size + 1 := by rw [hW, World.size_alloc]
    have KB := begin_any w0 tb out σ ⟨h, sh, ⟨#[]⟩, I, R, ⟨#[41]⟩⟩ [⟨#[40]⟩] (.slice (some ⟨W.heap.size, 0, none⟩) 1 1) (.int .i64 (howI sh)) (.string ⟨#[]⟩) (.slice aoi I.length capi) (.slice aor R.length capr) (.string ⟨#[41]⟩) (W.alloc (.cells #[.string ⟨#[40]⟩] 9)) (SW.more (up_alloc W _)) (pcs_new W [⟨#[40]⟩] 1) (by simp [flat]; omega) (by simp) ⟨_, _, rfl, hI, hR⟩ hσ
    rw [zW, hW] at KB
    have HB := hide KB
    have HW := hide hw
    generalize howI sh = H at *
    obtain ⟨li, hli⟩ : ∃ li, li = I.length := ⟨_, rfl⟩
    obtain ⟨lr, hlr⟩ : ∃ lr, lr = R.length := ⟨_, rfl⟩
    rw [← hli, ← hlr] at HB hc ⊢
    clear HS
    have HC := hide (And.intro hli hlr)
    clear KB hI hR hS hw hA hli hlr SW zW hW
    have HE : ∀ w2, TS w0 tb (out ++ flat [⟨#[40]⟩]) (σ ++ [⟨h, sh, ⟨#[]⟩, I, R, ⟨#[41]⟩⟩]) w2 → Told w0 tb out σ sh (h + 1) (6, n, b, L, t, I, R) w2 := fun w2 h2 => by
      refine ⟨_, _, h2, ?_, ?_⟩
      · rw [pendA_snoc, HW.out]
        simp [flat, pendR]
      · rw [wtA_snoc]
        simp [wtR, bk]
        omega
    have HQ := hide HE
    clear HE HW
    rcases hc with hc | ⟨hc, hc2⟩
    · go_enter Tryz.func43, Tryz.ntmps43
      go_wp2_with (go_at_call 44; refine HB.out.mono ?_; rintro e w2 ⟨rfl, h2⟩)
      go_end0
      exact ⟨rfl, HQ.out _ h2⟩
    · subst hc hc2
      go_enter Tryz.func43, Tryz.ntmps43
      go_wp2_with (go_at_call 44; refine HB.out.mono ?_; rintro e w2 ⟨rfl, h2⟩)
      go_end0
      exact ⟨rfl, HQ.out _ h2⟩

end Go.Proofs.YtfplplobhmacoaaGreatDoor
