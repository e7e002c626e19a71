/-
  What is proved here: package show's goOn.
-/
import Derived.Test.YtfplplobhmacoaaGreatDoorSLast
import Derived.Deep.RegionHeld3
import Derived.Deep.RegionWith
namespace Go.Proofs.YtfplplobhmacoaaGreatDoor
open Go Go.RowKit

/-- What is told, and what is left, are together as they were; less is left. -/
def GoneOn (w0 : World) (tb : Nat) (out : List UInt8) (σ : List RowP) (w' : World) : Prop :=
  ∃ out' σ', TS w0 tb out' σ' w' ∧ out' ++ pendA σ' = out ++ pendA σ ∧ wtA σ' < wtA σ

theorem LastAt.drop2 {w0 : World} {tb : Nat} {out : List UInt8} {σ : List RowP} {g cap : Nat} {a0 a1 a2 a3 a4 : Value} {w : World} (h : LastAt w0 tb out σ g cap a0 a1 a2 a3 a4 w) :
    w.drew.frozen? ⟨tb, 2, none⟩ = false ∧ TS w0 tb out σ (w.drew.setCell ⟨tb, 2, none⟩ (.slice (some ⟨g, 0, none⟩) σ.length cap)) := (h.more (up_drew w)).pop

set_option maxHeartbeats 4000000 in
set_option maxRecDepth 100000 in
/-- Nothing is left in the innermost row. -/
theorem goOn_end (w0 : World) (tb : Nat) (out : List UInt8) (σ : List RowP) (H : Nat) (sh : Bool) (gap fin : ByteArray) (w : World) (hS : TS w0 tb out (σ ++ [⟨H, sh, gap, [], [], fin⟩]) w) (hlen : out.length + fin.size ≤ 140737488355328) (hσ : σ.length ≤ 1000000000) :
    Calls Tryz.prog 24 #[.pointer (some ⟨tb, 0, none⟩)] w fun e w' => e = .returned (.tuple #[]) ∧ GoneOn w0 tb out (σ ++ [⟨H, sh, gap, [], [], fin⟩]) w' := by
  obtain ⟨g, cap, a0, a1, a2, a3, a4, hA, hC⟩ := hS.last
  obtain ⟨lv, rv, he, hl, hr⟩ := id hC
  simp at he
  obtain ⟨rfl, rfl, rfl, rfl, rfl⟩ := he
  obtain ⟨aol, capl, rfl⟩ := hl.shape
  obtain ⟨aor, capr, rfl⟩ := hr.shape
  obtain ⟨c0, c1, c2, c3, c4, c5⟩ := hA.cell
  have hsz := bytes_len fin
  have hcap := hA.hcap
  have hmax := hA.hmax
  have KP := fun (W : World) (hW : LastAt w0 tb out σ g cap _ _ _ _ _ W) => put_new w0 tb out (σ ++ [⟨H, sh, gap, [], [], fin⟩]) [fin] 1 W (hW.ts hC) (by simp [flat]; omega) (by simp)
  simp only [List.map_cons, List.map_nil, List.length_cons, List.length_nil, Nat.zero_add] at KP
  have HP := hide KP
  have HA := hide hA
  simp only [List.length_nil] at *
  generalize howI sh = hw at *
  obtain ⟨n, hn⟩ : ∃ n, n = σ.length := ⟨_, rfl⟩
  rw [← hn] at c0 c1 c2 c3 c4 c5 hcap hσ
  have HN := hide hn
  have hlt : (n : Int) < (n : Int) + 1 := by omega
  have hnI : (n : Int) + 1 - 1 = n := by omega
  clear KP hS hA hl hr hC hn hlen hsz
  go_enter Tryz.func24, Tryz.ntmps24
  go_wp2
  go_region
  have hA1 := HA.out.more (up_drew w)
  clear c0 c1 c2 c3 c4 c5
  generalize w.drew = W at *
  obtain ⟨c0, c1, c2, c3, c4, c5⟩ := hA1.cell
  rw [← HN.out] at c0 c1 c2 c3 c4 c5
  have HA1 := hide hA1
  clear hA1
  go_wp2_with (go_at_call 38; refine (HP.out _ HA1.out).mono ?_; rintro e w3 ⟨rfl, h3, -, -⟩)
  obtain ⟨g', cap', b0, b1, b2, b3, b4, hB, hBC⟩ := h3.last
  obtain ⟨hz, hT⟩ := hB.drop2
  have d0 := hB.cell.1
  have hcap' := hB.hcap
  have hmax' := hB.hmax
  rw [← HN.out] at d0 hcap' hT
  have HT := hide hT
  clear hT hB hBC h3 c0 c1 c2 c3 c4 c5
  go_region
  go_wp2
  go_end0
  refine ⟨rfl, _, _, HT.out, ?_, ?_⟩
  · rw [pendA_snoc]
    simp [flat, pendR, its, dotW]
  · rw [wtA_snoc]
    simp [wtR]

end Go.Proofs.YtfplplobhmacoaaGreatDoor
