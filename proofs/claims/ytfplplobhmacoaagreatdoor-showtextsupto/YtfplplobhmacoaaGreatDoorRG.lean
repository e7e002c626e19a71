/-
  What is proved here: package read's letterOf, at the names that package show gives.
-/
import Derived.Test.YtfplplobhmacoaaGreatDoorRE
import Derived.Test.YtfplplobhmacoaaGreatDoorRF
namespace Go.Proofs.YtfplplobhmacoaaGreatDoor
open Go Go.RowKit

set_option maxHeartbeats 2000000 in
set_option maxRecDepth 100000 in
theorem letterOf_ch (n : Nat) (hn : n < 256) (w : World) :
    Calls Tryz.prog 35 #[.string ⟨(chW (n : Int)).toArray⟩] w fun e w' => e = .returned (.tuple #[.int .i64 (n : Int), .bool true]) ∧ w' = w := by
  unfold chW
  by_cases h1 : n = 32
  · subst h1
    go_enter Tryz.func35, Tryz.ntmps35
    go_wp2
    refine bodyPost_ret (by simp [results, Tryz.results35, go_sem]; rfl) rfl ?_
    exact ⟨rfl, rfl⟩
  rw [if_neg (by omega)]
  by_cases h2 : n = 10
  · subst h2
    go_enter Tryz.func35, Tryz.ntmps35
    go_wp2
    refine bodyPost_ret (by simp [results, Tryz.results35, go_sem]; rfl) rfl ?_
    exact ⟨rfl, rfl⟩
  rw [if_neg (by omega)]
  by_cases h3 : n = 9
  · subst h3
    go_enter Tryz.func35, Tryz.ntmps35
    go_wp2
    refine bodyPost_ret (by simp [results, Tryz.results35, go_sem]; rfl) rfl ?_
    exact ⟨rfl, rfl⟩
  rw [if_neg (by omega)]
  by_cases h4 : n = 0
  · subst h4
    go_enter Tryz.func35, Tryz.ntmps35
    go_wp2
    refine bodyPost_ret (by simp [results, Tryz.results35, go_sem]; rfl) rfl ?_
    exact ⟨rfl, rfl⟩
  rw [if_neg (by omega)]
  have e5 : ((n : Int) % 256).toNat = n := by omega
  rw [e5]
  by_cases h5 : 32 < n ∧ n ≤ 126
  · rw [if_pos (by omega)]
    have e6 : (n : Int) % 256 = n := by omega
    have z1 : ((⟨[n.toUInt8].toArray⟩ : ByteArray)).size = 1 := rfl
    have z2 : ∀ h, ((⟨[n.toUInt8].toArray⟩ : ByteArray))[0]'h = n.toUInt8 := fun h => rfl
    generalize (⟨[n.toUInt8].toArray⟩ : ByteArray) = s at *
    have HE := hide e6
    clear e5 e6
    go_enter Tryz.func35, Tryz.ntmps35
    go_wp2
    refine bodyPost_ret (by simp [results, Tryz.results35, go_sem]; rfl) rfl ?_
    refine ⟨?_, rfl⟩
    rw [HE.out]
  · rw [if_neg (by omega)]
    have KP := fun (W : World) => prefix_any ⟨(120 :: two n).toArray⟩ ⟨#[120]⟩ W
    have KH := fun (W : World) => hexBegin_any ((⟨(120 :: two n).toArray⟩ : ByteArray).extract 1 3) W (by rw [ByteArray.size_extract]; omega)
    have e7 : ((⟨(120 :: two n).toArray⟩ : ByteArray).extract 1 3).data.toList = [hexd (n / 16), hexd (n % 16)] := by
      simp [two, ByteArray.data_extract]
    rw [e7, hexP_two n hn] at KH
    have e8 : Lib.hasPrefix (⟨(120 :: two n).toArray⟩ : ByteArray).data.toList (⟨#[120]⟩ : ByteArray).data.toList = true := by simp [two, Lib.hasPrefix]
    rw [e8] at KP
    have z1 : ((⟨(120 :: two n).toArray⟩ : ByteArray)).size = 3 := rfl
    have z2 : (⟨(120 :: two n).toArray⟩ : ByteArray).toList = [120, hexd (n / 16), hexd (n % 16)] := by rw [ByteArray.toList_eq]; rfl
    generalize (⟨(120 :: two n).toArray⟩ : ByteArray) = s at *
    have HP := hide KP
    have HH := hide KH
    clear KP KH e7 e8 e5
    go_enter Tryz.func35, Tryz.ntmps35
    go_wp2_with (first
      | (go_at_call 29; refine (HP.out _).mono ?_; rintro e w1 ⟨rfl, rfl⟩)
      | (go_at_call 53; refine (HH.out _).mono ?_; rintro e w2 ⟨rfl, rfl⟩))
    refine bodyPost_ret (by simp [results, Tryz.results35, go_sem]; rfl) rfl ?_
    exact ⟨rfl, rfl⟩

end Go.Proofs.YtfplplobhmacoaaGreatDoor
