/-
  What is proved here: math/bits.Len32 answers how many binary digits a number has.
-/
import Derived.Test.YtjbocfhmfidjjaaDoorProg
import Derived.Test.YtjbocfhmfidjjaaDoorBase
import Derived.WalkLawsBesides
import Derived.Laws.MathBits
namespace Go.Proofs.YtjbocfhmfidjjaaDoor
open Go Go.RowKit

theorem ret_len {k : IntKind} {a b : Int} (h : a = b) : Ending.returned (.int k a) = .returned (.int k b) := by rw [h]

set_option maxHeartbeats 4000000 in
set_option maxRecDepth 1000000 in
theorem len32_any (x : Nat) (w : World) (hx : x < 4294967296) :
    Calls Tryd.prog 107 #[.int .u32 x] w fun e w' => e = .returned (.int .i64 (bitLen x)) ∧ w' = w := by
  by_cases h1 : x < 65536
  · by_cases h2 : x < 256
    · have b8 := bitLen_le8 x h2
      go_enter Tryd.func107, Tryd.ntmps107
      go_wp2
      go_ret
      refine ⟨ret_len ?_, rfl⟩
      rw [len8tab_get x h2]
      simp only [wrap64]
      omega
    · have h3 : x / 256 < 256 := by omega
      have b8 := bitLen_le8 (x / 256) h3
      have HS : Hid (bitLen x = 8 + bitLen (x / 256)) := hide (by have := bitLen_shift x 8 (by omega); rwa [show (2 : Nat) ^ 8 = 256 from rfl] at this)
      go_enter Tryd.func107, Tryd.ntmps107
      go_wp2
      go_ret
      refine ⟨ret_len ?_, rfl⟩
      rw [unhide HS, len8tab_get (x / 256) h3]
      simp only [wrap64]
      omega
  · by_cases h2 : x / 65536 < 256
    · have b8 := bitLen_le8 (x / 65536) h2
      have HS : Hid (bitLen x = 16 + bitLen (x / 65536)) := hide (by have := bitLen_shift x 16 (by omega); rwa [show (2 : Nat) ^ 16 = 65536 from rfl] at this)
      go_enter Tryd.func107, Tryd.ntmps107
      go_wp2
      go_ret
      refine ⟨ret_len ?_, rfl⟩
      rw [unhide HS, len8tab_get (x / 65536) h2]
      simp only [wrap64]
      omega
    · have h3 : x / 65536 / 256 < 256 := by omega
      have b8 := bitLen_le8 (x / 65536 / 256) h3
      have HS : Hid (bitLen x = 16 + bitLen (x / 65536)) := hide (by have := bitLen_shift x 16 (by omega); rwa [show (2 : Nat) ^ 16 = 65536 from rfl] at this)
      have HT : Hid (bitLen (x / 65536) = 8 + bitLen (x / 65536 / 256)) := hide (by have := bitLen_shift (x / 65536) 8 (by omega); rwa [show (2 : Nat) ^ 8 = 256 from rfl] at this)
      go_enter Tryd.func107, Tryd.ntmps107
      go_wp2
      go_ret
      refine ⟨ret_len ?_, rfl⟩
      rw [unhide HS, unhide HT, len8tab_get (x / 65536 / 256) h3]
      simp only [wrap64]
      omega

end Go.Proofs.YtjbocfhmfidjjaaDoor
