/-
  What is proved here: tandemlaw10.PackWrites of any protos that come in.
-/
import Derived.Test.YtilcigjhogcjkaaLPWrites
import Derived.Test.YtilcigjhogcjkaaRPRt6
import Derived.Test.YtilcigjhogcjkaaPKBulk
namespace Go.Proofs.Ytilcigjhogcjkaa
open Go Go.RowKit

theorem packWrites_top {N : Nat} (W : World) (ps : List (PC N)) (v : Value) (hr : RowD W (PCellN W) v ps) (hB : (ps.map pbk).sum + 1 ≤ 1048576) :
    Calls Try.prog 3 #[v] W fun e w' => e = .returned (.bool true) ∧ Fr (fun _ => False) W w' := by
  obtain ⟨h1, h2⟩ := bulk_parts hB
  have h3 := pg_len ps
  exact packWrites_of (right_all N) W ps v hr (by omega) (fun p hp => by have := h1 p hp; omega) (by omega)

end Go.Proofs.Ytilcigjhogcjkaa
