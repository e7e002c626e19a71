/-
  What is proved here: tandemlaw00's SameBytes of two rows of the same bytes, and a row of bytes as a string.
-/
import Derived.Test.YtilcigjhogcjkaaPKWr3
namespace Go.Proofs.Ytilcigjhogcjkaa
open Go Go.RowKit

/-- A string of these bytes. -/
def strL (l : List Nat) : ByteArray := strOfNums (l.map fun (x : Nat) => (x : Int))
theorem ByAt.conv {w : World} {B : Nat} {v : Value} {l : List Nat} (h : ByAt w B v l) : (convert 23 9 v).run Try.prog w = .ok (.string (strL l)) w := by
  have h' : w.ownsRow B 5 1 v l.length (cL l) := h
  rcases h'.2 with ⟨rfl, e0⟩ | ⟨g, cap, cur, rfl, _⟩
  · have hS : l = [] := List.eq_nil_of_length_eq_zero e0
    subst hS
    exact run_convert_bytes_nil w 23 5 Try.underlying23 Try.underlying5 0 0 9 Try.underlying9
  · exact run_convert_bytes_arg w 23 5 Try.underlying23 Try.underlying5 g 0 l.length cap _ (by simp) (fun j hj => by
      have := h'.cells (g := g) rfl j (.int .u8 l[j]) (by simp [cL, hj])
      have e : (⟨g, 0, none⟩ : Addr).add j = ⟨g, 0 + j, none⟩ := by simp only [Addr.add]; split <;> simp_all
      rw [← e, this]
      simp [List.getD_eq_getElem?_getD, hj]) 9 Try.underlying9
/-- Two rows of the same bytes are the same. -/
theorem sameBy_any (w : World) (a b : Value) (A B : Nat) (l : List Nat) (ha : ByAt w A a l) (hb : ByAt w B b l) :
    Calls Try.prog 11 #[a, b] w fun e w' => e = .returned (.bool true) ∧ w' = w := by
  have k1 := ha.conv
  have k2 := hb.conv
  obtain ⟨ao, ca, rfl⟩ : ∃ ao ca, a = .slice ao l.length ca := by
    rcases ha.2 with ⟨e, e0⟩ | ⟨g, cap, cur, e, _⟩
    · exact ⟨none, 0, by rw [e, e0]⟩
    · exact ⟨_, _, e⟩
  obtain ⟨bo, cb, rfl⟩ : ∃ bo cb, b = .slice bo l.length cb := by
    rcases hb.2 with ⟨e, e0⟩ | ⟨g, cap, cur, e, _⟩
    · exact ⟨none, 0, by rw [e, e0]⟩
    · exact ⟨_, _, e⟩
  clear ha hb
  go_enter Try.func11, Try.ntmps11
  go_wp2
  go_ret
  exact ⟨rfl, rfl⟩

end Go.Proofs.Ytilcigjhogcjkaa
