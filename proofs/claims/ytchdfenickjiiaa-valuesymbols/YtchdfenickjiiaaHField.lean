/-
  What is proved here: where the fields of an object of a half lie.
-/
import Derived.Test.YtchdfenickjiiaaHHalf
namespace Go.Proofs.Ytchdfenickjiiaa
open Go Go.RowKit

set_option maxRecDepth 20000 in
theorem tfield_none (T : TypeId) (w : World) (hb : Nat) (cur : Array Value) (o : Nat) (v u : Value) (n : Nat) (f : Nat → Nat) (m : Nat) (s : Nat → Nat) (x : Nat) (i : Int) (h : HalfAt 22 T w hb cur o v u n f m s) (hm : m ≤ 1048576) (hs : ∀ i, i < m → s i < 18446744073709551616) (hx : x < 18446744073709551616) (hp : isPtr (marks m s) x = false) :
    Calls Try.prog 77 #[.pointer (some ⟨hb, o, none⟩), .int .u64 (x : Int), .int .i64 i] w fun e w' => e = .returned (.pointer none) ∧ ∃ q, w' = w.drewN q := by
  by_cases hi : i < 0
  all_goals
    go_enter Try.func77, Try.ntmps77
    go_wp2_with (first | (go_at_call 75; refine (object_no T _ _ cur _ v u n f m s _ h hm hs hx hp).mono ?_; rintro e w' ⟨rfl, rfl⟩) | (go_at_call 76; refine (tagged_any 0 _ (by decide)).mono ?_; rw [hTag_zero]; rintro e w' ⟨rfl, rfl⟩))
    go_ret
    exact ⟨rfl, 0, rfl⟩

set_option maxRecDepth 20000 in
theorem tfield_out (T : TypeId) (w : World) (hb : Nat) (cur : Array Value) (o : Nat) (v u : Value) (n : Nat) (f : Nat → Nat) (m : Nat) (s : Nat → Nat) (x p : Nat) (i : Int) (h : HalfAt 22 T w hb cur o v u n f m s) (hm : m ≤ 1048576) (hs : ∀ i, i < m → s i < 18446744073709551616) (hx : x < 18446744073709551616) (hp : isPtr (marks m s) x = true) (hxp : x / 4 = p) (hn : p < n) (hf : f p < 18446744073709551616) (hi : i < 0 ∨ (hTag (f p) : Int) ≤ i) :
    Calls Try.prog 77 #[.pointer (some ⟨hb, o, none⟩), .int .u64 (x : Int), .int .i64 i] w fun e w' => e = .returned (.pointer none) ∧ ∃ q, w' = w.drewN q := by
  have HH := hide h
  clear h
  by_cases h0 : i < 0
  · clear hi
    go_enter Try.func77, Try.ntmps77
    go_wp2_with (go_at_call 75; refine (object_yes T _ _ cur _ _ u n f m s _ p HH.out hm hs hx hp hxp hn).mono ?_; rintro e w' ⟨rfl, q, rfl⟩)
    go_ret
    exact ⟨rfl, _, rfl⟩
  · have hi' : (hTag (f p) : Int) ≤ i := by omega
    clear hi
    go_enter Try.func77, Try.ntmps77
    go_wp2_with (first | (go_at_call 75; refine (object_yes T _ _ cur _ _ u n f m s _ p HH.out hm hs hx hp hxp hn).mono ?_; rintro e w' ⟨rfl, q, rfl⟩) | (go_at_call 76; refine (tagged_any _ _ hf).mono ?_; rintro e w' ⟨rfl, rfl⟩))
    go_ret
    exact ⟨rfl, _, rfl⟩

set_option maxRecDepth 20000 in
theorem tfield_in (T : TypeId) (w : World) (hb : Nat) (cur : Array Value) (o : Nat) (g cap : Nat) (u : Value) (n : Nat) (f : Nat → Nat) (m : Nat) (s : Nat → Nat) (x p i : Nat) (h : HalfAt 22 T w hb cur o (.slice (some ⟨g, 0, none⟩) n cap) u n f m s) (hm : m ≤ 1048576) (hs : ∀ i, i < m → s i < 18446744073709551616) (hx : x < 18446744073709551616) (hp : isPtr (marks m s) x = true) (hxp : x / 4 = p) (hn : p < n) (hf : f p < 18446744073709551616) (hi : i < hTag (f p)) (hin : p + 1 + i < n) (hn2 : n ≤ 1048576) (_hcap : n ≤ cap) (_hcap2 : cap ≤ 9223372036854775807) :
    Calls Try.prog 77 #[.pointer (some ⟨hb, o, none⟩), .int .u64 (x : Int), .int .i64 (i : Int)] w fun e w' => e = .returned (.pointer (some ⟨g, p + 1 + i, none⟩)) ∧ ∃ q, w' = w.drewN q := by
  have hcv := h.cellv
  have HH := hide h
  clear h
  go_enter Try.func77, Try.ntmps77
  go_wp2_with (first | (go_at_call 75; refine (object_yes T _ _ cur _ _ u n f m s _ p HH.out hm hs hx hp hxp hn).mono ?_; rintro e w' ⟨rfl, q, rfl⟩) | (go_at_call 76; refine (tagged_any _ _ hf).mono ?_; rintro e w' ⟨rfl, rfl⟩))
  go_ret
  exact ⟨rfl, _, rfl⟩

set_option maxRecDepth 20000 in
theorem rfield_none (T : TypeId) (w : World) (hb : Nat) (cur : Array Value) (o : Nat) (v u : Value) (n : Nat) (f : Nat → Nat) (m : Nat) (s : Nat → Nat) (x : Nat) (i : Int) (h : HalfAt 22 T w hb cur o v u n f m s) (hm : m ≤ 1048576) (hs : ∀ i, i < m → s i < 18446744073709551616) (hx : x < 18446744073709551616) (hp : isPtr (marks m s) x = false) :
    Calls Try.prog 91 #[.pointer (some ⟨hb, o, none⟩), .int .u64 (x : Int), .int .i64 i] w fun e w' => e = .returned (.pointer none) ∧ ∃ q, w' = w.drewN q := by
  by_cases hi : i < 0
  all_goals
    go_enter Try.func91, Try.ntmps91
    go_wp2_with (first | (go_at_call 75; refine (object_no T _ _ cur _ v u n f m s _ h hm hs hx hp).mono ?_; rintro e w' ⟨rfl, rfl⟩) | (go_at_call 107; refine (raws_any 0 _ (by decide)).mono ?_; rw [hRaw_zero]; rintro e w' ⟨rfl, rfl⟩))
    go_ret
    exact ⟨rfl, 0, rfl⟩

set_option maxRecDepth 20000 in
theorem rfield_out (T : TypeId) (w : World) (hb : Nat) (cur : Array Value) (o : Nat) (v u : Value) (n : Nat) (f : Nat → Nat) (m : Nat) (s : Nat → Nat) (x p : Nat) (i : Int) (h : HalfAt 22 T w hb cur o v u n f m s) (hm : m ≤ 1048576) (hs : ∀ i, i < m → s i < 18446744073709551616) (hx : x < 18446744073709551616) (hp : isPtr (marks m s) x = true) (hxp : x / 4 = p) (hn : p < n) (hf : f p < 18446744073709551616) (hi : i < 0 ∨ (hRaw (f p) : Int) ≤ i) :
    Calls Try.prog 91 #[.pointer (some ⟨hb, o, none⟩), .int .u64 (x : Int), .int .i64 i] w fun e w' => e = .returned (.pointer none) ∧ ∃ q, w' = w.drewN q := by
  have HH := hide h
  clear h
  by_cases h0 : i < 0
  · clear hi
    go_enter Try.func91, Try.ntmps91
    go_wp2_with (go_at_call 75; refine (object_yes T _ _ cur _ _ u n f m s _ p HH.out hm hs hx hp hxp hn).mono ?_; rintro e w' ⟨rfl, q, rfl⟩)
    go_ret
    exact ⟨rfl, _, rfl⟩
  · have hi' : (hRaw (f p) : Int) ≤ i := by omega
    clear hi
    go_enter Try.func91, Try.ntmps91
    go_wp2_with (first | (go_at_call 75; refine (object_yes T _ _ cur _ _ u n f m s _ p HH.out hm hs hx hp hxp hn).mono ?_; rintro e w' ⟨rfl, q, rfl⟩) | (go_at_call 107; refine (raws_any _ _ hf).mono ?_; rintro e w' ⟨rfl, rfl⟩))
    go_ret
    exact ⟨rfl, _, rfl⟩

set_option maxRecDepth 20000 in
theorem rfield_in (T : TypeId) (w : World) (hb : Nat) (cur : Array Value) (o : Nat) (g cap : Nat) (u : Value) (n : Nat) (f : Nat → Nat) (m : Nat) (s : Nat → Nat) (x p i : Nat) (h : HalfAt 22 T w hb cur o (.slice (some ⟨g, 0, none⟩) n cap) u n f m s) (hm : m ≤ 1048576) (hs : ∀ i, i < m → s i < 18446744073709551616) (hx : x < 18446744073709551616) (hp : isPtr (marks m s) x = true) (hxp : x / 4 = p) (hn : p < n) (hf : f p < 18446744073709551616) (hi : i < hRaw (f p)) (hin : p + 1 + hTag (f p) + i < n) (hn2 : n ≤ 1048576) (_hcap : n ≤ cap) (_hcap2 : cap ≤ 9223372036854775807) :
    Calls Try.prog 91 #[.pointer (some ⟨hb, o, none⟩), .int .u64 (x : Int), .int .i64 (i : Int)] w fun e w' => e = .returned (.pointer (some ⟨g, p + 1 + hTag (f p) + i, none⟩)) ∧ ∃ q, w' = w.drewN q := by
  have hcv := h.cellv
  have HH := hide h
  clear h
  go_enter Try.func91, Try.ntmps91
  go_wp2_with (first | (go_at_call 75; refine (object_yes T _ _ cur _ _ u n f m s _ p HH.out hm hs hx hp hxp hn).mono ?_; rintro e w1 ⟨rfl, q, hq⟩; have hcv1 := (drewN_cell hq _).trans hcv; have HQ := hide hq; clear hq) | (go_at_call 107; refine (raws_any _ _ hf).mono ?_; rintro e w' ⟨rfl, rfl⟩))
  have hT := hTag_lt (f p)
  go_quiet ((go_at_call 76; exact Calls.quiet_of_same (tagged_any _ _ hf)))
  go_wp2
  go_ret
  refine ⟨rfl, q + nq, ?_⟩
  rw [HQ.out, World.drewN_drewN]

end Go.Proofs.Ytchdfenickjiiaa
