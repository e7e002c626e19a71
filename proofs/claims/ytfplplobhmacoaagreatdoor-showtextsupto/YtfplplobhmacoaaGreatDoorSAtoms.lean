/-
  What is proved here: package show's small texts: oneByte, twoDigits, truth, letterName.
-/
import Derived.Test.YtfplplobhmacoaaGreatDoorSState
import Derived.Laws.BytesString
namespace Go.Proofs.YtfplplobhmacoaaGreatDoor
open Go Go.RowKit

theorem toN (b : UInt8) : UInt8.ofNat b.toNat = b := by simp
/-- A row of bytes, as a text. -/
theorem conv_at (W : World) (g : Nat) (l : List UInt8) (cap : Nat) {f : Nat × Nat} (h : W.heap[g]? = some (.cells (Lib.byteCells l).toArray 5 f)) :
    (convert 37 9 (.slice (some ⟨g, 0, none⟩) l.length cap)).run Tryz.prog W = .ok (.string ⟨l.toArray⟩) W := by
  exact run_convert_bytes_back (P := Tryz.prog) W 37 9 5 ⟨g, 0, none⟩ cap l Tryz.underlying37 Tryz.underlying5 Tryz.underlying9 (fun j hj => by
    rw [Addr.add_lit, Nat.zero_add, cell_of_row _ _ j _ _ _ h]
    simp [Lib.byteCells, hj])
theorem conv_new (w : World) (l : List UInt8) (cap : Nat) :
    (convert 37 9 (.slice (some ⟨w.heap.size, 0, none⟩) l.length cap)).run Tryz.prog (w.alloc (.cells (Lib.byteCells l).toArray 5)) = .ok (.string ⟨l.toArray⟩) (w.alloc (.cells (Lib.byteCells l).toArray 5)) :=
  conv_at _ _ l cap (heap_alloc_new w _)

set_option maxHeartbeats 1000000 in
set_option maxRecDepth 100000 in
theorem oneByte_any (b : UInt8) (w : World) :
    Calls Tryz.prog 60 #[.int .u8 (b.toNat : Int)] w fun e w' => e = .returned (.string ⟨#[b]⟩) ∧ Up w w' := by
  have kc := conv_new w [b] 1
  simp only [Lib.byteCells, List.map_cons, List.map_nil, List.length_cons, List.length_nil, Nat.zero_add] at kc
  go_enter Tryz.func60, Tryz.ntmps60
  go_wp2
  go_ret
  exact ⟨rfl, up_alloc w _⟩

theorem truth_any (n : Int) (w : World) :
    Calls Tryz.prog 40 #[.int .i64 n] w fun e w' => e = .returned (.string (if n = 1 then ⟨#[35, 116]⟩ else ⟨#[35, 102]⟩)) ∧ w' = w := by
  by_cases h : n = 1
  · rw [if_pos h]
    subst h
    go_enter Tryz.func40, Tryz.ntmps40
    go_wp2
    go_ret
    exact ⟨rfl, rfl⟩
  · rw [if_neg h]
    go_enter Tryz.func40, Tryz.ntmps40
    go_wp2
    go_ret
    exact ⟨rfl, rfl⟩

theorem hex_get (k : Nat) (hk : k < 16) : ∀ h, (⟨#[48, 49, 50, 51, 52, 53, 54, 55, 56, 57, 97, 98, 99, 100, 101, 102]⟩ : ByteArray)[k]'h = hexd k := by
  have : k = 0 ∨ k = 1 ∨ k = 2 ∨ k = 3 ∨ k = 4 ∨ k = 5 ∨ k = 6 ∨ k = 7 ∨ k = 8 ∨ k = 9 ∨ k = 10 ∨ k = 11 ∨ k = 12 ∨ k = 13 ∨ k = 14 ∨ k = 15 := by omega
  rcases this with rfl | rfl | rfl | rfl | rfl | rfl | rfl | rfl | rfl | rfl | rfl | rfl | rfl | rfl | rfl | rfl <;> (intro h; rfl)

set_option maxHeartbeats 1000000 in
set_option maxRecDepth 100000 in
theorem twoDigits_any (b : UInt8) (w : World) :
    Calls Tryz.prog 74 #[.int .u8 (b.toNat : Int)] w fun e w' => e = .returned (.string ⟨(two b.toNat).toArray⟩) ∧ Up w w' := by
  obtain ⟨n, hn⟩ : ∃ n, n = b.toNat := ⟨_, rfl⟩
  have hb : n < 256 := by rw [hn]; exact b.toNat_lt
  rw [← hn]
  have HN := hide hn
  clear hn
  have l0 : 0 ≤ (n : Int) % 16 := by omega
  have l1 : (n : Int) % 16 < 16 := by omega
  have l2 : ((n : Int) % 16).toNat = n % 16 := by omega
  have u0 : 0 ≤ (n : Int) / 16 := by omega
  have u1 : (n : Int) / 16 < 16 := by omega
  have u2 : ((n : Int) / 16).toNat = n / 16 := by omega
  have x1 := hex_get (n / 16) (by omega)
  have x2 := hex_get (n % 16) (by omega)
  have kc := conv_at (w.alloc (.cells (Lib.byteCells [hexd (n / 16), hexd (n % 16)]).toArray 5)).drew w.heap.size [hexd (n / 16), hexd (n % 16)] 2 (heap_alloc_new w _)
  simp only [Lib.byteCells, List.map_cons, List.map_nil, List.length_cons, List.length_nil, Nat.zero_add, Nat.reduceAdd] at kc
  go_enter Tryz.func74, Tryz.ntmps74
  go_wp2
  go_region
  all_goals (go_wp2; go_ret; exact ⟨rfl, (up_alloc w _).tr (up_drew _)⟩)

set_option maxHeartbeats 2000000 in
set_option maxRecDepth 100000 in
theorem letterName_any (n : Int) (hn : -9223372036854775808 ≤ n ∧ n ≤ 9223372036854775807) (w : World) :
    Calls Tryz.prog 61 #[.int .i64 n] w fun e w' => e = .returned (.string ⟨(chW n).toArray⟩) ∧ Up w w' := by
  have hb : n % 256 = (((n % 256).toNat.toUInt8).toNat : Int) := by simp; omega
  have hu : (n % 256).toNat.toUInt8.toNat = (n % 256).toNat := by simp; omega
  unfold chW
  by_cases h1 : n = 32
  · subst h1
    go_enter Tryz.func61, Tryz.ntmps61
    go_wp2
    go_ret
    exact ⟨rfl, Up.refl w⟩
  rw [if_neg h1]
  by_cases h2 : n = 10
  · subst h2
    go_enter Tryz.func61, Tryz.ntmps61
    go_wp2
    go_ret
    exact ⟨rfl, Up.refl w⟩
  rw [if_neg h2]
  by_cases h3 : n = 9
  · subst h3
    go_enter Tryz.func61, Tryz.ntmps61
    go_wp2
    go_ret
    exact ⟨rfl, Up.refl w⟩
  rw [if_neg h3]
  by_cases h4 : n = 0
  · subst h4
    go_enter Tryz.func61, Tryz.ntmps61
    go_wp2
    go_ret
    exact ⟨rfl, Up.refl w⟩
  rw [if_neg h4]
  have K1 := fun w => oneByte_any ((n % 256).toNat.toUInt8) w
  have K2 := fun w => twoDigits_any ((n % 256).toNat.toUInt8) w
  rw [← hb] at K1 K2
  rw [hu] at K2
  unfold two at *
  generalize (n % 256).toNat.toUInt8 = b at *
  generalize hexd ((n % 256).toNat / 16) = x at *
  generalize hexd ((n % 256).toNat % 16) = y at *
  have HK2 := hide K2
  clear K2 hb hu
  by_cases h5 : 32 < n ∧ n ≤ 126
  · rw [if_pos h5]
    obtain ⟨h6, h7⟩ := h5
    have hm : n % 256 = n := by omega
    rw [hm] at K1
    have HK1 := hide K1
    clear K1 hm
    go_enter Tryz.func61, Tryz.ntmps61
    go_wp2_with (go_at_call 60; refine (HK1.out _).mono ?_; rintro e w2 ⟨rfl, hu2⟩)
    go_ret
    exact ⟨rfl, hu2⟩
  · rw [if_neg h5]
    have h8 : ¬ 32 < n ∨ (32 < n ∧ ¬ n ≤ 126) := by omega
    clear h5 K1
    rcases h8 with h8 | ⟨h8, h9⟩
    · go_enter Tryz.func61, Tryz.ntmps61
      go_wp2_with (go_at_call 74; refine (HK2.out _).mono ?_; rintro e w2 ⟨rfl, hu2⟩)
      go_ret
      exact ⟨rfl, hu2⟩
    · go_enter Tryz.func61, Tryz.ntmps61
      go_wp2_with (go_at_call 74; refine (HK2.out _).mono ?_; rintro e w2 ⟨rfl, hu2⟩)
      go_ret
      exact ⟨rfl, hu2⟩

end Go.Proofs.YtfplplobhmacoaaGreatDoor
