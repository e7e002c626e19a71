/-
  What is proved here: strings.IndexByte and HasPrefix; package read's hexBegin.
-/
import Derived.Test.YteipogfolnlblaaDoorWSData
import Derived.Lib.Bytealg
import Derived.Lib.Strings
import Derived.Lib.Walk
namespace Go.Proofs.YteipogfolnlblaaDoor
open Go Go.RowKit
set_option maxHeartbeats 1000000 in
set_option maxRecDepth 100000 in
theorem liteIdx_any (s : ByteArray) (c : Int) (w : World) :
    Calls Tryd.prog 77 #[.string s, .int .u8 c] w fun e w' => e = .returned (.int .i64 (Lib.indexByte s.data.toList c.toNat.toUInt8)) ∧ w' = w := by
  go_enter Tryd.func77, Tryd.ntmps77
  go_wp2
  rw [run_callFunc_extern Tryd.func90 (by kernel_rfl) (by kernel_rfl) (by kernel_rfl) (e := Extern.BytealgIndexByte.indexByte) (by kernel_rfl), Lib.run_indexByteString]
  simp only [Result.andThen]
  rw [Oper.upon_value]
  go_wp2
  go_ret
  exact ⟨rfl, rfl⟩

set_option maxHeartbeats 1000000 in
set_option maxRecDepth 100000 in
theorem index_any (s : ByteArray) (c : UInt8) (w : World) :
    Calls Tryd.prog 59 #[.string s, .int .u8 (c.toNat : Int)] w fun e w' => e = .returned (.int .i64 (Lib.indexByte s.data.toList c)) ∧ w' = w := by
  go_enter Tryd.func59, Tryd.ntmps59
  go_wp2_with (go_at_call 77; refine (liteIdx_any _ _ _).mono ?_; rintro e w' ⟨rfl, rfl⟩)
  go_ret
  exact ⟨by simp, rfl⟩

/-- The value of a hexadecimal digit, or less than 0. -/
def hx (c : UInt8) : Int := Lib.indexByte [48, 49, 50, 51, 52, 53, 54, 55, 56, 57, 97, 98, 99, 100, 101, 102] c

theorem idx_lt : ∀ (l : List UInt8) (c : UInt8), Lib.indexByte l c < (l.length : Int)
  | [], c => by simp [Lib.indexByte]
  | b :: l, c => by
    have ih := idx_lt l c
    simp only [Lib.indexByte, List.length_cons]
    split
    · omega
    · split
      · omega
      · omega

theorem hx_lt (c : UInt8) : hx c < 16 := by
  have := idx_lt [48, 49, 50, 51, 52, 53, 54, 55, 56, 57, 97, 98, 99, 100, 101, 102] c
  simpa [hx] using this

/-- The number that a text begins with, and of how many digits. -/
def hexP : List UInt8 → Int × Int
  | [] => (0, 0)
  | c :: l => if hx c < 0 then (0, 0) else match l with
    | [] => (hx c, 1)
    | e :: _ => if hx e < 0 then (hx c, 1) else (hx c * 16 + hx e, 2)

set_option maxHeartbeats 2000000 in
set_option maxRecDepth 100000 in
theorem hexBegin_any (s : ByteArray) (w : World) (hs : s.size ≤ 9223372036854775807) :
    Calls Tryd.prog 55 #[.string s] w fun e w' => e = .returned (.tuple #[.int .i64 (hexP s.data.toList).1, .int .i64 (hexP s.data.toList).2]) ∧ w' = w := by
  have KI : ∀ (c : UInt8) (W : World), Calls Tryd.prog 59 #[.string ⟨#[48, 49, 50, 51, 52, 53, 54, 55, 56, 57, 97, 98, 99, 100, 101, 102]⟩, .int .u8 (c.toNat : Int)] W fun e w' => e = .returned (.int .i64 (hx c)) ∧ w' = W := fun c W => index_any _ c W
  have HI := hide KI
  clear KI
  have hsI : (s.size : Int) ≤ 9223372036854775807 := by omega
  go_enter Tryd.func55, Tryd.ntmps55
  go_wp2_with fail
  go_loopw [2, 3] (fun a2 a3 wr => wr = w ∧ ((a2 = .int .i64 0 ∧ a3 = .int .i64 0) ∨ (∃ c l, s.data.toList = c :: l ∧ 0 ≤ hx c ∧ a2 = .int .i64 (hx c) ∧ a3 = .int .i64 1) ∨ (∃ c e l, s.data.toList = c :: e :: l ∧ 0 ≤ hx c ∧ 0 ≤ hx e ∧ a2 = .int .i64 (hx c * 16 + hx e) ∧ a3 = .int .i64 2))) (fun _ a3 _ => 2 - (intOf a3).toNat)
  case atStart => exact ⟨rfl, .inl ⟨rfl, rfl⟩⟩
  case round =>
    obtain ⟨rfl, hc⟩ := hrel
    rcases hc with ⟨rfl, rfl⟩ | ⟨c, l, hl, h0, rfl, rfl⟩ | ⟨c, e, l, hl, h0, h1, rfl, rfl⟩
    · match hl : s.data.toList with
      | [] =>
        have z0 : s.size = 0 := by rw [← bytes_len, hl]; rfl
        go_wp2_with fail
        refine bodyPost_ret (by simp [results, Tryd.results55, go_sem]; rfl) rfl ?_
        exact ⟨by simp [hl, hexP], rfl⟩
      | c :: l =>
        have z0 : s.size = l.length + 1 := by rw [← bytes_len, hl]; rfl
        have z1 : (0 : Int) < (s.size : Int) := by omega
        have z2 : 0 < s.size := by omega
        have e0 : s[0] = c := by
          have : s.data.toList[0]? = some c := by rw [hl]; rfl
          simpa [ByteArray.getElem_eq_getElem_data, Array.getElem?_eq_getElem, z2] using this
        have hX := hx_lt c
        by_cases hn : hx c < 0
        · go_wp2_with (go_at_call 59; refine (HI.out c _).mono ?_; rintro e w4 ⟨rfl, rfl⟩)
          refine bodyPost_ret (by simp [results, Tryd.results55, go_sem]; rfl) rfl ?_
          exact ⟨by simp [hl, hexP, hn], rfl⟩
        · have hn0 : 0 ≤ hx c := by omega
          go_wp2_with (go_at_call 59; refine (HI.out c _).mono ?_; rintro e w4 ⟨rfl, rfl⟩)
          exact ⟨⟨trivial, .inr (.inl ⟨c, l, rfl, hn0, rfl, rfl⟩)⟩, by simp [intOf]⟩
    · have hX := hx_lt c
      match l, hl with
      | [], hl =>
        have z0 : s.size = 1 := by rw [← bytes_len, hl]; rfl
        go_wp2_with fail
        refine bodyPost_ret (by simp [results, Tryd.results55, go_sem]; rfl) rfl ?_
        exact ⟨by simp [hl, hexP, Int.not_lt.2 h0], rfl⟩
      | e :: l, hl =>
        have z0 : s.size = l.length + 2 := by rw [← bytes_len, hl]; rfl
        have z1 : (1 : Int) < (s.size : Int) := by omega
        have z2 : 1 < s.size := by omega
        have e0 : s[1] = e := by
          have : s.data.toList[1]? = some e := by rw [hl]; rfl
          simpa [ByteArray.getElem_eq_getElem_data, Array.getElem?_eq_getElem, z2] using this
        have hY := hx_lt e
        by_cases hn : hx e < 0
        · go_wp2_with (go_at_call 59; refine (HI.out e _).mono ?_; rintro e w4 ⟨rfl, rfl⟩)
          refine bodyPost_ret (by simp [results, Tryd.results55, go_sem]; rfl) rfl ?_
          exact ⟨by simp [hl, hexP, hn, Int.not_lt.2 h0], rfl⟩
        · have hn0 : 0 ≤ hx e := by omega
          go_wp2_with (go_at_call 59; refine (HI.out e _).mono ?_; rintro e w4 ⟨rfl, rfl⟩)
          exact ⟨⟨trivial, .inr (.inr ⟨c, e, l, hl, h0, hn0, rfl, rfl⟩)⟩, by simp [intOf]⟩
    · go_wp2_with fail
      refine bodyPost_ret (by simp [results, Tryd.results55, go_sem]; rfl) rfl ?_
      exact ⟨by simp [hl, hexP, Int.not_lt.2 h0, Int.not_lt.2 h1], rfl⟩

end Go.Proofs.YteipogfolnlblaaDoor
