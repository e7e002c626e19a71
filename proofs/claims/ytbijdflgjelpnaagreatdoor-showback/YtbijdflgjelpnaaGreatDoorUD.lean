/-
  What is proved here: package read's All and One, as the statements ask them.
-/
import Derived.Test.YtbijdflgjelpnaaGreatDoorWXVW
import Derived.Test.YtbijdflgjelpnaaGreatDoorUP
import Derived.Test.YtbijdflgjelpnaaGreatDoorUB
import Derived.KernelRfl
namespace Go.Proofs.YtbijdflgjelpnaaGreatDoor
open Go Go.RowKit

def rT (t : ByteArray) : RM 100 := rdM t.data.toList (3 * t.data.toList.length + 4) 100
theorem rT_lt {t : ByteArray} {F a x y : Nat} {tr : Tr 101} {a' : Nat} (hF : 1 ≤ F) (ha : a ≤ t.size) (e : (rdM t.data.toList F 100).dt ((rdM t.data.toList F 100).nx 0 a) = .inr (x, y, tr, a')) : a < a' ∧ a' ≤ t.size ∧ y = a' := by
  have hl : t.data.toList.length = t.size := bytes_len t
  have h1 := nd_lt (T := t.data.toList) (f := F) (h := 100) (a := a) hF (by rw [hl]; exact ha) e
  have h2 := (nd_ok (rdM_ok t.data.toList F 100) (a := a) (by rw [hl]; exact ha)).2 _ _ _ _ e
  rw [hl] at h1
  exact ⟨by omega, h1.2.2, h2.2.2⟩
/-- All of a text, as the model reads it with fuel enough. -/
theorem all_fuel (t : ByteArray) (F g : Nat) (w : World) (ht : t.size ≤ 65536) (hF : 3 * t.size + 4 ≤ F) (hg : t.size + 1 ≤ g) : Calls Tryz.prog 5 #[.string t] w fun e w' => AllPost w (allR (rdM t.data.toList F 100) g 0 []) e w' := by
  have hl : t.data.toList.length = t.size := bytes_len t
  have hok := rdM_ok t.data.toList F 100
  rw [hl] at hok
  refine all_walk t 100 g (rdM t.data.toList F 100) w ht hg hok (fun W a ha hW => ?_) (fun W p hp k1 k2 hW => ?_) (fun a x y tr a' ha e => ?_)
  · exact next_all t (by omega) t.size w w.heap.size 100 a F W hW (Nat.le_refl _) ha (by omega) (by omega)
  · exact datum_all t (by omega) (t.size + 1) w w.heap.size 100 p F W hW (Nat.le_refl _) hp k1 k2 (.inr ⟨by omega, by omega⟩)
  · have := rT_lt (by omega) ha e
    exact ⟨this.1, this.2.1⟩
theorem all_any (t : ByteArray) (w : World) (ht : t.size ≤ 65536) : Calls Tryz.prog 5 #[.string t] w fun e w' => AllPost w (allR (rT t) (t.size + 1) 0 []) e w' := by
  have hl : t.data.toList.length = t.size := bytes_len t
  exact all_fuel t _ _ w ht (by omega) (Nat.le_refl _)
theorem all_long (t : ByteArray) (w : World) (ht : 65536 < t.size) (hm : t.size ≤ 9223372036854775807) : Calls Tryz.prog 5 #[.string t] w fun e w' => e = .returned (.tuple #[.slice none 0 0, .int .i64 0, .int .i64 2]) ∧ Up w w' := by
  have hI : (65536 : Int) < (t.size : Int) := by omega
  go_enter Tryz.func5, Tryz.ntmps5
  go_wp2_with fail
  refine bodyPost_ret (by simp [results, Tryz.results5, go_sem]; rfl) rfl ?_
  exact ⟨rfl, Up.refl _⟩
theorem all_good {t : ByteArray} {w : World} {h : Nat} {R : LP ⊕ List (Tr (h + 1))} {J : List (Tr (h + 1))} (hR : R = .inr J) (h : Calls Tryz.prog 5 #[.string t] w fun e w' => AllPost w R e w') :
    Calls Tryz.prog 5 #[.string t] w fun e w' => Up w w' ∧ ∃ ao cap, e = .returned (.tuple #[.slice ao J.length cap, .int .i64 0, .int .i64 0]) ∧ RowD w' (DatC w' _) (.slice ao J.length cap) J := by
  subst hR
  refine h.mono ?_
  rintro e w' ⟨h1, ao, cap, rfl, h2, -⟩
  exact ⟨h1, ao, cap, rfl, h2.mono fun _ _ hd => hd.dat⟩
theorem all_bad {t : ByteArray} {w : World} {h : Nat} {R : LP ⊕ List (Tr (h + 1))} {q : LP} (hR : R = .inl q) (h : Calls Tryz.prog 5 #[.string t] w fun e w' => AllPost w R e w') :
    Calls Tryz.prog 5 #[.string t] w fun e w' => Up w w' ∧ e = .returned (.tuple #[.slice none 0 0, .int .i64 (q.x : Int), .int .i64 (q.er : Int)]) := by
  subst hR
  exact h
/-- One datum of a text, as the model reads it with fuel enough. -/
theorem one_fuel (t : ByteArray) (F a : Nat) (w : World) (ht : t.size ≤ 65536) (ha : a ≤ t.size) (hF : 3 * t.size + 4 ≤ F) : Calls Tryz.prog 8 #[.string t, .int .i64 (a : Int)] w fun e w' => OnePost w ((rdM t.data.toList F 100).dt ((rdM t.data.toList F 100).nx 0 a)) e w' := by
  have hl : t.data.toList.length = t.size := bytes_len t
  have hok := rdM_ok t.data.toList F 100
  rw [hl] at hok
  have hn := hok.1 0 a ha
  refine one_walk t a 100 _ _ w ht ha (hok.2.1 _ hn.1.1 hn.1.2.1 hn.1.2.2) (fun W hW => ?_) (fun W hW => ?_)
  · exact next_all t (by omega) t.size w (w.heap.size + 1) 100 a F W hW (Nat.le_refl _) ha (by omega) (by omega)
  · exact datum_all t (by omega) (t.size + 1) w (w.heap.size + 1) 100 _ F W hW (Nat.le_refl _) hn.1.1 hn.1.2.1 hn.1.2.2 (.inr ⟨by omega, by omega⟩)
theorem one_good2 {t : ByteArray} {a : Nat} {w : World} {h : Nat} {R : RD (h + 1)} {x y : Nat} {tr : Tr (h + 1)} {a' : Nat} (hR : R = .inr (x, y, tr, a')) (hc : Calls Tryz.prog 8 #[.string t, .int .i64 (a : Int)] w fun e w' => OnePost w R e w') :
    Calls Tryz.prog 8 #[.string t, .int .i64 (a : Int)] w fun e w' => Up w w' ∧ ∃ (k n : Int) (b : Bool) (m1 : Option Addr) (m2 m3 : Nat) (s : ByteArray) (i1 : Option Addr) (i2 i3 : Nat) (r1 : Option Addr) (r2 r3 : Nat), e = .returned (.tuple #[.agg #[.int .i64 k, .int .i64 n, .bool b, .slice m1 m2 m3, .string s, .slice i1 i2 i3, .slice r1 r2 r3], .int .i64 (y : Int), .int .i64 0]) ∧ DatC w' (h + 1) tr [.int .i64 k, .int .i64 n, .bool b, .slice m1 m2 m3, .string s, .slice i1 i2 i3, .slice r1 r2 r3] := by
  subst hR
  refine hc.mono ?_
  rintro e w' ⟨h1, k, n, b, m1, m2, m3, s, i1, i2, i3, r1, r2, r3, h2, h3⟩
  exact ⟨h1, k, n, b, m1, m2, m3, s, i1, i2, i3, r1, r2, r3, h2, h3.dat⟩
theorem one_bad2 {t : ByteArray} {a : Nat} {w : World} {h : Nat} {R : RD (h + 1)} {q : LP} (hR : R = .inl q) (hc : Calls Tryz.prog 8 #[.string t, .int .i64 (a : Int)] w fun e w' => OnePost w R e w') :
    Calls Tryz.prog 8 #[.string t, .int .i64 (a : Int)] w fun e w' => Up w w' ∧ e = .returned (.tuple #[.agg #[.int .i64 0, .int .i64 0, .bool false, .slice none 0 0, .string ⟨#[]⟩, .slice none 0 0, .slice none 0 0], .int .i64 (q.x : Int), .int .i64 (q.er : Int)]) := by
  subst hR
  exact hc
theorem one_end {t : ByteArray} {F a : Nat} {w : World} (ht : t.size ≤ 65536) (ha : a ≤ t.size) (hF : 3 * t.size + 4 ≤ F) (e : ((rdM t.data.toList F 100).nx 0 a).k = 0) :
    Calls Tryz.prog 8 #[.string t, .int .i64 (a : Int)] w fun e w' => Up w w' ∧ e = .returned (.tuple #[.agg #[.int .i64 0, .int .i64 0, .bool false, .slice none 0 0, .string ⟨#[]⟩, .slice none 0 0, .slice none 0 0], .int .i64 (t.size : Int), .int .i64 10]) := by
  have hl : t.data.toList.length = t.size := bytes_len t
  have h := one_bad2 (q := ftP t.data.toList.length 10 ((rdM t.data.toList F 100).nx 0 a).a) (by
    obtain ⟨F, rfl⟩ : ∃ F', F = F' + 1 := ⟨F - 1, by omega⟩
    show dtS t.data.toList _ _ _ = _
    unfold dtS
    rw [if_pos e]) (one_fuel t F a w ht ha hF)
  rw [hl] at h
  exact h

end Go.Proofs.YtbijdflgjelpnaaGreatDoor
