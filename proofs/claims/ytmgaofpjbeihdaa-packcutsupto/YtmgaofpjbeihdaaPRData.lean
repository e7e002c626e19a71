/-
  What is proved here: the reader's data and rest (package pack), given datum.
-/
import Derived.Test.YtmgaofpjbeihdaaPRRowD
namespace Go.Proofs.Ytmgaofpjbeihdaa
open Go Go.RowKit

def DTOK (h : Nat) : Prop := ∀ (w0 w : World) (rb p dp : Nat) (l : List Nat), RS w0 w rb l p → By8 l → l.length ≤ 100000000 → p ≤ 20000 → dp ≤ 100 → dp ≤ h →
  Calls Try.prog 65 #[.pointer (some ⟨rb, 0, none⟩), .int .i64 (dp : Int)] w fun e w' => RQ w rb (okDs w0 rb w.heap.size) (rdDta (rdDat h dp) l p) e w'
def RTOKr (h : Nat) : Prop := ∀ (w0 w : World) (rb p dp : Nat) (l : List Nat), RS w0 w rb l p → By8 l → l.length ≤ 100000000 → p ≤ 20000 → dp ≤ 100 → dp ≤ h →
  Calls Try.prog 83 #[.pointer (some ⟨rb, 0, none⟩), .int .i64 (dp : Int)] w fun e w' => RQ w rb (okDs w0 rb w.heap.size) (rdRst (rdDat h dp) l p) e w'
theorem okDs.le {h : Nat} {w0 : World} {rb B B' : Nat} {x : List (Tr h) × List Nat × Nat} {e : Ending} {w' : World} (H : okDs w0 rb B x e w') (hB : B' ≤ B) : okDs w0 rb B' x e w' := by
  obtain ⟨v, e1, h1, h2, h3⟩ := H
  exact ⟨v, e1, h1.mono (fun _ _ q => q.keep (fun _ _ _ => rfl) (fun _ _ hq => by omega)), h2.imp id (fun ⟨a, l, c, ea, hq⟩ => ⟨a, l, c, ea, by omega⟩), h3⟩

set_option maxRecDepth 20000 in
set_option maxHeartbeats 2000000 in
theorem data_of {h : Nat} (hC : DOK h) : DTOK h := by
  intro w0 w rb p dp l hr h8 hl hp hd hh
  have hmf : ∀ (fn : Fn) (first cap : Array Value) (w : World), (Instr.makeFunc fn first cap).run Try.prog w = .ok (.func fn first cap) w := fun _ _ _ _ => rfl
  have hrb := hr.lt
  obtain ⟨W0, hW0⟩ : ∃ W0, W0 = (w.alloc (.cells #[.pointer (some ⟨rb, 0, none⟩)] 91)).alloc (.cells #[.int .i64 (dp : Int)] 3) := ⟨_, rfl⟩
  have hB : BX W0 w.heap.size (w.heap.size + 1) rb dp := by
    rw [hW0]
    refine ⟨(heap_alloc_old _ _ (by simp)).trans (heap_alloc_new w _), ?_, by omega, by omega⟩
    have := heap_alloc_new (w.alloc (.cells #[.pointer (some ⟨rb, 0, none⟩)] 91)) (.cells #[.int .i64 (dp : Int)] 3)
    rw [World.size_alloc] at this
    exact this
  have hF0 : Fr (fun j => j = rb) w W0 := by rw [hW0]; exact ((Fr.refl _ w).alloc _).alloc _
  have hR0 : RS w0 W0 rb l p := by rw [hW0]; exact hr.mono ((up_alloc w _).tr (up_alloc _ _))
  have y2 : W0.cell? ⟨w.heap.size, 0, none⟩ = some (.pointer (some ⟨rb, 0, none⟩)) := by rw [cell_of_row _ _ 0 _ _ _ hB.1]; rfl
  have HW := hide hW0
  have HB := hide hB
  have HF0 := hide hF0
  have HY := hide (fun (W : World) (hb : BX W w.heap.size (w.heap.size + 1) rb dp) => show W.cell? ⟨w.heap.size, 0, none⟩ = some (.pointer (some ⟨rb, 0, none⟩)) by rw [cell_of_row _ _ 0 _ _ _ hb.1]; rfl)
  obtain ⟨out, ho⟩ : ∃ o, o = rdDta (rdDat h dp) l p := ⟨_, rfl⟩
  rw [← ho]
  cases h1 : rdCnt 1 l with
  | none =>
    have K1 := hide ((rdcnt_any w0 W0 rb p 1 l hR0 h8 (by decide) (by decide)).mono (fun _ _ q => q.no h1))
    have HO : Hid (out = none) := by unfold Hid; rw [ho]; unfold rdDta; rw [h1]
    clear hr hB hF0 hR0 h1 hW0 h8 ho hC
    go_enter Try.func65, Try.ntmps65
    go_wp2_with fail
    rw [← HW.out]
    go_wp2_with (go_at_call 49; refine K1.out.mono ?_; rintro e1 w1 ⟨rfl, F1⟩; have HF1 := hide (HF0.out.trans F1 (fun _ _ e => e)); clear F1)
    exact ⟨rfl, RQ.mkno HO.out HF1.out⟩
  | some x =>
    obtain ⟨n, m⟩ := x
    obtain ⟨hl1, hn1, hs1⟩ := rdCnt_len h1
    rw [Nat.div_one] at hn1
    have h81 := h8.suf hs1
    have K1 := hide ((rdcnt_any w0 W0 rb p 1 l hR0 h8 (by decide) (by decide)).mono (fun _ _ q => q.yes h1))
    have HO : out = if n ≤ p then rdRowP (rdDat h dp) n m (p - n) else none := by rw [ho]; unfold rdDta; rw [h1]
    by_cases hq : n ≤ p
    · have K2 := hide (fun (W : World) (h' : RS w0 W rb m p) => (spend_any w0 W rb p n m h' hp (by omega)).mono (fun _ _ q => q.yes (if_pos hq)))
      have hK3 := fun (W : World) (h' : RS w0 W rb m (p - n)) (hb : BX W w.heap.size (w.heap.size + 1) rb dp) => rowD_any hC w0 W rb (p - n) n dp w.heap.size (w.heap.size + 1) m h' h81 (by omega) (by omega) hd hh hb (by omega)
      rw [if_pos hq] at HO
      rw [← HO] at hK3
      have HLE : Hid (∀ W : World, Fr (fun j => j = rb) w W → w.heap.size ≤ W.heap.size) := fun W F => F.size
      cases ho2 : out with
      | none =>
        have K3 := hide (fun (W : World) (h' : RS w0 W rb m (p - n)) (hb : BX W w.heap.size (w.heap.size + 1) rb dp) => (hK3 W h' hb).mono (fun _ _ q => q.no ho2))
        clear hK3 HO hr hB hF0 hR0 h1 hW0 h8 h81 ho hC hl1 hn1 hs1 ho2
        go_enter Try.func65, Try.ntmps65
        go_wp2_with fail
        rw [← HW.out]
        go_wp2_with (first
          | (go_at_call 49; refine K1.out.mono ?_; rintro e1 w1 ⟨⟨rfl, hr1⟩, F1⟩; have HB1 := hide (HB.out.fr F1); have z1 := HY.out _ HB1.out; have HR1 := hide hr1; have HF1 := hide (HF0.out.trans F1 (fun _ _ e => e)); clear F1 hr1)
          | (go_at_call 74; refine (K2.out _ HR1.out).mono ?_; rintro e2 w2 ⟨⟨rfl, hr2⟩, F2⟩; have HB2 := hide (HB1.out.fr F2); have HR2 := hide hr2; have HF2 := hide (HF1.out.trans F2 (fun _ _ e => e)); clear F2 hr2)
          | (go_at_call 75; refine (K3.out _ HR2.out HB2.out).mono ?_; rintro e3 w3 ⟨rfl, F3⟩; have HF3 := hide (HF2.out.trans F3 (fun _ _ e => e)); clear F3))
        exact ⟨rfl, RQ.mkno rfl HF3.out⟩
      | some y =>
        have K3 := hide (fun (W : World) (h' : RS w0 W rb m (p - n)) (hb : BX W w.heap.size (w.heap.size + 1) rb dp) => (hK3 W h' hb).mono (fun _ _ q => q.yes ho2))
        clear hK3 HO hr hB hF0 hR0 h1 hW0 h8 h81 ho hC hl1 hn1 hs1 ho2
        go_enter Try.func65, Try.ntmps65
        go_wp2_with fail
        rw [← HW.out]
        go_wp2_with (first
          | (go_at_call 49; refine K1.out.mono ?_; rintro e1 w1 ⟨⟨rfl, hr1⟩, F1⟩; have HB1 := hide (HB.out.fr F1); have z1 := HY.out _ HB1.out; have HR1 := hide hr1; have HF1 := hide (HF0.out.trans F1 (fun _ _ e => e)); clear F1 hr1)
          | (go_at_call 74; refine (K2.out _ HR1.out).mono ?_; rintro e2 w2 ⟨⟨rfl, hr2⟩, F2⟩; have HB2 := hide (HB1.out.fr F2); have HR2 := hide hr2; have HF2 := hide (HF1.out.trans F2 (fun _ _ e => e)); clear F2 hr2)
          | (go_at_call 75; refine (K3.out _ HR2.out HB2.out).mono ?_; rintro e3 w3 ⟨⟨v3, rfl, hv3⟩, F3⟩; have HV3 := hide hv3; have HF3 := hide (HF2.out.trans F3 (fun _ _ e => e)); clear F3 hv3))
        go_ret
        exact RQ.mk' rfl HF3.out (okDs.le ⟨v3, rfl, HV3.out⟩ (HLE.out _ HF2.out))
    · have K2 := hide (fun (W : World) (h' : RS w0 W rb m p) => (spend_any w0 W rb p n m h' hp (by omega)).mono (fun _ _ q => q.no (if_neg hq)))
      rw [if_neg hq] at HO
      have HO := hide HO
      clear hr hB hF0 hR0 h1 hW0 h8 h81 ho hC hl1 hn1 hs1
      go_enter Try.func65, Try.ntmps65
      go_wp2_with fail
      rw [← HW.out]
      go_wp2_with (first
        | (go_at_call 49; refine K1.out.mono ?_; rintro e1 w1 ⟨⟨rfl, hr1⟩, F1⟩; have HB1 := hide (HB.out.fr F1); have z1 := HY.out _ HB1.out; have HR1 := hide hr1; have HF1 := hide (HF0.out.trans F1 (fun _ _ e => e)); clear F1 hr1)
        | (go_at_call 74; refine (K2.out _ HR1.out).mono ?_; rintro e2 w2 ⟨rfl, F2⟩; have HF2 := hide (HF1.out.trans F2 (fun _ _ e => e)); clear F2))
      exact ⟨rfl, RQ.mkno HO.out HF2.out⟩

theorem hrow1 {h : Nat} {w1 : World} {B : Nat} {d : Tr h} {kk nn : Int} {bb : Bool} {m1 : Option Addr} {m2 m3 : Nat} {tt : ByteArray} {i1 : Option Addr} {i2 i3 : Nat} {r1 : Option Addr} {r2 r3 : Nat} (hB : B ≤ w1.heap.size) (hq : DatQ (fun b => B ≤ b) w1 h d [.int .i64 kk, .int .i64 nn, .bool bb, .slice m1 m2 m3, .string tt, .slice i1 i2 i3, .slice r1 r2 r3]) :
    RowD (w1.alloc (.cells #[.int .i64 kk, .int .i64 nn, .bool bb, .slice m1 m2 m3, .string tt, .slice i1 i2 i3, .slice r1 r2 r3] 64)) (DatQ (fun b => B ≤ b) (w1.alloc (.cells #[.int .i64 kk, .int .i64 nn, .bool bb, .slice m1 m2 m3, .string tt, .slice i1 i2 i3, .slice r1 r2 r3] 64)) h) (.slice (some ⟨w1.heap.size, 0, none⟩) 1 1) [d] ∧ VQ (fun b => B ≤ b) (.slice (some ⟨w1.heap.size, 0, none⟩) 1 1) 1 := by
  refine ⟨⟨_, _, rfl, Nat.le_refl _, by decide, .inr ⟨w1.heap.size, 0, rfl, fun i hi => ⟨[.int .i64 kk, .int .i64 nn, .bool bb, .slice m1 m2 m3, .string tt, .slice i1 i2 i3, .slice r1 r2 r3], rfl, fun j hj => ?_, ?_⟩⟩⟩, .inr ⟨_, _, _, rfl, hB⟩⟩
  · have : i = 0 := by simp at hi; omega
    subst this
    rw [Nat.zero_mul, Nat.add_zero, Nat.zero_add, cell_of_row _ _ j _ _ _ (heap_alloc_new w1 _)]
    simp
  · have : i = 0 := by simp at hi; omega
    subst this
    exact hq.keep (fun k hk _ => heap_alloc_old _ _ hk) (fun _ _ hq => hq)
set_option maxRecDepth 20000 in
set_option maxHeartbeats 2000000 in
theorem rest_of {h : Nat} (hC : DOK h) : RTOKr h := by
  intro w0 w rb p dp l hr h8 hl hp hd hh
  obtain ⟨out, ho⟩ : ∃ o, o = rdRst (rdDat h dp) l p := ⟨_, rfl⟩
  rw [← ho]
  cases h1 : rdFlag l with
  | none =>
    have K1 := hide ((rdflag_any w0 w rb p l hr).mono (fun _ _ q => q.no h1))
    have HO : Hid (out = none) := by unfold Hid; rw [ho]; unfold rdRst; rw [h1]
    clear hr h1 h8 ho hC
    go_enter Try.func83, Try.ntmps83
    go_wp2_with (go_at_call 62; refine K1.out.mono ?_; rintro e1 w1 ⟨rfl, F1⟩; have HF1 := hide F1; clear F1)
    exact ⟨rfl, RQ.mkno HO.out HF1.out⟩
  | some x =>
    obtain ⟨b, m⟩ := x
    obtain ⟨hl1, hs1⟩ := rdFlag_len h1
    have h81 := h8.suf hs1
    have K1 := hide ((rdflag_any w0 w rb p l hr).mono (fun _ _ q => q.yes h1))
    cases b with
    | false =>
      have HO : Hid (out = some ([], m, p)) := by unfold Hid; rw [ho]; unfold rdRst; rw [h1]; rfl
      clear hr h1 h8 ho hC
      go_enter Try.func83, Try.ntmps83
      go_wp2_with (go_at_call 62; refine K1.out.mono ?_; rintro e1 w1 ⟨⟨rfl, hr1⟩, F1⟩; have HR1 := hide hr1; have HF1 := hide F1; clear F1 hr1)
      go_ret
      exact RQ.mk' HO.out HF1.out ⟨_, rfl, ⟨none, 0, rfl, Nat.le_refl _, by decide, .inl rfl⟩, .inl rfl, HR1.out⟩
    | true =>
      have HO : out = if 1 ≤ p then (match rdDat h dp m (p - 1) with | none => none | some (d, k, q) => some ([d], k, q)) else none := by rw [ho]; unfold rdRst; rw [h1]; simp only [if_true]; cases rdDat h dp m (p - 1) <;> rfl
      by_cases hq : 1 ≤ p
      · rw [if_pos hq] at HO
        have K2 := hide (fun (W : World) (h' : RS w0 W rb m p) => (spend_any w0 W rb p 1 m h' hp (by decide)).mono (fun _ _ q => q.yes (if_pos hq)))
        have hK3 := fun (W : World) (h' : RS w0 W rb m (p - 1)) => hC w0 W rb (p - 1) dp m h' h81 (by omega) (by omega) hd hh
        cases h3 : rdDat h dp m (p - 1) with
        | none =>
          rw [h3] at HO
          have K3 := hide (fun (W : World) (h' : RS w0 W rb m (p - 1)) => (hK3 W h').mono (fun _ _ q => q.no h3))
          have HO := hide HO
          clear hK3 hr h1 h8 h81 ho hC h3 hl1 hs1
          go_enter Try.func83, Try.ntmps83
          go_wp2_with (first
            | (go_at_call 62; refine K1.out.mono ?_; rintro e1 w1 ⟨⟨rfl, hr1⟩, F1⟩; have HR1 := hide hr1; have HF1 := hide F1; clear F1 hr1)
            | (go_at_call 74; refine (K2.out _ HR1.out).mono ?_; rintro e2 w2 ⟨⟨rfl, hr2⟩, F2⟩; have HR2 := hide hr2; have HF2 := hide (HF1.out.trans F2 (fun _ _ e => e)); clear F2 hr2)
            | (go_at_call 77; refine (K3.out _ HR2.out).mono ?_; rintro e3 w3 ⟨rfl, F3⟩; have HF3 := hide (HF2.out.trans F3 (fun _ _ e => e)); clear F3))
          exact ⟨rfl, RQ.mkno HO.out HF3.out⟩
        | some y =>
          obtain ⟨d, k, q⟩ := y
          rw [h3] at HO
          have K3 := hide (fun (W : World) (h' : RS w0 W rb m (p - 1)) => (hK3 W h').mono (fun _ _ q => q.yes h3))
          have HO := hide HO
          have HLE : Hid (∀ W : World, Fr (fun j => j = rb) w W → w.heap.size ≤ W.heap.size) := fun W F => F.size
          clear hK3 hr h1 h8 h81 ho hC h3 hl1 hs1
          go_enter Try.func83, Try.ntmps83
          go_wp2_with (first
            | (go_at_call 62; refine K1.out.mono ?_; rintro e1 w1 ⟨⟨rfl, hr1⟩, F1⟩; have HR1 := hide hr1; have HF1 := hide F1; clear F1 hr1)
            | (go_at_call 74; refine (K2.out _ HR1.out).mono ?_; rintro e2 w2 ⟨⟨rfl, hr2⟩, F2⟩; have HR2 := hide hr2; have HF2 := hide (HF1.out.trans F2 (fun _ _ e => e)); clear F2 hr2)
            | (go_at_call 77; refine (K3.out _ HR2.out).mono ?_; rintro e3 w3 ⟨⟨kk, nn, bb, m1, m2, m3, tt, i1, i2, i3, r1, r2, r3, rfl, hq3, hr3⟩, F3⟩; have HQ3 := hide hq3; have HR3 := hide hr3; have HF3 := hide (HF2.out.trans F3 (fun _ _ e => e)); clear F3 hq3 hr3))
          go_ret
          have hle := HLE.out _ HF2.out
          have hle3 := HLE.out _ HF3.out
          have hrow := hrow1 (B := w.heap.size) hle3 (HQ3.out.keep (fun _ _ _ => rfl) (fun _ _ hq => by omega))
          exact RQ.mk' HO.out (HF3.out.alloc _) ⟨_, rfl, hrow.1, hrow.2, HR3.out.mono (up_alloc _ _)⟩
      · rw [if_neg hq] at HO
        have K2 := hide (fun (W : World) (h' : RS w0 W rb m p) => (spend_any w0 W rb p 1 m h' hp (by decide)).mono (fun _ _ q => q.no (if_neg hq)))
        have HO := hide HO
        clear hr h1 h8 h81 ho hC hl1 hs1
        go_enter Try.func83, Try.ntmps83
        go_wp2_with (first
          | (go_at_call 62; refine K1.out.mono ?_; rintro e1 w1 ⟨⟨rfl, hr1⟩, F1⟩; have HR1 := hide hr1; have HF1 := hide F1; clear F1 hr1)
          | (go_at_call 74; refine (K2.out _ HR1.out).mono ?_; rintro e2 w2 ⟨rfl, F2⟩; have HF2 := hide (HF1.out.trans F2 (fun _ _ e => e)); clear F2))
        exact ⟨rfl, RQ.mkno HO.out HF2.out⟩

end Go.Proofs.Ytmgaofpjbeihdaa
