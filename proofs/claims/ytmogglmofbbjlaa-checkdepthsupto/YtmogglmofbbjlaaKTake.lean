/-
  What is proved here: check's list of places: the least one is taken.
-/
import Derived.Test.YtmogglmofbbjlaaKPut
namespace Go.Proofs.Ytmogglmofbbjlaa
open Go Go.RowKit

/-- The least of a place and of those below it that were looked at. -/
structure LeastP (f : Nat → Nat) (m k b l : Nat) : Prop where
  at' : l = k ∨ (2 * k + 1 ≤ l ∧ l < b ∧ l < m)
  le : f l ≤ f k
  all : ∀ c, 2 * k + 1 ≤ c → c < b → c < m → f l ≤ f c
theorem LeastP.start (f : Nat → Nat) (m k : Nat) : LeastP f m k (2 * k + 1) k := ⟨.inl rfl, Nat.le_refl _, fun c h1 h2 => by omega⟩
theorem LeastP.keep {f : Nat → Nat} {m k b l : Nat} (h : LeastP f m k b l) (hb : f l ≤ f b) : LeastP f m k (b + 1) l :=
  ⟨by rcases h.at' with e | ⟨e1, e2, e3⟩; exact .inl e; exact .inr ⟨e1, by omega, e3⟩, h.le, fun c h1 h2 h3 => by
    by_cases e : c = b
    · rw [e]; exact hb
    · exact h.all c h1 (by omega) h3⟩
theorem LeastP.turn {f : Nat → Nat} {m k b l : Nat} (h : LeastP f m k b l) (h1 : 2 * k + 1 ≤ b) (h2 : b < m) (hb : f b < f l) : LeastP f m k (b + 1) b :=
  ⟨.inr ⟨h1, by omega, h2⟩, by have := h.le; omega, fun c h1 h2 h3 => by
    by_cases e : c = b
    · rw [e]; exact Nat.le_refl _
    · have := h.all c h1 (by omega) h3; omega⟩

/-- The places on the way down. -/
structure SinkP (w wr : World) (g cap m : Nat) (f : Nat → Nat) (k : Nat) (f1 : Nat → Nat) : Prop where
  row : RowAt .i64 3 wr g cap m f1
  dn : DnP f1 m k
  inj : Inj f1 m
  mem : ∀ y, Mem f1 m y ↔ Mem f m y
  le : ∀ i, i < m → f1 i ≤ 65536
  kl : k ≤ m
  fr : Fr (fun k => k = g) w wr
theorem SinkP.drewN {w wr : World} {g cap m k : Nat} {f f1 : Nat → Nat} (h : SinkP w wr g cap m f k f1) (q : Nat) : SinkP w (wr.drewN q) g cap m f k f1 :=
  ⟨h.row.block rfl, h.dn, h.inj, h.mem, h.le, h.kl, h.fr.drewN q⟩
theorem SinkP.drew {w wr : World} {g cap m k : Nat} {f f1 : Nat → Nat} (h : SinkP w wr g cap m f k f1) : SinkP w wr.drew g cap m f k f1 :=
  ⟨h.row.block rfl, h.dn, h.inj, h.mem, h.le, h.kl, h.fr.drew⟩
theorem SinkP.step {w wr : World} {g cap m k b l : Nat} {f f1 : Nat → Nat} (h : SinkP w wr g cap m f k f1) (hl : LeastP f1 m k b l) (hlk : l ≠ k) (hb : b = 2 * k + 3 ∨ m ≤ b) (hb2 : b ≤ 2 * k + 3) :
    SinkP w ((wr.setCell ⟨g, k, none⟩ (.int .i64 (f1 l : Int))).setCell ⟨g, l, none⟩ (.int .i64 (f1 k : Int))) g cap m f l (swp f1 k l) := by
  obtain ⟨e1, e2, e3⟩ : 2 * k + 1 ≤ l ∧ l < b ∧ l < m := by rcases hl.at' with e | e; exact absurd e hlk; exact e
  have hkm : k < m := by omega
  exact ⟨h.row.swap hkm e3, dnP_step h.dn e3 (by omega) (by omega) hl.le (fun i h0 hi hik => hl.all i (by omega) (by omega) hi), swp_inj hkm e3 h.inj, fun y => by rw [swp_mem hkm e3]; exact h.mem y, swp_le h.le hkm e3, by omega, (h.fr.setCell (fun _ => rfl) _ _).setCell (fun _ => rfl) _ _⟩
theorem SinkP.fin {w wr : World} {g cap m k b : Nat} {f f1 : Nat → Nat} (h : SinkP w wr g cap m f k f1) (hl : LeastP f1 m k b k) (hb : b = 2 * k + 3 ∨ m ≤ b) :
    ∃ f', RowAt .i64 3 wr g cap m f' ∧ Pl m f' ∧ (∀ y, Mem f' m y ↔ Mem f m y) ∧ (∀ i, i < m → f' i ≤ 65536) ∧ Fr (fun k => k = g) w wr :=
  ⟨f1, h.row, ⟨dnP_stop h.dn (fun hh => hl.all _ (by omega) (by omega) hh) (fun hh => hl.all _ (by omega) (by omega) hh), h.inj⟩, h.mem, h.le, h.fr⟩

set_option maxRecDepth 20000 in
set_option maxHeartbeats 1000000 in
theorem sink_any (w : World) (hb o g cap m : Nat) (f : Nat → Nat) (hcv : w.cell? ⟨hb, o, none⟩ = some (.slice (some ⟨g, 0, none⟩) m cap)) (hrow : RowAt .i64 3 w g cap m f) (_hcap : cap ≤ 9223372036854775807) (hm : m ≤ 65536) (hD : DnP f m 0) (hI : Inj f m) (hf : ∀ i, i < m → f i ≤ 65536) :
    Calls Try.prog 32 #[.pointer (some ⟨hb, o, none⟩)] w fun e w' => e = .returned (.tuple #[]) ∧ ∃ f', RowAt .i64 3 w' g cap m f' ∧ Pl m f' ∧ (∀ y, Mem f' m y ↔ Mem f m y) ∧ (∀ i, i < m → f' i ≤ 65536) ∧ Fr (fun k => k = g) w w' := by
  have HI := hide (show SinkP w w g cap m f 0 f from ⟨hrow, hD, hI, fun _ => Iff.rfl, hf, Nat.zero_le _, Fr.refl _ _⟩)
  have hmc := hrow.le
  clear hrow hD hI hf
  go_enter Try.func32, Try.ntmps32
  go_wp2
  go_loopw [3] (fun at' wr => ∃ k f1, at' = .int .i64 ((k : Nat) : Int) ∧ SinkP w wr g cap m f k f1) (fun at' _ => m - (intOf at').toNat)
  case atStart => exact ⟨0, _, rfl, HI.out⟩
  case round =>
    obtain ⟨k, f1, rfl, hS⟩ := hrel
    have hk := hS.kl
    have HS := hide hS
    clear hS
    go_wp2
    go_loopw [4, 5] (fun least below wq => ∃ l b : Nat, least = .int .i64 (l : Int) ∧ below = .int .i64 (b : Int) ∧ 2 * k + 1 ≤ b ∧ b ≤ 2 * k + 3 ∧ LeastP f1 m k b l ∧ SinkP w wq g cap m f k f1) (fun _ below _ => 2 * k + 3 - (intOf below).toNat)
    case atStart => exact ⟨k, 2 * k + 1, rfl, by go_num, by omega, by omega, LeastP.start _ _ _, HS.out⟩
    case round =>
      clear HS
      obtain ⟨l, b, rfl, rfl, hb1, hb2, hL, hS⟩ := hrel
      have hlk : l ≤ 131075 := by rcases hL.at' with e | e <;> omega
      by_cases hb3 : b ≤ 2 * k + 2
      · by_cases hb4 : b < m
        · have hlm : l < m := by rcases hL.at' with e | e <;> omega
          have r1 := hS.row.cell (i := b) hb4
          have r2 := hS.row.cell (i := l) hlm
          have l1 := hS.le b hb4
          have l2 := hS.le l hlm
          have HS := hide hS
          have HL := hide hL
          clear hS hL
          by_cases hlt2 : f1 b < f1 l
          · go_wp2
            go_quiet (fail)
            go_wp2
            exact ⟨⟨b, b + 1, rfl, by go_num, by omega, by omega, HL.out.turn hb1 hb4 hlt2, HS.out.drewN _⟩, by simp [intOf]; omega⟩
          · go_wp2
            go_quiet (fail)
            go_wp2
            exact ⟨⟨l, b + 1, rfl, by go_num, by omega, by omega, HL.out.keep (by omega), HS.out.drewN _⟩, by simp [intOf]; omega⟩
        · have HS := hide hS
          have HL := hide hL
          by_cases hlk2 : l = k
          · subst hlk2
            clear hS hL
            go_wp2
            ((try simp only [Exit.inBlock, Exit.then]); refine bodyPost_ret (results_none rfl _ _ _) rfl ?_)
            exact ⟨rfl, HS.out.fin HL.out (.inr (by omega))⟩
          · obtain ⟨e1, e2, e3⟩ : 2 * k + 1 ≤ l ∧ l < b ∧ l < m := by rcases hL.at' with e | e; exact absurd e hlk2; exact e
            have en : ((l : Int) == (k : Int)) = false := by rw [beq_eq_false_iff_ne]; omega
            have r1 := hS.row.cell (i := l) e3
            have r2 := hS.row.cell (i := k) (by omega)
            have z1 := hS.row.free l
            have z2 := hS.row.free k
            have l1 := hS.le l e3
            have l2 := hS.le k (by omega)
            clear hS hL
            go_wp2
            go_region
            go_wp2
            exact ⟨⟨l, _, rfl, (HS.out.step HL.out hlk2 (.inr (by omega)) hb2).drew⟩, by simp [intOf]; omega⟩
      · have HS := hide hS
        have HL := hide hL
        by_cases hlk2 : l = k
        · subst hlk2
          clear hS hL
          go_wp2
          ((try simp only [Exit.inBlock, Exit.then]); refine bodyPost_ret (results_none rfl _ _ _) rfl ?_)
          exact ⟨rfl, HS.out.fin HL.out (.inl (by omega))⟩
        · obtain ⟨e1, e2, e3⟩ : 2 * k + 1 ≤ l ∧ l < b ∧ l < m := by rcases hL.at' with e | e; exact absurd e hlk2; exact e
          have en : ((l : Int) == (k : Int)) = false := by rw [beq_eq_false_iff_ne]; omega
          have r1 := hS.row.cell (i := l) e3
          have r2 := hS.row.cell (i := k) (by omega)
          have z1 := hS.row.free l
          have z2 := hS.row.free k
          have l1 := hS.le l e3
          have l2 := hS.le k (by omega)
          clear hS hL
          go_wp2
          go_region
          go_wp2
          exact ⟨⟨l, _, rfl, (HS.out.step HL.out hlk2 (.inl (by omega)) hb2).drew⟩, by simp [intOf]; omega⟩

set_option maxRecDepth 20000 in
set_option maxHeartbeats 1000000 in
theorem take_any (T : TypeId) (w : World) (hb : Nat) (cur : Array Value) (o : Nat) (v : Value) (n : Nat) (f : Nat → Nat) (hblk : w.heap[hb]? = some (.cells cur T (0, 0))) (hcv : cur[o]? = some v) (hov : Own .i64 3 w 0 v (n + 1) f) (hnv : v.ownBlock ≠ some hb) (hn : n + 1 ≤ 65536) (hP : Pl (n + 1) f) (hf : ∀ i, i < n + 1 → f i ≤ 65536) :
    Calls Try.prog 25 #[.pointer (some ⟨hb, o, none⟩)] w fun e w' => e = .returned (.int .i64 (f 0 : Int)) ∧ ∃ v' f', w'.heap[hb]? = some (.cells (cur.setIfInBounds o v') T (0, 0)) ∧ Own .i64 3 w' 0 v' n f' ∧ v'.ownBlock = v.ownBlock ∧ Pl n f' ∧ (∀ y, Mem f' n y ↔ (Mem f (n + 1) y ∧ y ≠ f 0)) ∧ (∀ i, i < n → f' i ≤ 65536) ∧ Fr (fun k => k = hb ∨ v.ownBlock = some k) w w' := by
  have hc0 : w.cell? ⟨hb, o, none⟩ = some v := by rw [cell_of_row w hb o cur T (0, 0) hblk]; exact hcv
  have hlt : hb < w.heap.size := (Array.getElem?_eq_some_iff.1 hblk).1
  have holt : o < cur.size := (Array.getElem?_eq_some_iff.1 hcv).1
  rcases hov with ⟨_, e⟩ | ⟨g, cap, rfl, -, hcap, hrow⟩
  · omega
  have hne : g ≠ hb := fun e => hnv (by rw [← e]; rfl)
  have hle := hrow.le
  have r0 := hrow.cell (i := 0) (by omega)
  have r1 := hrow.cell (i := n) (by omega)
  have z0 := hrow.free 0
  have b2 : (w.setCell ⟨g, 0, none⟩ (.int .i64 (f n : Int))).heap[hb]? = some (.cells cur T (0, 0)) := (heap_setCell_other _ _ _ _ (Ne.symm hne)).trans hblk
  have c2 : (w.setCell ⟨g, 0, none⟩ (.int .i64 (f n : Int))).cell? ⟨hb, o, none⟩ = some (.slice (some ⟨g, 0, none⟩) (n + 1) cap) := by rw [cell_of_row _ hb o cur T (0, 0) b2]; exact hcv
  have z2 := frozen_of_row _ hb o cur T b2
  have row2 := (hrow.set (i := 0) (by omega) (f n)).mono (m := n) (by omega)
  have b3 := heap_setCell_same _ hb o cur T (.slice (some ⟨g, 0, none⟩) n cap) b2
  have HR3 := hide (row2.block (w' := (w.setCell ⟨g, 0, none⟩ (.int .i64 (f n : Int))).setCell ⟨hb, o, none⟩ (.slice (some ⟨g, 0, none⟩) n cap)) (heap_setCell_other _ _ _ _ hne))
  have HC3 : Hid (((w.setCell ⟨g, 0, none⟩ (.int .i64 (f n : Int))).setCell ⟨hb, o, none⟩ (.slice (some ⟨g, 0, none⟩) n cap)).cell? ⟨hb, o, none⟩ = some (.slice (some ⟨g, 0, none⟩) n cap)) := by
    unfold Hid
    rw [cell_of_row _ hb o _ T (0, 0) b3, Array.getElem?_setIfInBounds_self_of_lt holt]
  have HB3 := hide b3
  have HF3 := hide (show Fr (fun k => k = hb ∨ (Value.slice (some ⟨g, 0, none⟩) (n + 1) cap).ownBlock = some k) w ((w.setCell ⟨g, 0, none⟩ (.int .i64 (f n : Int))).setCell ⟨hb, o, none⟩ (.slice (some ⟨g, 0, none⟩) n cap)) from ((Fr.refl _ _).setCell (fun _ => .inr rfl) _ _).setCell (fun _ => .inl rfl) _ _)
  have l1 := hf 0 (by omega)
  have l2 := hf n (by omega)
  have HL := hide (fun i (hi : i < n) => show upd f 0 (f n) i ≤ 65536 by
    by_cases e : i = 0
    · rw [e, upd_same]; exact l2
    · rw [upd_other e]; exact hf i (by omega))
  have HP := hide hP
  have HN := hide hne
  clear row2 b3 b2 hrow hf hblk hP hne
  go_enter Try.func25, Try.ntmps25
  go_wp2_with (go_at_call 32; refine (sink_any _ hb o g cap n (upd f 0 (f n)) HC3.out HR3.out hcap (by omega) (dnP_start HP.out.heap) (take_inj HP.out.inj) HL.out).mono ?_; rintro e w4 ⟨rfl, f', R4, P4, M4, L4, F4⟩)
  go_ret
  refine ⟨rfl, .slice (some ⟨g, 0, none⟩) n cap, f', (F4.block hb (by simpa [World.setCell] using hlt) (fun e => HN.out e.symm)).trans HB3.out, .inr ⟨g, cap, rfl, Nat.zero_le _, hcap, R4⟩, rfl, P4, fun y => ?_, L4, HF3.out.trans F4 (fun x _ e => .inr (by rw [e]; rfl))⟩
  rw [M4, take_mem HP.out.inj]

end Go.Proofs.Ytmogglmofbbjlaa
