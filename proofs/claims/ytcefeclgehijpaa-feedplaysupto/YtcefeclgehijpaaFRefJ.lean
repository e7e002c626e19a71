/-
  What is proved here: Add (the document's table, tandemref14).
-/
import Derived.Test.YtcefeclgehijpaaFRefG
namespace Go.Proofs.Ytcefeclgehijpaa
open Go Go.RowKit

/-- Feeds are added, one after the other. -/
def insN (g : Nat → Fd) (M : List PM) : Nat → List PM
  | 0 => M
  | i + 1 => insS (g i) (insN g M i)
theorem ins_len (f : Fd) : ∀ (S : List PM), S.length ≤ (insS f S).length ∧ (insS f S).length ≤ S.length + 1
  | [] => by simp [insS]
  | y :: S => by
    unfold insS
    split
    · simp
    · have := ins_len f S
      simp only [List.length_cons]
      omega
theorem insN_len (g : Nat → Fd) (S : List PM) : ∀ n, (insN g S n).length ≤ S.length + n
  | 0 => by simp [insN]
  | n + 1 => by
    have h1 := insN_len g S n
    have h2 := (ins_len (g n) (insN g S n)).2
    simp only [insN]
    omega
theorem RT.base_le {w : World} {base b : Nat} {M : List PM} {u v : Value} (h : RT w base b M u v) : base ≤ w.heap.size := by
  have := h.bb
  have := lt_of_block h.tb
  omega
theorem RT.drew {w : World} {base b : Nat} {M : List PM} {u v : Value} (h : RT w base b M u v) : RT w.drew base b M u v := h.same ((Fr.refl _ _).drew)
theorem len_fit {a m n i : Nat} (h1 : a ≤ m + i) (hi : i < n) (hM : (m + n + 1) * 32 ≤ 140737488355328) : (a + 1) * 32 ≤ 140737488355328 := Nat.le_trans (Nat.mul_le_mul_right 32 (show a + 1 ≤ m + n + 1 by omega)) hM
/-- Feeds that came in: cells that the table's turns leave alone. -/
theorem fed_at {w W : World} {base b' off : Nat} {f : Fd} (F : Fr (RS base w) w W) (hb : b' < base)
    (h : w.cell? ⟨b', off, none⟩ = some (.int .i64 f.p) ∧ w.cell? ⟨b', off + 1, none⟩ = some (.int .i64 f.c) ∧ w.cell? ⟨b', off + 2, none⟩ = some (.int .i64 f.m) ∧ w.cell? ⟨b', off + 3, none⟩ = some (.int .i64 f.k)) :
    W.cell? ⟨b', off, none⟩ = some (.int .i64 f.p) ∧ W.cell? ⟨b', off + 1, none⟩ = some (.int .i64 f.c) ∧ W.cell? ⟨b', off + 2, none⟩ = some (.int .i64 f.m) ∧ W.cell? ⟨b', off + 3, none⟩ = some (.int .i64 f.k) := by
  have hbw := World.block_lt_of_cell? w _ h.1
  have hn : ¬ RS base w b' := fun e => by have h := e.1; omega
  rw [F.cell hbw hn, F.cell hbw hn, F.cell hbw hn, F.cell hbw hn]
  exact h

set_option maxRecDepth 20000 in
set_option maxHeartbeats 4000000 in
theorem radd_any (w : World) (base b : Nat) (M : List PM) (u v : Value) (h : RT w base b M u v) (ao : Option Addr) (n cap : Nat) (g : Nat → Fd) (hn : n ≤ 9223372036854775807) (hr : FRow w ao n g)
    (hsep : ∀ b' off, ao = some ⟨b', off, none⟩ → n ≠ 0 → b' < base) (hM : (M.length + n + 1) * 32 ≤ 140737488355328) :
    Calls Try.prog 15 #[.pointer (some ⟨b, 0, none⟩), .slice ao n cap] w fun e w' => e = .returned (.tuple #[]) ∧ RA w w' base b (insN g M n) := by
  have HR := hide hr
  have HSEP := hide hsep
  have HT := hide h
  clear h hr hsep
  go_enter Try.func15, Try.ntmps15
  go_wp2_with fail
  go_loopw [4] (fun y wr => ∃ (i : Nat) (M1 : List PM), y = .int .i64 (i : Int) ∧ i ≤ n ∧ insN g M i = M1 ∧ RA w wr base b M1) (fun y _ => n - (intOf y).toNat)
  case atStart => exact ⟨0, M, rfl, Nat.zero_le _, rfl, _, _, HT.out, Fr.refl _ _⟩
  case round =>
    obtain ⟨i, M1, rfl, hi, hM1, ui, vi, hT, hF⟩ := hrel
    by_cases hil : i < n
    · have hiI : (i : Int) < (n : Int) := by omega
      obtain ⟨b', off, rfl, hcel⟩ : ∃ b off, ao = some ⟨b, off, none⟩ ∧ ∀ i, i < n → w.cell? ⟨b, off + i * 4, none⟩ = some (.int .i64 (g i).p) ∧ w.cell? ⟨b, off + i * 4 + 1, none⟩ = some (.int .i64 (g i).c) ∧ w.cell? ⟨b, off + i * 4 + 2, none⟩ = some (.int .i64 (g i).m) ∧ w.cell? ⟨b, off + i * 4 + 3, none⟩ = some (.int .i64 (g i).k) := by
        rcases HR.out with e | e
        · omega
        · exact e
      have hb' := HSEP.out b' off rfl (by omega)
      obtain ⟨f0, f1, f2, f3⟩ := fed_at hF hb' (hcel i hil)
      have hM2 : (M1.length + 1) * 32 ≤ 140737488355328 := by
        have h1 := insN_len g M i
        rw [hM1] at h1
        exact len_fit h1 hil hM
      have hN : insN g M (i + 1) = insS (g i) M1 := by
        rw [← hM1, insN]
      have HN := hide hN
      clear hN hM1 hcel
      generalize g i = f at *
      obtain ⟨fp, fc, fm, fk⟩ := f
      dsimp only at f0 f1 f2 f3
      have HFC : Hid (∀ W, Fr (RS base wr) wr W → W.cell? ⟨b', off + i * 4, none⟩ = some (.int .i64 fp) ∧ W.cell? ⟨b', off + i * 4 + 1, none⟩ = some (.int .i64 fc) ∧ W.cell? ⟨b', off + i * 4 + 2, none⟩ = some (.int .i64 fm) ∧ W.cell? ⟨b', off + i * 4 + 3, none⟩ = some (.int .i64 fk)) := fun W F => fed_at (f := ⟨fp, fc, fm, fk⟩) F hb' ⟨f0, f1, f2, f3⟩
      have K1 := hide (fun W R => find_any W base b M1 ui vi R fp fc hM2)
      obtain ⟨x, hx, hxp, hxc⟩ := fin_get fp fc M1
      have E1 := hide (ins_fin ⟨fp, fc, fm, fk⟩ M1 (x := x) hx)
      have hix := ix_lt fp fc M1
      have HX := hide hx
      obtain ⟨xp, xc, xm, xk, xn⟩ := x
      dsimp only at hxp hxc
      subst hxp hxc
      have K5 := hide (fun W => rjoin_any W xp xc xm xk xp xc fm fk)
      have HF := hide hF
      have HT1 := hide hT
      have HbW : Hid (base ≤ wr.heap.size) := hT.base_le
      have HbB : Hid (b' < base) := hb'
      clear hT hF hx hM2 hb'
      go_upto_region 3 with fail
      go_cut [5] from 6 to 41 (fun y wc => y = .int .i64 ((ixS xp xc M1 : Nat) : Int) ∧ RA wr wc base b (fin xp xc M1))
      case first =>
        refine wp_region_held_drew (S := fun w' => w'.cell? ⟨b', off + i * 4, none⟩ = some (.int .i64 xp) ∧ w'.cell? ⟨b', off + i * 4 + 1, none⟩ = some (.int .i64 xc)) (by kernel_rfl) (by go_keep) (fun hS0 => ?_)
        refine wpAnyH_take (i := 0) (oi := { dst := some 12, op := Op.move (Operand.tmp 0), type := 25, pos := "ref.go:70", after := #[], guard := none }) (v := ?_) rfl (by kernel_rfl) (by kernel_rfl) (by kernel_rfl) (fun _ _ _ h => h) (Or.inl ⟨by rfl, ?_⟩) (by assumption) ?_; rotate_left; · (intro w hSw; (try dsimp only at hSw); go_simp; (try with_reducible rfl)); try simp only [Act.put, List.setIfInBounds_toArray, List.set_cons_zero, List.set_cons_succ]
        refine wpAnyH_take (i := 1) (oi := { dst := some 13, op := Op.move (Operand.tmp 1), type := 26, pos := "ref.go:70", after := #[], guard := none }) (v := ?_) rfl (by kernel_rfl) (by kernel_rfl) (by kernel_rfl) (fun _ _ _ h => h) (Or.inl ⟨by rfl, ?_⟩) (by assumption) ?_; rotate_left; · (intro w hSw; (try dsimp only at hSw); go_simp; (try with_reducible rfl)); try simp only [Act.put, List.setIfInBounds_toArray, List.set_cons_zero, List.set_cons_succ]
        refine wpAnyH_take (i := 2) (oi := { dst := some 14, op := Op.move (Operand.tmp 4), type := 3, pos := "ref.go:70", after := #[], guard := none }) (v := ?_) rfl (by kernel_rfl) (by kernel_rfl) (by kernel_rfl) (fun _ _ _ h => h) (Or.inl ⟨by rfl, ?_⟩) (by assumption) ?_; rotate_left; · (intro w hSw; (try dsimp only at hSw); go_simp; (try with_reducible rfl)); try simp only [Act.put, List.setIfInBounds_toArray, List.set_cons_zero, List.set_cons_succ]
        refine wpAnyH_take (i := 3) (oi := { dst := some 15, op := Op.indexAddr 26 (Operand.tmp 13) (Operand.tmp 14), type := 0, pos := "ref.go:70", after := #[{ on := 1, ground := Ground.data }, { on := 2, ground := Ground.data }], guard := none }) (v := ?_) rfl (by kernel_rfl) (by kernel_rfl) (by kernel_rfl) (fun _ _ _ h => h) (Or.inl ⟨by rfl, ?_⟩) (by assumption) ?_; rotate_left; · (intro w hSw; (try dsimp only at hSw); go_simp; (try with_reducible rfl)); try simp only [Act.put, List.setIfInBounds_toArray, List.set_cons_zero, List.set_cons_succ]
        refine wpAnyH_take (i := 4) (oi := { dst := some 16, op := Op.fieldAddr 37 (Operand.tmp 15) 0, type := 0, pos := "ref.go:70", after := #[{ on := 3, ground := Ground.data }], guard := none }) (v := ?_) rfl (by kernel_rfl) (by kernel_rfl) (by kernel_rfl) (fun _ _ _ h => h) (Or.inl ⟨by rfl, ?_⟩) (by assumption) ?_; rotate_left; · (intro w hSw; (try dsimp only at hSw); go_simp; (try with_reducible rfl)); try simp only [Act.put, List.setIfInBounds_toArray, List.set_cons_zero, List.set_cons_succ]
        refine wpAnyH_take (i := 5) (oi := { dst := some 17, op := Op.load 3 (Operand.tmp 16), type := 3, pos := "ref.go:70", after := #[{ on := 4, ground := Ground.data }], guard := none }) (v := ?_) rfl (by kernel_rfl) (by kernel_rfl) (by kernel_rfl) (fun _ _ _ h => h) (Or.inl ⟨by rfl, ?_⟩) (by assumption) ?_; rotate_left; · (intro w hSw; (try dsimp only at hSw); go_simp; (try with_reducible rfl)); try simp only [Act.put, List.setIfInBounds_toArray, List.set_cons_zero, List.set_cons_succ]
        refine wpAnyH_take (i := 6) (oi := { dst := some 18, op := Op.move (Operand.tmp 1), type := 26, pos := "ref.go:70", after := #[], guard := none }) (v := ?_) rfl (by kernel_rfl) (by kernel_rfl) (by kernel_rfl) (fun _ _ _ h => h) (Or.inl ⟨by rfl, ?_⟩) (by assumption) ?_; rotate_left; · (intro w hSw; (try dsimp only at hSw); go_simp; (try with_reducible rfl)); try simp only [Act.put, List.setIfInBounds_toArray, List.set_cons_zero, List.set_cons_succ]
        refine wpAnyH_take (i := 7) (oi := { dst := some 19, op := Op.move (Operand.tmp 4), type := 3, pos := "ref.go:70", after := #[], guard := none }) (v := ?_) rfl (by kernel_rfl) (by kernel_rfl) (by kernel_rfl) (fun _ _ _ h => h) (Or.inl ⟨by rfl, ?_⟩) (by assumption) ?_; rotate_left; · (intro w hSw; (try dsimp only at hSw); go_simp; (try with_reducible rfl)); try simp only [Act.put, List.setIfInBounds_toArray, List.set_cons_zero, List.set_cons_succ]
        refine wpAnyH_take (i := 8) (oi := { dst := some 20, op := Op.indexAddr 26 (Operand.tmp 18) (Operand.tmp 19), type := 0, pos := "ref.go:70", after := #[{ on := 6, ground := Ground.data }, { on := 7, ground := Ground.data }], guard := none }) (v := ?_) rfl (by kernel_rfl) (by kernel_rfl) (by kernel_rfl) (fun _ _ _ h => h) (Or.inl ⟨by rfl, ?_⟩) (by assumption) ?_; rotate_left; · (intro w hSw; (try dsimp only at hSw); go_simp; (try with_reducible rfl)); try simp only [Act.put, List.setIfInBounds_toArray, List.set_cons_zero, List.set_cons_succ]
        refine wpAnyH_take (i := 9) (oi := { dst := some 21, op := Op.fieldAddr 37 (Operand.tmp 20) 1, type := 0, pos := "ref.go:70", after := #[{ on := 8, ground := Ground.data }], guard := none }) (v := ?_) rfl (by kernel_rfl) (by kernel_rfl) (by kernel_rfl) (fun _ _ _ h => h) (Or.inl ⟨by rfl, ?_⟩) (by assumption) ?_; rotate_left; · (intro w hSw; (try dsimp only at hSw); go_simp; (try with_reducible rfl)); try simp only [Act.put, List.setIfInBounds_toArray, List.set_cons_zero, List.set_cons_succ]
        refine wpAnyH_take (i := 10) (oi := { dst := some 22, op := Op.load 3 (Operand.tmp 21), type := 3, pos := "ref.go:70", after := #[{ on := 9, ground := Ground.data }], guard := none }) (v := ?_) rfl (by kernel_rfl) (by kernel_rfl) (by kernel_rfl) (fun _ _ _ h => h) (Or.inl ⟨by rfl, ?_⟩) (by assumption) ?_; rotate_left; · (intro w hSw; (try dsimp only at hSw); go_simp; (try with_reducible rfl)); try simp only [Act.put, List.setIfInBounds_toArray, List.set_cons_zero, List.set_cons_succ]
        refine wpAnyH_ready (rs := [11]) (by kernel_rfl) (by simp) ?_; refine AllReadyH.cons (o := { dst := some 23, op := Op.call { callee := Callee.value (Operand.func 25), args := #[Operand.tmp 12, Operand.tmp 17, Operand.tmp 22], argTypes := #[25, 3, 3] }, type := 3, pos := "ref.go:70", after := #[{ on := 0, ground := Ground.data }, { on := 5, ground := Ground.data }, { on := 10, ground := Ground.data }], guard := none }) rfl (fun K hK => ?_) AllReadyH.nil
        go_simp
        go_at_call 25
        refine (K1.out _ HT1.out.drew).mono ?_
        rintro e3 w3 ⟨rfl, u3, v3, R3, F3⟩
        have F3' : Fr (RS base wr) wr w3 := ((Fr.refl (RS base wr) wr).drew).rs F3
        obtain ⟨s0, s1, s2, s3⟩ := HFC.out _ F3'
        have HRA : Hid (RA wr w3 base b (fin xp xc M1)) := ⟨u3, v3, R3, F3'⟩
        clear F3 R3 F3' f0 f1 f2 f3
        go_wp2_with fail
        refine hK.out _ _ (by go_keep) (fun hHeld => ?_)
        clear hK K
        try simp only [Act.put, List.setIfInBounds_toArray, List.set_cons_zero, List.set_cons_succ]
        refine wpAnyH_ready (rs := [12]) (by kernel_rfl) (by simp) ?_; refine AllReadyH.cons (o := { dst := some 5, op := Op.assign (Operand.tmp 23), type := 3, pos := "ref.go:70", after := #[{ on := 11, ground := Ground.data }, { on := 11, ground := Ground.chain }, { on := 0, ground := Ground.phase }, { on := 1, ground := Ground.phase }, { on := 2, ground := Ground.phase }, { on := 3, ground := Ground.phase }, { on := 4, ground := Ground.phase }, { on := 5, ground := Ground.phase }, { on := 6, ground := Ground.phase }, { on := 7, ground := Ground.phase }, { on := 8, ground := Ground.phase }, { on := 9, ground := Ground.phase }, { on := 10, ground := Ground.phase }, { on := 11, ground := Ground.phase }], guard := none }) rfl (fun K hK => ?_) AllReadyH.nil
        go_simp
        refine hK.out _ _ (by assumption) (fun hHeld => ?_)
        clear hK K
        refine wpAnyH_done (by kernel_rfl) ?_ _
        go_wp2_with fail
        go_meet
        exact ⟨rfl, HRA.out⟩
      case rest =>
        obtain ⟨rfl, u3, v3, R3, F3⟩ := hcut
        obtain ⟨g3, cap3, g3', cap3', rfl, rfl, q0, q1, q2, q3, -⟩ := R3.at HX.out
        have c0 := R3.c0
        have HR3 := hide R3
        have HF3 := hide F3
        obtain ⟨s0, s1, s2, s3⟩ := HFC.out _ F3
        have hne : g3 ≠ b := HR3.out.gne
        have hne' : b ≠ g3 := Ne.symm hne
        have hgb : b' ≠ g3 := by have := R3.gu.1; have := HbB.out; omega
        have hgb' : g3 ≠ b' := Ne.symm hgb
        have hbb : b' ≠ b := by have := R3.bb; have := HbB.out; omega
        have hbb' : b ≠ b' := Ne.symm hbb
        have HCH : Hid (∀ W0 W, Fr (fun _ => False) W0 W → W0.heap = wc.heap → _) := hide (fun W0 W F e => (HR3.out.heap e F).chain HX.out xp xc (orI xm fm) (jc xk fk))
        clear R3 F3 f0 f1 f2 f3
        go_upto_region 4 with fail
        refine wp_region_held_drew (S := fun w' => w'.cell? ⟨b, 0, none⟩ = some (.slice (some ⟨g3, 0, none⟩) (fin xp xc M1).length cap3) ∧ w'.cell? ⟨b', off + i * 4, none⟩ = some (.int .i64 xp) ∧ w'.cell? ⟨b', off + i * 4 + 1, none⟩ = some (.int .i64 xc) ∧ w'.cell? ⟨b', off + i * 4 + 2, none⟩ = some (.int .i64 fm) ∧ w'.cell? ⟨b', off + i * 4 + 3, none⟩ = some (.int .i64 fk)) (by kernel_rfl) (by go_keep) (fun hS0 => ?_)
        refine wpAnyH_take (i := 0) (oi := { dst := some 24, op := Op.move (Operand.tmp 0), type := 25, pos := "ref.go:71", after := #[], guard := none }) (v := ?_) rfl (by kernel_rfl) (by kernel_rfl) (by kernel_rfl) (fun _ _ _ h => h) (Or.inl ⟨by rfl, ?_⟩) (by assumption) ?_; rotate_left; · (intro w hSw; (try dsimp only at hSw); go_simp; (try with_reducible rfl)); try simp only [Act.put, List.setIfInBounds_toArray, List.set_cons_zero, List.set_cons_succ]
        refine wpAnyH_take (i := 1) (oi := { dst := some 25, op := Op.nilCheck (Operand.tmp 24), type := 0, pos := "ref.go:71", after := #[{ on := 0, ground := Ground.data }], guard := none }) (v := ?_) rfl (by kernel_rfl) (by kernel_rfl) (by kernel_rfl) (fun _ _ _ h => h) (Or.inl ⟨by rfl, ?_⟩) (by assumption) ?_; rotate_left; · (intro w hSw; (try dsimp only at hSw); go_simp; (try with_reducible rfl)); try simp only [Act.put, List.setIfInBounds_toArray, List.set_cons_zero, List.set_cons_succ]
        refine wpAnyH_take (i := 2) (oi := { dst := some 26, op := Op.fieldAddr 29 (Operand.tmp 25) 0, type := 0, pos := "ref.go:71", after := #[{ on := 1, ground := Ground.data }], guard := none }) (v := ?_) rfl (by kernel_rfl) (by kernel_rfl) (by kernel_rfl) (fun _ _ _ h => h) (Or.inl ⟨by rfl, ?_⟩) (by assumption) ?_; rotate_left; · (intro w hSw; (try dsimp only at hSw); go_simp; (try with_reducible rfl)); try simp only [Act.put, List.setIfInBounds_toArray, List.set_cons_zero, List.set_cons_succ]
        refine wpAnyH_take (i := 3) (oi := { dst := some 27, op := Op.load 26 (Operand.tmp 26), type := 26, pos := "ref.go:71", after := #[{ on := 2, ground := Ground.data }], guard := none }) (v := ?_) rfl (by kernel_rfl) (by kernel_rfl) (by kernel_rfl) (fun _ _ _ h => h) (Or.inl ⟨by rfl, ?_⟩) (by assumption) ?_; rotate_left; · (intro w hSw; (try dsimp only at hSw); go_simp; (try with_reducible rfl)); try simp only [Act.put, List.setIfInBounds_toArray, List.set_cons_zero, List.set_cons_succ]
        refine wpAnyH_take (i := 4) (oi := { dst := some 28, op := Op.move (Operand.tmp 5), type := 3, pos := "ref.go:71", after := #[], guard := none }) (v := ?_) rfl (by kernel_rfl) (by kernel_rfl) (by kernel_rfl) (fun _ _ _ h => h) (Or.inl ⟨by rfl, ?_⟩) (by assumption) ?_; rotate_left; · (intro w hSw; (try dsimp only at hSw); go_simp; (try with_reducible rfl)); try simp only [Act.put, List.setIfInBounds_toArray, List.set_cons_zero, List.set_cons_succ]
        refine wpAnyH_take (i := 5) (oi := { dst := some 29, op := Op.move (Operand.tmp 0), type := 25, pos := "ref.go:71", after := #[], guard := none }) (v := ?_) rfl (by kernel_rfl) (by kernel_rfl) (by kernel_rfl) (fun _ _ _ h => h) (Or.inl ⟨by rfl, ?_⟩) (by assumption) ?_; rotate_left; · (intro w hSw; (try dsimp only at hSw); go_simp; (try with_reducible rfl)); try simp only [Act.put, List.setIfInBounds_toArray, List.set_cons_zero, List.set_cons_succ]
        refine wpAnyH_take (i := 6) (oi := { dst := some 30, op := Op.nilCheck (Operand.tmp 29), type := 0, pos := "ref.go:71", after := #[{ on := 5, ground := Ground.data }], guard := none }) (v := ?_) rfl (by kernel_rfl) (by kernel_rfl) (by kernel_rfl) (fun _ _ _ h => h) (Or.inl ⟨by rfl, ?_⟩) (by assumption) ?_; rotate_left; · (intro w hSw; (try dsimp only at hSw); go_simp; (try with_reducible rfl)); try simp only [Act.put, List.setIfInBounds_toArray, List.set_cons_zero, List.set_cons_succ]
        refine wpAnyH_take (i := 7) (oi := { dst := some 31, op := Op.fieldAddr 29 (Operand.tmp 30) 0, type := 0, pos := "ref.go:71", after := #[{ on := 6, ground := Ground.data }], guard := none }) (v := ?_) rfl (by kernel_rfl) (by kernel_rfl) (by kernel_rfl) (fun _ _ _ h => h) (Or.inl ⟨by rfl, ?_⟩) (by assumption) ?_; rotate_left; · (intro w hSw; (try dsimp only at hSw); go_simp; (try with_reducible rfl)); try simp only [Act.put, List.setIfInBounds_toArray, List.set_cons_zero, List.set_cons_succ]
        refine wpAnyH_take (i := 8) (oi := { dst := some 32, op := Op.load 26 (Operand.tmp 31), type := 26, pos := "ref.go:71", after := #[{ on := 7, ground := Ground.data }], guard := none }) (v := ?_) rfl (by kernel_rfl) (by kernel_rfl) (by kernel_rfl) (fun _ _ _ h => h) (Or.inl ⟨by rfl, ?_⟩) (by assumption) ?_; rotate_left; · (intro w hSw; (try dsimp only at hSw); go_simp; (try with_reducible rfl)); try simp only [Act.put, List.setIfInBounds_toArray, List.set_cons_zero, List.set_cons_succ]
        refine wpAnyH_take (i := 9) (oi := { dst := some 33, op := Op.move (Operand.tmp 5), type := 3, pos := "ref.go:71", after := #[], guard := none }) (v := ?_) rfl (by kernel_rfl) (by kernel_rfl) (by kernel_rfl) (fun _ _ _ h => h) (Or.inl ⟨by rfl, ?_⟩) (by assumption) ?_; rotate_left; · (intro w hSw; (try dsimp only at hSw); go_simp; (try with_reducible rfl)); try simp only [Act.put, List.setIfInBounds_toArray, List.set_cons_zero, List.set_cons_succ]
        refine wpAnyH_take (i := 10) (oi := { dst := some 34, op := Op.indexAddr 26 (Operand.tmp 32) (Operand.tmp 33), type := 0, pos := "ref.go:71", after := #[{ on := 8, ground := Ground.data }, { on := 9, ground := Ground.data }], guard := none }) (v := ?_) rfl (by kernel_rfl) (by kernel_rfl) (by kernel_rfl) (fun _ _ _ h => h) (Or.inl ⟨by rfl, ?_⟩) (by assumption) ?_; rotate_left; · (intro w hSw; (try dsimp only at hSw); go_simp; (try with_reducible rfl)); try simp only [Act.put, List.setIfInBounds_toArray, List.set_cons_zero, List.set_cons_succ]
        refine wpAnyH_take (i := 12) (oi := { dst := some 36, op := Op.move (Operand.tmp 1), type := 26, pos := "ref.go:71", after := #[], guard := none }) (v := ?_) rfl (by kernel_rfl) (by kernel_rfl) (by kernel_rfl) (fun _ _ _ h => h) (Or.inl ⟨by rfl, ?_⟩) (by assumption) ?_; rotate_left; · (intro w hSw; (try dsimp only at hSw); go_simp; (try with_reducible rfl)); try simp only [Act.put, List.setIfInBounds_toArray, List.set_cons_zero, List.set_cons_succ]
        refine wpAnyH_take (i := 13) (oi := { dst := some 37, op := Op.move (Operand.tmp 4), type := 3, pos := "ref.go:71", after := #[], guard := none }) (v := ?_) rfl (by kernel_rfl) (by kernel_rfl) (by kernel_rfl) (fun _ _ _ h => h) (Or.inl ⟨by rfl, ?_⟩) (by assumption) ?_; rotate_left; · (intro w hSw; (try dsimp only at hSw); go_simp; (try with_reducible rfl)); try simp only [Act.put, List.setIfInBounds_toArray, List.set_cons_zero, List.set_cons_succ]
        refine wpAnyH_take (i := 14) (oi := { dst := some 38, op := Op.indexAddr 26 (Operand.tmp 36) (Operand.tmp 37), type := 0, pos := "ref.go:71", after := #[{ on := 12, ground := Ground.data }, { on := 13, ground := Ground.data }], guard := none }) (v := ?_) rfl (by kernel_rfl) (by kernel_rfl) (by kernel_rfl) (fun _ _ _ h => h) (Or.inl ⟨by rfl, ?_⟩) (by assumption) ?_; rotate_left; · (intro w hSw; (try dsimp only at hSw); go_simp; (try with_reducible rfl)); try simp only [Act.put, List.setIfInBounds_toArray, List.set_cons_zero, List.set_cons_succ]
        refine wpAnyH_take (i := 15) (oi := { dst := some 39, op := Op.load 37 (Operand.tmp 38), type := 37, pos := "ref.go:71", after := #[{ on := 14, ground := Ground.data }], guard := none }) (v := ?_) rfl (by kernel_rfl) (by kernel_rfl) (by kernel_rfl) (fun _ _ _ h => h) (Or.inl ⟨by rfl, ?_⟩) (by assumption) ?_; rotate_left; · (intro w hSw; (try dsimp only at hSw); go_simp; (try with_reducible rfl)); try simp only [Act.put, List.setIfInBounds_toArray, List.set_cons_zero, List.set_cons_succ]
        refine wpAnyH_ready (rs := [11]) (by kernel_rfl) (by simp) ?_; refine AllReadyH.cons (o := { dst := some 35, op := Op.load 37 (Operand.tmp 34), type := 37, pos := "ref.go:71", after := #[{ on := 10, ground := Ground.data }], guard := none }) rfl (fun K hK => ?_) AllReadyH.nil
        go_simp
        refine hK.out _ _ (by assumption) (fun hHeld => ?_)
        clear hK K
        try simp only [Act.put, List.setIfInBounds_toArray, List.set_cons_zero, List.set_cons_succ]
        refine wpAnyH_ready (rs := [16]) (by kernel_rfl) (by simp) ?_; refine AllReadyH.cons (o := { dst := some 40, op := Op.call { callee := Callee.value (Operand.func 23), args := #[Operand.tmp 35, Operand.tmp 39], argTypes := #[37, 37] }, type := 37, pos := "ref.go:71", after := #[{ on := 11, ground := Ground.data }, { on := 15, ground := Ground.data }], guard := none }) rfl (fun K hK => ?_) AllReadyH.nil
        go_simp
        go_at_call 23
        refine (K5.out _).mono ?_
        rintro e5 w5 ⟨rfl, F5⟩
        unfold fdV
        obtain ⟨⟨z0, y0⟩, ⟨z1, y1⟩, ⟨z2, y2⟩, ⟨z3, y3⟩, ra⟩ := HCH.out _ _ F5 rfl
        have hb5 := (HR3.out.heap (w' := w5) (w0 := wc.drew) rfl F5).c0
        obtain ⟨t0, t1, t2, t3⟩ := HFC.out _ (HF3.out.rs ((((Fr.refl _ wc).drew).trans F5 (fun _ _ e => e)).none_rs))
        have HRA := hide ra
        have HF5 := hide F5
        clear F5 ra
        go_wp2_with fail
        refine hK.out _ _ (by go_keep) (fun hHeld5 => ?_)
        clear hK K
        try simp only [Act.put, List.setIfInBounds_toArray, List.set_cons_zero, List.set_cons_succ]
        refine wpAnyH_take (i := 17) (oi := { dst := some 41, op := Op.indexAddr 26 (Operand.tmp 27) (Operand.tmp 28), type := 0, pos := "ref.go:71", after := #[{ on := 3, ground := Ground.data }, { on := 4, ground := Ground.data }, { on := 0, ground := Ground.phase }, { on := 1, ground := Ground.phase }, { on := 2, ground := Ground.phase }, { on := 3, ground := Ground.phase }, { on := 4, ground := Ground.phase }, { on := 5, ground := Ground.phase }, { on := 6, ground := Ground.phase }, { on := 7, ground := Ground.phase }, { on := 8, ground := Ground.phase }, { on := 9, ground := Ground.phase }, { on := 10, ground := Ground.phase }, { on := 11, ground := Ground.phase }, { on := 12, ground := Ground.phase }, { on := 13, ground := Ground.phase }, { on := 14, ground := Ground.phase }, { on := 15, ground := Ground.phase }, { on := 16, ground := Ground.phase }], guard := none }) (v := ?_) rfl (by kernel_rfl) (by kernel_rfl) (by kernel_rfl) (fun _ _ _ h => h) (Or.inl ⟨by rfl, ?_⟩) (by assumption) ?_; rotate_left; · (intro w hSw; (try dsimp only at hSw); go_simp; (try with_reducible rfl)); try simp only [Act.put, List.setIfInBounds_toArray, List.set_cons_zero, List.set_cons_succ]
        refine wpAnyH_ready (rs := [18]) (by kernel_rfl) (by simp) ?_; refine AllReadyH.cons (o := { dst := none, op := Op.store 37 (Operand.tmp 41) (Operand.tmp 40), type := 0, pos := "ref.go:71", after := #[{ on := 17, ground := Ground.data }, { on := 16, ground := Ground.data }, { on := 16, ground := Ground.chain }, { on := 0, ground := Ground.phase }, { on := 1, ground := Ground.phase }, { on := 2, ground := Ground.phase }, { on := 3, ground := Ground.phase }, { on := 4, ground := Ground.phase }, { on := 5, ground := Ground.phase }, { on := 6, ground := Ground.phase }, { on := 7, ground := Ground.phase }, { on := 8, ground := Ground.phase }, { on := 9, ground := Ground.phase }, { on := 10, ground := Ground.phase }, { on := 11, ground := Ground.phase }, { on := 12, ground := Ground.phase }, { on := 13, ground := Ground.phase }, { on := 14, ground := Ground.phase }, { on := 15, ground := Ground.phase }, { on := 16, ground := Ground.phase }], guard := none }) rfl (fun K hK => ?_) AllReadyH.nil
        go_simp
        refine hK.out _ _ (by go_keep) (fun hHeld6 => ?_)
        clear hK K
        refine wpAnyH_done (by kernel_rfl) ?_ _
        go_wp2_with fail
        refine ⟨⟨i + 1, _, by go_num, hil, HN.out.trans E1.out, ?_⟩, by simp [intOf]; omega⟩
        obtain ⟨u9, v9, R9, F9⟩ := HRA.out.ahead HF3.out HF5.out
        exact ⟨u9, v9, R9, HF.out.rs F9⟩
    · have e : i = n := by omega
      subst e
      have hil' : ¬ ((i : Int) < (i : Int)) := by omega
      subst hM1
      have HT := hide hT
      have HF := hide hF
      clear hT hF hil
      go_wp2_with fail
      go_end0
      exact ⟨rfl, _, _, HT.out, HF.out⟩

end Go.Proofs.Ytcefeclgehijpaa
