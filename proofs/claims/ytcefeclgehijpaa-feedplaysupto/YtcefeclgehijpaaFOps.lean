/-
  What is proved here: both tables side by side; what each call does to them.
-/
import Derived.Test.YtcefeclgehijpaaFPlay
import Derived.Test.YtcefeclgehijpaaFRefH
import Derived.Test.YtcefeclgehijpaaFRefK
import Derived.Test.YtcefeclgehijpaaFSeen0
import Derived.Laws.AppendOwnNone
namespace Go.Proofs.Ytcefeclgehijpaa
open Go Go.RowKit

/-- Both tables in memory. -/
structure PS (w wr : World) (t r base b : Nat) (S M : List PM) : Prop where
  A : ∃ T clk, TabAt wr t r T clk ∧ T.map PL.pm = S ∧ ∀ k, tfoot t r T k → w.heap.size ≤ k
  R : ∃ u v, RT wr base b M u v
  bb : w.heap.size ≤ base
  fr : Fr (fun _ => False) w wr
theorem PS.same {w wr w' : World} {t r base b : Nat} {S M : List PM} (h : PS w wr t r base b S M) (F : Fr (fun _ => False) wr w') : PS w w' t r base b S M := by
  obtain ⟨T, clk, a, e, s⟩ := h.A
  obtain ⟨u, v, R⟩ := h.R
  exact ⟨⟨T, clk, a.same F, e, s⟩, ⟨u, v, R.same F⟩, h.bb, h.fr.trans F (fun _ _ e => e)⟩
theorem PS.adv {w wr w' : World} {t r base b clk : Nat} {T : List PL} {S' M : List PM} (a : TabAt wr t r T clk) (s : ∀ k, tfoot t r T k → w.heap.size ≤ k) (R : ∃ u v, RT wr base b M u v) (bb : w.heap.size ≤ base) (fr : Fr (fun _ => False) w wr)
    (A : Adv wr w' t r T S') : PS w w' t r base b S' M := by
  obtain ⟨T', clk', a', F', g', e'⟩ := A
  obtain ⟨u, v, R⟩ := R
  refine ⟨⟨T', clk', a', e', fun k hk => ?_⟩, ⟨u, v, R.fr F' (fun k hr hf => foot_rs a hf hr)⟩, bb, fr.trans F' (fun k hk hf => by have := s k hf; omega)⟩
  rcases g' k hk with q | q
  · exact s k q
  · have := fr.size
    omega
theorem PS.ra {w wr w' : World} {t r base b : Nat} {S M M' : List PM} (h : PS w wr t r base b S M) (A : RA wr w' base b M') : PS w w' t r base b S M' := by
  obtain ⟨T, clk, a, e, s⟩ := h.A
  obtain ⟨u, v, R, F⟩ := A
  refine ⟨⟨T, clk, a.fr F (fun k hf hr => foot_rs a hf hr), e, s⟩, ⟨u, v, R⟩, h.bb, h.fr.trans F (fun k hk hr => ?_)⟩
  have h1 := hr.1
  have h2 := h.bb
  omega

/-- The blocks of a script's steps stay. -/
def Kp (W W' : World) : Prop := ∀ (xb : Nat) (cs : Array Value), W.heap[xb]? = some (.cells cs 31 (0, 0)) → W'.heap[xb]? = some (.cells cs 31 (0, 0))
theorem kp_fr {W W' : World} (F : Fr (fun _ => False) W W') : Kp W W' := fun xb _cs h => (F.block xb (lt_of_block h) (fun e => e)).trans h
theorem kp_adv {W w' : World} {t r clk : Nat} {T : List PL} {S' : List PM} (a : TabAt W t r T clk) (A : Adv W w' t r T S') : Kp W w' := by
  obtain ⟨T', clk', a', F', g', e'⟩ := A
  intro xb cs h
  refine (F'.block xb (lt_of_block h) (fun hf => ?_)).trans h
  rcases hf with rfl | rfl | ⟨x, hx, rfl⟩
  · rw [a.tb] at h
    simp at h
  · have := a.mp
    unfold MapAt at this
    rw [this] at h
    cases h
  · rw [a.pl x hx] at h
    simp at h
theorem kp_ra {W w' : World} {base b : Nat} {M' : List PM} (A : RA W w' base b M') : Kp W w' := by
  obtain ⟨u, v, R, F⟩ := A
  intro xb cs h
  refine (F.block xb (lt_of_block h) (fun hr => ?_)).trans h
  obtain ⟨-, cs', ty, hb, hty⟩ := hr
  rw [h] at hb
  simp at hb
  obtain ⟨-, rfl⟩ := hb
  revert hty
  decide
theorem Kp.trans {a b c : World} (h : Kp a b) (k : Kp b c) : Kp a c := fun xb cs e => k xb cs (h xb cs e)

theorem ps_see {w W : World} {t r base b : Nat} {S M : List PM} (h : PS w W t r base b S M) (p c : Int) (ao : Option Addr) (n cap : Nat) (g : Nat → Int) (hn : n ≤ 9223372036854775807) (hr : IRow W ao n g) :
    Calls Try.prog 8 #[.pointer (some ⟨t, 0, none⟩), .int .i64 p, .int .i64 c, .slice ao n cap] W fun e w' => e = .returned (.tuple #[]) ∧ PS w w' t r base b (addS S ⟨p, c, mk g n, -1⟩) M ∧ Kp W w' := by
  obtain ⟨T, clk, a, rfl, s⟩ := h.A
  exact (see_any W t r clk T a p c ao n cap g hn hr).mono (by rintro e w' ⟨rfl, A⟩; exact ⟨rfl, PS.adv a s h.R h.bb h.fr A, kp_adv a A⟩)
theorem ps_call {w W : World} {t r base b : Nat} {S M : List PM} (h : PS w W t r base b S M) (p c cc : Int) :
    Calls Try.prog 10 #[.pointer (some ⟨t, 0, none⟩), .int .i64 p, .int .i64 c, .int .i64 cc] W fun e w' => e = .returned (.tuple #[]) ∧ PS w w' t r base b (addS S ⟨p, c, 0, if cc < 0 then -2 else cc⟩) M ∧ Kp W w' := by
  obtain ⟨T, clk, a, rfl, s⟩ := h.A
  exact (call_any W t r clk T a p c cc).mono (by rintro e w' ⟨rfl, A⟩; exact ⟨rfl, PS.adv a s h.R h.bb h.fr A, kp_adv a A⟩)
theorem ps_enter {w W : World} {t r base b N : Nat} {S M : List PM} (h : PS w W t r base b S M) (p c : Int) (hN : NB S N) (hN2 : N < 9223372036854775807) :
    Calls Try.prog 12 #[.pointer (some ⟨t, 0, none⟩), .int .i64 p, .int .i64 c] W fun e w' => e = .returned (.int .i64 (times p c S + 1)) ∧ PS w w' t r base b (entS p c S) M ∧ Kp W w' := by
  obtain ⟨T, clk, a, rfl, s⟩ := h.A
  refine (enter_any W t r clk T a p c (fun x hx => ?_)).mono (by rintro e w' ⟨rfl, A⟩; exact ⟨rfl, PS.adv a s h.R h.bb h.fr A, kp_adv a A⟩)
  have := hN x.pm (List.mem_map.2 ⟨x, hx, rfl⟩)
  exact ⟨this.1, Int.lt_of_le_of_lt this.2 (by omega)⟩
theorem ps_add {w W : World} {t r base b : Nat} {S M : List PM} (h : PS w W t r base b S M) (ao : Option Addr) (n cap : Nat) (g : Nat → Fd) (hn : n ≤ 9223372036854775807) (hr : FRow W ao n g) (hsep : ∀ b' off, ao = some ⟨b', off, none⟩ → n ≠ 0 → b' < W.heap.size ∧ ∀ T clk, TabAt W t r T clk → ¬ tfoot t r T b') :
    Calls Try.prog 14 #[.pointer (some ⟨t, 0, none⟩), .slice ao n cap] W fun e w' => e = .returned (.tuple #[]) ∧ PS w w' t r base b (addN g S n) M ∧ Kp W w' := by
  obtain ⟨T, clk, a, rfl, s⟩ := h.A
  exact (add_any W t r clk T a ao n cap g hn hr (fun b' off e hne => ⟨(hsep b' off e hne).1, (hsep b' off e hne).2 T clk a⟩)).mono (by rintro e w' ⟨rfl, A⟩; exact ⟨rfl, PS.adv a s h.R h.bb h.fr A, kp_adv a A⟩)
theorem ps_at {w W : World} {t r base b : Nat} {S M : List PM} (h : PS w W t r base b S M) (p c : Int) :
    Calls Try.prog 16 #[.pointer (some ⟨t, 0, none⟩), .int .i64 p, .int .i64 c] W fun e w' => e = .returned (fdV p c (look p c S).1 (look p c S).2) ∧ Fr (fun _ => False) W w' := by
  obtain ⟨T, clk, a, rfl, s⟩ := h.A
  exact at_look W t r clk T a p c
theorem ps_rsee {w W : World} {t r base b : Nat} {S M : List PM} (h : PS w W t r base b S M) (p c : Int) (ao : Option Addr) (n cap : Nat) (g : Nat → Int) (hn : n ≤ 9223372036854775807) (hr : IRow W ao n g) (hsep : ∀ b' off, ao = some ⟨b', off, none⟩ → n ≠ 0 → b' < base) (hM : M.length ≤ 2097152) (hN : NrmS M) :
    Calls Try.prog 9 #[.pointer (some ⟨b, 0, none⟩), .int .i64 p, .int .i64 c, .slice ao n cap] W fun e w' => e = .returned (.tuple #[]) ∧ PS w w' t r base b S (insS ⟨p, c, mk g n, -1⟩ M) ∧ Kp W w' := by
  obtain ⟨u, v, R⟩ := h.R
  exact (rsee_any W base b M u v R p c ao n cap g hn hr hsep (by omega) hN).mono (by rintro e w' ⟨rfl, A⟩; exact ⟨rfl, h.ra A, kp_ra A⟩)
theorem ps_rcall {w W : World} {t r base b : Nat} {S M : List PM} (h : PS w W t r base b S M) (p c cc : Int) (hM : M.length ≤ 2097152) :
    Calls Try.prog 11 #[.pointer (some ⟨b, 0, none⟩), .int .i64 p, .int .i64 c, .int .i64 cc] W fun e w' => e = .returned (.tuple #[]) ∧ PS w w' t r base b S (insS ⟨p, c, 0, if cc < 0 then -2 else cc⟩ M) ∧ Kp W w' := by
  obtain ⟨u, v, R⟩ := h.R
  exact (rcall_any W base b M u v R p c cc (by omega)).mono (by rintro e w' ⟨rfl, A⟩; exact ⟨rfl, h.ra A, kp_ra A⟩)
theorem ps_renter {w W : World} {t r base b N : Nat} {S M : List PM} (h : PS w W t r base b S M) (p c : Int) (hM : M.length ≤ 2097152) (hN : NB M N) (hN2 : N < 9223372036854775807) :
    Calls Try.prog 13 #[.pointer (some ⟨b, 0, none⟩), .int .i64 p, .int .i64 c] W fun e w' => e = .returned (.int .i64 (times p c M + 1)) ∧ PS w w' t r base b S (entS p c M) ∧ Kp W w' := by
  obtain ⟨u, v, R⟩ := h.R
  exact (renter_any W base b M u v R p c (by omega) (fun x hx => ⟨(hN x hx).1, Int.lt_of_le_of_lt (hN x hx).2 (by omega)⟩)).mono (by rintro e w' ⟨rfl, A⟩; exact ⟨rfl, h.ra A, kp_ra A⟩)
theorem ps_radd {w W : World} {t r base b : Nat} {S M : List PM} (h : PS w W t r base b S M) (ao : Option Addr) (n cap : Nat) (g : Nat → Fd) (hn : n ≤ 1048576) (hr : FRow W ao n g) (hsep : ∀ b' off, ao = some ⟨b', off, none⟩ → n ≠ 0 → b' < base) (hM : M.length ≤ 2097152) :
    Calls Try.prog 15 #[.pointer (some ⟨b, 0, none⟩), .slice ao n cap] W fun e w' => e = .returned (.tuple #[]) ∧ PS w w' t r base b S (insN g M n) ∧ Kp W w' := by
  obtain ⟨u, v, R⟩ := h.R
  exact (radd_any W base b M u v R ao n cap g (by omega) hr hsep (by omega)).mono (by rintro e w' ⟨rfl, A⟩; exact ⟨rfl, h.ra A, kp_ra A⟩)
theorem ps_rat {w W : World} {t r base b : Nat} {S M : List PM} (h : PS w W t r base b S M) (p c : Int) (hM : M.length ≤ 2097152) :
    Calls Try.prog 17 #[.pointer (some ⟨b, 0, none⟩), .int .i64 p, .int .i64 c] W fun e w' => e = .returned (fdV p c (look p c M).1 (look p c M).2) ∧ Fr (fun _ => False) W w' := by
  obtain ⟨u, v, R⟩ := h.R
  exact rat_any W base b M u v R p c (by omega)
/-- What both tell, side by side. -/
theorem ps_all {w W : World} {t r base b : Nat} {S M : List PM} (h : PS w W t r base b S M) (hE : EQ S M) (hS : S.length ≤ 2097152) (hM : M.length ≤ 2097152) : ∃ L : List Fd, L.length ≤ 9223372036854775807 ∧
    (∀ W', Fr (fun _ => False) W W' → Calls Try.prog 19 #[.pointer (some ⟨t, 0, none⟩)] W' fun e w' => ∃ ao cap, e = .returned (.slice ao L.length cap) ∧ FRow w' ao L.length (fun i => L.getD i z0) ∧ Fr (fun _ => False) W' w') ∧
    (∀ W', Fr (fun _ => False) W W' → Calls Try.prog 20 #[.pointer (some ⟨b, 0, none⟩)] W' fun e w' => ∃ ao cap, e = .returned (.slice ao L.length cap) ∧ FRow w' ao L.length (fun i => L.getD i z0) ∧ Fr (fun _ => False) W' w') := by
  obtain ⟨T, clk, a, rfl, s⟩ := h.A
  obtain ⟨u, v, R⟩ := h.R
  have hTl : T.length * 32 ≤ 140737488355328 := by
    rw [List.length_map] at hS
    omega
  obtain ⟨L, hL1, hL2⟩ := sorted_ex M
  have huniq : ∀ L', L'.Perm (fds T) → L'.Pairwise (fun x y => ¬ ltF y x) → L' = L := fun L' h1 h2 => hE.all a.ky h1 hL1 h2 hL2
  have huniq2 : ∀ L', L'.Perm (fdsM M) → L'.Pairwise (fun x y => ¬ ltF y x) → L' = L := by
    intro L' h1 h2
    obtain ⟨L3, h3, h4⟩ := sorted_exT T
    rw [← hE.all a.ky h3 h1 h4 h2]
    exact huniq L3 h3 h4
  refine ⟨L, ?_, fun W' F => ?_, fun W' F => ?_⟩
  · have h1 := hL1.length_eq
    have h2 := fdsM_len M
    omega
  · refine (all_any W' t r clk T (a.same F) hTl).mono ?_
    rintro e w' ⟨ao, cap, L', rfl, r1, r2, r3, r4, -⟩
    obtain rfl := huniq L' r2 r3
    exact ⟨ao, cap, rfl, r1, r4⟩
  · refine (rall_any W' base b M u v (R.same F) (by omega)).mono ?_
    rintro e w' ⟨ao, cap, L', rfl, r1, r2, r3, r4, -⟩
    obtain rfl := huniq2 L' r2 r3
    exact ⟨ao, cap, rfl, r1, r4⟩

/-- Both tables, and what is known of them behind N steps. -/
def ST (w wr : World) (t r base b N L : Nat) : Prop := ∃ S M, PS w wr t r base b S M ∧ EQ S M ∧ S.length ≤ L ∧ M.length ≤ L ∧ NB S N ∧ NB M N
theorem ST.up {w wr : World} {t r base b N L N' L' : Nat} (h : ST w wr t r base b N L) (hN : N ≤ N') (hL : L ≤ L') : ST w wr t r base b N' L' := by
  obtain ⟨S, M, h1, h2, h3, h4, h5, h6⟩ := h
  exact ⟨S, M, h1, h2, by omega, by omega, h5.up hN, h6.up hN⟩
theorem ST.same {w wr w' : World} {t r base b N L : Nat} (h : ST w wr t r base b N L) (F : Fr (fun _ => False) wr w') : ST w w' t r base b N L := by
  obtain ⟨S, M, h1, h2⟩ := h
  exact ⟨S, M, h1.same F, h2⟩

/-- A step of a script. -/
def OpAt (W : World) (b o : Nat) (z p c q : Int) (ao : Option Addr) (n cap : Nat) (gi : Nat → Int) (fo : Option Addr) (m cap' : Nat) (gf : Nat → Fd) : Prop :=
  W.cell? ⟨b, o, none⟩ = some (.int .i64 z) ∧ W.cell? ⟨b, o + 1, none⟩ = some (.int .i64 p) ∧ W.cell? ⟨b, o + 2, none⟩ = some (.int .i64 c) ∧ W.cell? ⟨b, o + 3, none⟩ = some (.int .i64 q) ∧
  W.cell? ⟨b, o + 4, none⟩ = some (.slice ao n cap) ∧ W.cell? ⟨b, o + 5, none⟩ = some (.slice fo m cap') ∧ IRow W ao n gi ∧ FRow W fo m gf ∧ (ao = none → n = 0 ∧ cap = 0) ∧ (fo = none → m = 0 ∧ cap' = 0)
def OpsF (W : World) (mo : Option Addr) (k : Nat) (B : Nat → Nat) : Prop :=
  k = 0 ∨ ∃ b off, mo = some ⟨b, off, none⟩ ∧ ∀ i, i < k → ∃ z p c q ao n cap gi fo m cap' gf, OpAt W b (off + i * 6) z p c q ao n cap gi fo m cap' gf ∧ B i + n + m + 1 ≤ B (i + 1)

/-- A row is copied: append to nil. -/
theorem wp_copy {o : Oper} {a : Act} {w : World} {K : Act → World → Prop} {Q : Exit → Act → World → Prop} (s x : Operand) (t : TypeId)
    (ho : o.op = .call { callee := .builtin .append, args := #[s, x], argTypes := #[t, t] }) (e : TypeId) (i : TypeInfo) (z : Value) (size bytes : Nat) (ht : Try.prog.underlying t = some (.slice e)) (hi : Try.prog.info? e = some i) (hz : i.zero = some z)
    (hsize : i.size = size) (hby : i.bytes = bytes) (hzs : z.cells.size = size) (hsz : 0 < size) (hs : a.eval s = .slice none 0 0) (ao : Option Addr) (n cap : Nat) (hx : a.eval x = .slice ao n cap) (hnone : ao = none → n = 0 ∧ cap = 0)
    (news : List Value) (hl : news.length = n * size) (hnews : ∀ ad, ao = some ad → ∀ j u, news[j]? = some u → w.cell? (ad.add j) = some u) (h1 : ∀ u ∈ news, u.oneCell' = true) (h63 : n ≤ maxLen) (hbytes : n * bytes ≤ 140737488355328)
    (h : ∀ v' w', w'.ownsRow w.heap.size e size v' n news → Fr (fun _ => False) w w' → K (a.put o.dst v') w') : Oper.wp Try.prog o a w K Q := by
  have hnil : w.ownsRow w.heap.size e size (.slice none 0 0) 0 [] := ⟨by simp, .inl ⟨rfl, rfl⟩⟩
  cases ao with
  | none =>
    obtain ⟨rfl, rfl⟩ := hnone rfl
    have e0 : news = [] := List.eq_nil_of_length_eq_zero (by simpa using hl)
    subst e0
    have hrun := run_append_owned_none (P := Try.prog) (w := w) w.heap.size t o.type e i size ht hi _ 0 [] hnil
    unfold Oper.wp
    simp [execOp, ho, resolve, invoke, builtin, hs, hx, hrun, Result.andThen]
    exact h _ _ hnil (Fr.refl _ _)
  | some ad =>
    refine wp_append_own w s x t ho w.heap.size e i z size bytes ht hi hz hsize hby hzs hsz _ 0 [] hs hnil ad n cap news hx hl (hnews ad rfl) h1 (by rw [Nat.zero_add]; exact h63) (by rw [Nat.zero_add]; exact hbytes) (Nat.le_refl _) ?_
    intro v' w' h2 h3 _
    simp only [Nat.zero_add, List.nil_append] at h2
    exact h v' w' h2 ((Fr.refl _ _).grow h3 (fun k _ e => by cases e))
theorem step_copy {ops : Array Oper} {o : Oper} {a : Act} {w : World} {K : Act → World → Prop} {Q : Exit → Act → World → Prop} {E : Prop} (hgd : o.guard = none) (h : Oper.wp Try.prog o a w K Q) : if Region.wanted o (yielded ops a.tmps) = true then Oper.wp Try.prog o a w K Q else E := by
  have hw : Region.wanted o (yielded ops a.tmps) = true := by simp [Region.wanted, hgd]
  rw [if_pos hw]
  exact h
/-- The cells of numbers. -/
def rowI (g : Nat → Int) (n : Nat) : List Value := (List.range n).map fun i => .int .i64 (g i)
theorem rowI_len (g : Nat → Int) (n : Nat) : (rowI g n).length = n * 1 := by simp [rowI]
theorem rowI_one (g : Nat → Int) (n : Nat) : ∀ u ∈ rowI g n, u.oneCell' = true := by
  intro u hu
  obtain ⟨i, -, rfl⟩ := List.mem_map.1 hu
  rfl
theorem rowI_cells {w W : World} {ao : Option Addr} {n : Nat} {g : Nat → Int} (h : IRow w ao n g) (F : Fr (fun _ => False) w W) : ∀ ad, ao = some ad → ∀ j u, (rowI g n)[j]? = some u → W.cell? (ad.add j) = some u := by
  intro ad e j u hu
  have hj : j < n := by
    have := (List.getElem?_eq_some_iff.1 hu).1
    simpa [rowI] using this
  rcases h with h | ⟨b, off, e2, hc⟩
  · omega
  · rw [e2] at e
    cases e
    have q := hc j hj
    rw [← F.cell (World.block_lt_of_cell? w _ q) (fun e => e)] at q
    rw [Addr.add_lit, q]
    simpa [rowI, hj] using hu
theorem own_irow {w : World} {base n : Nat} {v : Value} {g : Nat → Int} (h : w.ownsRow base 3 1 v n (rowI g n)) : ∃ ao cap, v = .slice ao n cap ∧ IRow w ao n g := by
  have h' := h
  obtain ⟨-, ⟨rfl, rfl⟩ | ⟨gb, cap, cur, rfl, hg, hb, h3, h4, h5, h6⟩⟩ := h
  · exact ⟨none, 0, rfl, .inl rfl⟩
  · refine ⟨_, cap, rfl, .inr ⟨gb, 0, rfl, fun i hi => ?_⟩⟩
    rw [Nat.zero_add, h'.cellAt _ (by omega)]
    simp [rowI, hi]
theorem frow_cells2 {w W : World} {ao : Option Addr} {n : Nat} {g : Nat → Fd} (h : FRow w ao n g) (F : Fr (fun _ => False) w W) : ∀ ad, ao = some ad → ∀ j u, (rowV ((List.range n).map g))[j]? = some u → W.cell? (ad.add j) = some u := by
  intro ad e
  rcases h with h | ⟨b, off, e2, hc⟩
  · subst h
    intro j u hu
    simp [rowV] at hu
  · rw [e2] at e
    cases e
    refine frow_cells (fun k hk => ?_)
    have hb : b < w.heap.size := World.block_lt_of_cell? w _ (hc k hk).1
    rw [F.cell hb (fun e => e), F.cell hb (fun e => e), F.cell hb (fun e => e), F.cell hb (fun e => e)]
    exact hc k hk

theorem irow_fr {w W : World} {ao : Option Addr} {n : Nat} {g : Nat → Int} (h : IRow w ao n g) (F : Fr (fun _ => False) w W) : IRow W ao n g := by
  rcases h with h | ⟨b, off, e, hc⟩
  · exact .inl h
  · exact .inr ⟨b, off, e, fun i hi => by rw [F.cell (World.block_lt_of_cell? w _ (hc i hi)) (fun e => e)]; exact hc i hi⟩
theorem frow_fr {w w' : World} {ao : Option Addr} {n : Nat} {g : Nat → Fd} (h : FRow w ao n g) (F : Fr (fun _ => False) w w') : FRow w' ao n g := by
  rcases h with e | ⟨b, off, e, hc⟩
  · exact .inl e
  · refine .inr ⟨b, off, e, fun i hi => ?_⟩
    have hb : b < w.heap.size := World.block_lt_of_cell? w _ (hc i hi).1
    rw [F.cell hb (fun e => e), F.cell hb (fun e => e), F.cell hb (fun e => e), F.cell hb (fun e => e)]
    exact hc i hi
theorem irow_below {w : World} {ao : Option Addr} {n base : Nat} {g : Nat → Int} (h : IRow w ao n g) (hb : w.heap.size ≤ base) : ∀ b' off, ao = some ⟨b', off, none⟩ → n ≠ 0 → b' < base := by
  intro b' off e hn
  rcases h with h | ⟨b, off2, e2, hc⟩
  · exact absurd h hn
  · rw [e] at e2
    cases e2
    have := World.block_lt_of_cell? w _ (hc 0 (by omega))
    exact Nat.lt_of_lt_of_le this hb
theorem frow_below {w : World} {ao : Option Addr} {n base : Nat} {g : Nat → Fd} (h : FRow w ao n g) (hb : w.heap.size ≤ base) : ∀ b' off, ao = some ⟨b', off, none⟩ → n ≠ 0 → b' < base := by
  intro b' off e hn
  rcases h with h | ⟨b, off2, e2, hc⟩
  · exact absurd h hn
  · rw [e] at e2
    cases e2
    have := World.block_lt_of_cell? w _ (hc 0 (by omega)).1
    exact Nat.lt_of_lt_of_le this hb
/-- The block of a script's step. -/
def XB (W : World) (xb : Nat) (z p c q : Int) (u v : Value) : Prop := W.heap[xb]? = some (.cells #[.int .i64 z, .int .i64 p, .int .i64 c, .int .i64 q, u, v] 31 (0, 0))
theorem XB.k1 {W : World} {xb : Nat} {z p c q : Int} {u v : Value} (h : XB W xb z p c q u v) : W.cell? ⟨xb, 1, none⟩ = some (.int .i64 p) := by rw [cell_of_row W xb 1 _ _ _ h]; rfl
theorem XB.k2 {W : World} {xb : Nat} {z p c q : Int} {u v : Value} (h : XB W xb z p c q u v) : W.cell? ⟨xb, 2, none⟩ = some (.int .i64 c) := by rw [cell_of_row W xb 2 _ _ _ h]; rfl
theorem XB.k3 {W : World} {xb : Nat} {z p c q : Int} {u v : Value} (h : XB W xb z p c q u v) : W.cell? ⟨xb, 3, none⟩ = some (.int .i64 q) := by rw [cell_of_row W xb 3 _ _ _ h]; rfl
theorem XB.k4 {W : World} {xb : Nat} {z p c q : Int} {u v : Value} (h : XB W xb z p c q u v) : W.cell? ⟨xb, 4, none⟩ = some u := by rw [cell_of_row W xb 4 _ _ _ h]; rfl
theorem XB.k5 {W : World} {xb : Nat} {z p c q : Int} {u v : Value} (h : XB W xb z p c q u v) : W.cell? ⟨xb, 5, none⟩ = some v := by rw [cell_of_row W xb 5 _ _ _ h]; rfl
theorem XB.kp {W W' : World} {xb : Nat} {z p c q : Int} {u v : Value} (h : XB W xb z p c q u v) (k : Kp W W') : XB W' xb z p c q u v := k xb _ h
/-- What is done to both. -/
theorem st_both {w W : World} {t r b i L' : Nat} {S' M' : List PM} (h : PS w W t r b b S' M') (hE : EQ S' M') (l1 : S'.length ≤ L') (l2 : M'.length ≤ L') (n1 : NB S' (i + 1)) (n2 : NB M' (i + 1)) : ST w W t r b b (i + 1) L' := ⟨S', M', h, hE, l1, l2, n1, n2⟩

theorem len0 {s l n m l' : Nat} (h2 : s ≤ l) (h3 : l + n + m + 1 ≤ l') : s ≤ l' := by omega
theorem len1 {a s l n m l' : Nat} (h1 : a ≤ s + 1) (h2 : s ≤ l) (h3 : l + n + m + 1 ≤ l') : a ≤ l' := by omega
theorem lenm {a s l n m l' : Nat} (h1 : a ≤ s + m) (h2 : s ≤ l) (h3 : l + n + m + 1 ≤ l') : a ≤ l' := by omega
theorem lenM {s l n m l' : Nat} (h2 : s ≤ l) (h3 : l + n + m + 1 ≤ l') (h4 : l' ≤ 1048576) : s ≤ 2097152 := by omega

end Go.Proofs.Ytcefeclgehijpaa
