/-
  What is proved here: package show's datum.
-/
import Derived.Test.YtbijdflgjelpnaaGreatDoorYB
namespace Go.Proofs.YtbijdflgjelpnaaGreatDoor
open Go Go.RowKit
theorem told_put {w0 : World} {tb : Nat} {out : List UInt8} {σ : List RowP} {sh : Bool} {h : Nat} {d : Tr (h + 1)} {w' : World} {x : List UInt8} (hT : TS w0 tb (out ++ x) σ w') (hx : wr (h + 1) sh d = x) : Told w0 tb out σ sh (h + 1) d w' :=
  ⟨_, _, hT, by rw [hx]; simp, by have := bk_pos d; omega⟩

set_option maxHeartbeats 4000000 in
set_option maxRecDepth 100000 in
theorem datum_int (w0 : World) (tb : Nat) (out : List UInt8) (σ : List RowP) (sh : Bool) (w : World) (h : Nat) (n : Int) (b : Bool) (L : List Nat) (t : ByteArray) (I R : List (Tr h)) (um ui ur : Value) (hS : TS w0 tb out σ w) (htab : Tab w0) (hlen : out.length + 200 * bk (h + 1) (1, n, b, L, t, I, R) + 300 ≤ 140737488355328) (hσ : σ.length ≤ 1000000000)
    (hn : -9223372036854775808 ≤ n ∧ n ≤ 9223372036854775807) (hM : Sl .u32 w0 um L.length (fun i => L.getD i 0)) (hL : ∀ i, i < L.length → L.getD i 0 < 4294967296) (hI : RowD w0 (DatC w0 h) ui I) (hR : RowD w0 (DatC w0 h) ur R) :
    Calls Tryz.prog 23 #[.pointer (some ⟨tb, 0, none⟩), .agg #[.int .i64 1, .int .i64 n, .bool b, um, .string t, ui, ur], .int .i64 (howI sh)] w fun e w' => e = .returned (.tuple #[]) ∧ Told w0 tb out σ sh (h + 1) (1, n, b, L, t, I, R) w' := by
  obtain ⟨aom, capm, rfl, -⟩ := id hM
  obtain ⟨aoi, capi, rfl⟩ := hI.shape
  obtain ⟨aor, capr, rfl⟩ := hR.shape
  have hbk : 2 + L.length + t.size ≤ bk (h + 1) (1, n, b, L, t, I, R) := by simp only [bk]; omega
  have htl := bytes_len t
  generalize hbkg : bk (h + 1) (1, n, b, L, t, I, R) = bkd at *
  obtain ⟨W, hW⟩ : ∃ W, W = w.alloc (.cells #[.int .i64 1, .int .i64 n, .bool b, .slice aom L.length capm, .string t, .slice aoi I.length capi, .slice aor R.length capr] 32) := ⟨_, rfl⟩
  have SW : TS w0 tb out σ W := by rw [hW]; exact hS.more (up_alloc w _)
  have zW : W.heap.size = w.heap.size + 1 := by rw [hW, World.size_alloc]
  have bx := heap_alloc_new w (.cells #[.int .i64 1, .int .i64 n, .bool b, .slice aom L.length capm, .string t, .slice aoi I.length capi, .slice aor R.length capr] 32)
  have HUse := hide (And.intro htab (And.intro hσ (And.intro hn (And.intro hL (And.intro hM (And.intro hlen (And.intro bx (And.intro zW SW))))))))
  clear HUse
  have KN := textz_any (.agg #[.bool b, .slice aom L.length capm]) b L.length (fun i => L.getD i 0) W ⟨_, rfl, hM.up SW.up⟩ hL (by omega) (htab.up SW.up)
  have KP := fun (W2 : World) (hW2 : TS w0 tb out σ W2) (s : ByteArray) (hs : s.size ≤ 18 * L.length + 21) => put_new w0 tb out σ [s] 1 W2 hW2 (by have := bytes_len s; simp [flat]; omega) (by simp)
  simp only [List.map_cons, List.map_nil, List.length_cons, List.length_nil, Nat.zero_add] at KP
  have HE : ∀ (s : ByteArray) (w' : World), SaysZ s (sgn b (num 4294967296 (fun i => L.getD i 0) L.length)) → TS w0 tb (out ++ flat [s]) σ w' → Told w0 tb out σ sh (h + 1) (1, n, b, L, t, I, R) w' := fun s w' hs hT => told_put hT (by have e0 := ztx_eq hs; simp only [wr, if_true]; rw [e0]; simp [flat])
  rw [hW] at KN SW
  have HN := hide KN
  have HP := hide KP
  have HQ := hide HE
  have HS := hide SW
  clear KN KP HE hW
  generalize howI sh = H at *
  clear SW zW hS htab hI hR hM hL bx hbk htl hlen hσ hn hbkg
  go_enter Tryz.func23, Tryz.ntmps23
  go_wp2_with (first
    | (go_at_call 39; refine HN.out.mono ?_; rintro e w2 ⟨s, rfl, u2, l2, s2⟩; have HU2 := hide u2; have HS2 := hide s2; have HL2 := hide l2; clear u2 s2 l2)
    | (go_at_call 38; refine (HP.out _ (HS.out.more HU2.out) s HL2.out).mono ?_; rintro e w3 ⟨rfl, h3, -, -⟩))
  go_end0
  exact ⟨rfl, HQ.out _ _ HS2.out h3⟩

set_option maxHeartbeats 4000000 in
set_option maxRecDepth 100000 in
theorem datum_bool (w0 : World) (tb : Nat) (out : List UInt8) (σ : List RowP) (sh : Bool) (w : World) (h : Nat) (n : Int) (b : Bool) (L : List Nat) (t : ByteArray) (I R : List (Tr h)) (um ui ur : Value) (hS : TS w0 tb out σ w) (htab : Tab w0) (hlen : out.length + 200 * bk (h + 1) (2, n, b, L, t, I, R) + 300 ≤ 140737488355328) (hσ : σ.length ≤ 1000000000)
    (hn : -9223372036854775808 ≤ n ∧ n ≤ 9223372036854775807) (hM : Sl .u32 w0 um L.length (fun i => L.getD i 0)) (hL : ∀ i, i < L.length → L.getD i 0 < 4294967296) (hI : RowD w0 (DatC w0 h) ui I) (hR : RowD w0 (DatC w0 h) ur R) :
    Calls Tryz.prog 23 #[.pointer (some ⟨tb, 0, none⟩), .agg #[.int .i64 2, .int .i64 n, .bool b, um, .string t, ui, ur], .int .i64 (howI sh)] w fun e w' => e = .returned (.tuple #[]) ∧ Told w0 tb out σ sh (h + 1) (2, n, b, L, t, I, R) w' := by
  obtain ⟨aom, capm, rfl, -⟩ := id hM
  obtain ⟨aoi, capi, rfl⟩ := hI.shape
  obtain ⟨aor, capr, rfl⟩ := hR.shape
  have hbk : 2 + L.length + t.size ≤ bk (h + 1) (2, n, b, L, t, I, R) := by simp only [bk]; omega
  have htl := bytes_len t
  generalize hbkg : bk (h + 1) (2, n, b, L, t, I, R) = bkd at *
  obtain ⟨W, hW⟩ : ∃ W, W = w.alloc (.cells #[.int .i64 2, .int .i64 n, .bool b, .slice aom L.length capm, .string t, .slice aoi I.length capi, .slice aor R.length capr] 32) := ⟨_, rfl⟩
  have SW : TS w0 tb out σ W := by rw [hW]; exact hS.more (up_alloc w _)
  have zW : W.heap.size = w.heap.size + 1 := by rw [hW, World.size_alloc]
  have bx := heap_alloc_new w (.cells #[.int .i64 2, .int .i64 n, .bool b, .slice aom L.length capm, .string t, .slice aoi I.length capi, .slice aor R.length capr] 32)
  have HUse := hide (And.intro htab (And.intro hσ (And.intro hn (And.intro hL (And.intro hM (And.intro hlen (And.intro bx (And.intro zW SW))))))))
  clear HUse
  have KN := truth_any n W
  have KP := put_new w0 tb out σ [if n = 1 then ⟨#[35, 116]⟩ else ⟨#[35, 102]⟩] 1 W SW (by split <;> simp [flat] <;> omega) (by simp)
  simp only [List.map_cons, List.map_nil, List.length_cons, List.length_nil, Nat.zero_add] at KP
  have HE : ∀ (w' : World), TS w0 tb (out ++ flat [if n = 1 then ⟨#[35, 116]⟩ else ⟨#[35, 102]⟩]) σ w' → Told w0 tb out σ sh (h + 1) (2, n, b, L, t, I, R) w' := fun w' hT => told_put hT (by by_cases e : n = 1 <;> simp [wr, flat, e])
  rw [zW] at KP
  rw [hW] at KN KP
  generalize (if n = 1 then (⟨#[35, 116]⟩ : ByteArray) else ⟨#[35, 102]⟩) = s at *
  have HN := hide KN
  have HP := hide KP
  have HQ := hide HE
  clear KN KP HE hW
  generalize howI sh = H at *
  clear SW zW hS htab hI hR hM hL bx hbk htl hlen hσ hn hbkg
  go_enter Tryz.func23, Tryz.ntmps23
  go_wp2_with (first
    | (go_at_call 40; refine HN.out.mono ?_; rintro e w2 ⟨rfl, rfl⟩)
    | (go_at_call 38; refine HP.out.mono ?_; rintro e w3 ⟨rfl, h3, -, -⟩))
  go_end0
  exact ⟨rfl, HQ.out _ h3⟩

set_option maxHeartbeats 4000000 in
set_option maxRecDepth 100000 in
theorem datum_char (w0 : World) (tb : Nat) (out : List UInt8) (σ : List RowP) (sh : Bool) (w : World) (h : Nat) (n : Int) (b : Bool) (L : List Nat) (t : ByteArray) (I R : List (Tr h)) (um ui ur : Value) (hS : TS w0 tb out σ w) (htab : Tab w0) (hlen : out.length + 200 * bk (h + 1) (3, n, b, L, t, I, R) + 300 ≤ 140737488355328) (hσ : σ.length ≤ 1000000000)
    (hn : -9223372036854775808 ≤ n ∧ n ≤ 9223372036854775807) (hM : Sl .u32 w0 um L.length (fun i => L.getD i 0)) (hL : ∀ i, i < L.length → L.getD i 0 < 4294967296) (hI : RowD w0 (DatC w0 h) ui I) (hR : RowD w0 (DatC w0 h) ur R) :
    Calls Tryz.prog 23 #[.pointer (some ⟨tb, 0, none⟩), .agg #[.int .i64 3, .int .i64 n, .bool b, um, .string t, ui, ur], .int .i64 (howI sh)] w fun e w' => e = .returned (.tuple #[]) ∧ Told w0 tb out σ sh (h + 1) (3, n, b, L, t, I, R) w' := by
  obtain ⟨aom, capm, rfl, -⟩ := id hM
  obtain ⟨aoi, capi, rfl⟩ := hI.shape
  obtain ⟨aor, capr, rfl⟩ := hR.shape
  have hbk : 2 + L.length + t.size ≤ bk (h + 1) (3, n, b, L, t, I, R) := by simp only [bk]; omega
  have htl := bytes_len t
  generalize hbkg : bk (h + 1) (3, n, b, L, t, I, R) = bkd at *
  obtain ⟨W, hW⟩ : ∃ W, W = w.alloc (.cells #[.int .i64 3, .int .i64 n, .bool b, .slice aom L.length capm, .string t, .slice aoi I.length capi, .slice aor R.length capr] 32) := ⟨_, rfl⟩
  have SW : TS w0 tb out σ W := by rw [hW]; exact hS.more (up_alloc w _)
  have zW : W.heap.size = w.heap.size + 1 := by rw [hW, World.size_alloc]
  have bx := heap_alloc_new w (.cells #[.int .i64 3, .int .i64 n, .bool b, .slice aom L.length capm, .string t, .slice aoi I.length capi, .slice aor R.length capr] 32)
  have HUse := hide (And.intro htab (And.intro hσ (And.intro hn (And.intro hL (And.intro hM (And.intro hlen (And.intro bx (And.intro zW SW))))))))
  clear HUse
  have KN := letter_any w0 tb out σ n hn sh W SW (by omega)
  have HE : ∀ (w' : World), TS w0 tb (out ++ (if sh then [(n % 256).toNat.toUInt8] else [35, 92] ++ chW n)) σ w' → Told w0 tb out σ sh (h + 1) (3, n, b, L, t, I, R) w' := fun w' hT => told_put hT (by simp [wr])
  rw [hW] at KN
  generalize (if sh = true then [(n % 256).toNat.toUInt8] else [35, 92] ++ chW n) = s at *
  have HN := hide KN
  have HQ := hide HE
  clear KN HE hW
  generalize howI sh = H at *
  clear SW zW hS htab hI hR hM hL bx hbk htl hlen hσ hn hbkg
  go_enter Tryz.func23, Tryz.ntmps23
  go_wp2_with (go_at_call 41; refine HN.out.mono ?_; rintro e w3 ⟨rfl, h3⟩)
  go_end0
  exact ⟨rfl, HQ.out _ h3⟩

set_option maxHeartbeats 4000000 in
set_option maxRecDepth 100000 in
theorem datum_text (w0 : World) (tb : Nat) (out : List UInt8) (σ : List RowP) (sh : Bool) (w : World) (h : Nat) (n : Int) (b : Bool) (L : List Nat) (t : ByteArray) (I R : List (Tr h)) (um ui ur : Value) (hS : TS w0 tb out σ w) (htab : Tab w0) (hlen : out.length + 200 * bk (h + 1) (4, n, b, L, t, I, R) + 300 ≤ 140737488355328) (hσ : σ.length ≤ 1000000000)
    (hn : -9223372036854775808 ≤ n ∧ n ≤ 9223372036854775807) (hM : Sl .u32 w0 um L.length (fun i => L.getD i 0)) (hL : ∀ i, i < L.length → L.getD i 0 < 4294967296) (hI : RowD w0 (DatC w0 h) ui I) (hR : RowD w0 (DatC w0 h) ur R) :
    Calls Tryz.prog 23 #[.pointer (some ⟨tb, 0, none⟩), .agg #[.int .i64 4, .int .i64 n, .bool b, um, .string t, ui, ur], .int .i64 (howI sh)] w fun e w' => e = .returned (.tuple #[]) ∧ Told w0 tb out σ sh (h + 1) (4, n, b, L, t, I, R) w' := by
  obtain ⟨aom, capm, rfl, -⟩ := id hM
  obtain ⟨aoi, capi, rfl⟩ := hI.shape
  obtain ⟨aor, capr, rfl⟩ := hR.shape
  have hbk : 2 + L.length + t.size ≤ bk (h + 1) (4, n, b, L, t, I, R) := by simp only [bk]; omega
  have htl := bytes_len t
  generalize hbkg : bk (h + 1) (4, n, b, L, t, I, R) = bkd at *
  obtain ⟨W, hW⟩ : ∃ W, W = w.alloc (.cells #[.int .i64 4, .int .i64 n, .bool b, .slice aom L.length capm, .string t, .slice aoi I.length capi, .slice aor R.length capr] 32) := ⟨_, rfl⟩
  have SW : TS w0 tb out σ W := by rw [hW]; exact hS.more (up_alloc w _)
  have zW : W.heap.size = w.heap.size + 1 := by rw [hW, World.size_alloc]
  have bx := heap_alloc_new w (.cells #[.int .i64 4, .int .i64 n, .bool b, .slice aom L.length capm, .string t, .slice aoi I.length capi, .slice aor R.length capr] 32)
  have HUse := hide (And.intro htab (And.intro hσ (And.intro hn (And.intro hL (And.intro hM (And.intro hlen (And.intro bx (And.intro zW SW))))))))
  clear HUse
  have KN := text_any w0 tb out σ t sh W SW (by omega)
  have HE : ∀ (w' : World), TS w0 tb (out ++ (if sh then t.data.toList else [34] ++ tsW t.data.toList ++ [34])) σ w' → Told w0 tb out σ sh (h + 1) (4, n, b, L, t, I, R) w' := fun w' hT => told_put hT (by simp [wr])
  rw [hW] at KN
  generalize (if sh = true then t.data.toList else [34] ++ tsW t.data.toList ++ [34]) = s at *
  have HN := hide KN
  have HQ := hide HE
  clear KN HE hW
  generalize howI sh = H at *
  clear SW zW hS htab hI hR hM hL bx hbk htl hlen hσ hn hbkg
  go_enter Tryz.func23, Tryz.ntmps23
  go_wp2_with (go_at_call 42; refine HN.out.mono ?_; rintro e w3 ⟨rfl, h3⟩)
  go_end0
  exact ⟨rfl, HQ.out _ h3⟩

set_option maxHeartbeats 4000000 in
set_option maxRecDepth 100000 in
theorem datum_sym (w0 : World) (tb : Nat) (out : List UInt8) (σ : List RowP) (sh : Bool) (w : World) (h : Nat) (n : Int) (b : Bool) (L : List Nat) (t : ByteArray) (I R : List (Tr h)) (um ui ur : Value) (hS : TS w0 tb out σ w) (htab : Tab w0) (hlen : out.length + 200 * bk (h + 1) (5, n, b, L, t, I, R) + 300 ≤ 140737488355328) (hσ : σ.length ≤ 1000000000)
    (hn : -9223372036854775808 ≤ n ∧ n ≤ 9223372036854775807) (hM : Sl .u32 w0 um L.length (fun i => L.getD i 0)) (hL : ∀ i, i < L.length → L.getD i 0 < 4294967296) (hI : RowD w0 (DatC w0 h) ui I) (hR : RowD w0 (DatC w0 h) ur R) :
    Calls Tryz.prog 23 #[.pointer (some ⟨tb, 0, none⟩), .agg #[.int .i64 5, .int .i64 n, .bool b, um, .string t, ui, ur], .int .i64 (howI sh)] w fun e w' => e = .returned (.tuple #[]) ∧ Told w0 tb out σ sh (h + 1) (5, n, b, L, t, I, R) w' := by
  obtain ⟨aom, capm, rfl, -⟩ := id hM
  obtain ⟨aoi, capi, rfl⟩ := hI.shape
  obtain ⟨aor, capr, rfl⟩ := hR.shape
  have hbk : 2 + L.length + t.size ≤ bk (h + 1) (5, n, b, L, t, I, R) := by simp only [bk]; omega
  have htl := bytes_len t
  generalize hbkg : bk (h + 1) (5, n, b, L, t, I, R) = bkd at *
  obtain ⟨W, hW⟩ : ∃ W, W = w.alloc (.cells #[.int .i64 5, .int .i64 n, .bool b, .slice aom L.length capm, .string t, .slice aoi I.length capi, .slice aor R.length capr] 32) := ⟨_, rfl⟩
  have SW : TS w0 tb out σ W := by rw [hW]; exact hS.more (up_alloc w _)
  have zW : W.heap.size = w.heap.size + 1 := by rw [hW, World.size_alloc]
  have bx := heap_alloc_new w (.cells #[.int .i64 5, .int .i64 n, .bool b, .slice aom L.length capm, .string t, .slice aoi I.length capi, .slice aor R.length capr] 32)
  have HUse := hide (And.intro htab (And.intro hσ (And.intro hn (And.intro hL (And.intro hM (And.intro hlen (And.intro bx (And.intro zW SW))))))))
  clear HUse
  have KP := put_new w0 tb out σ [t] 1 W SW (by simp [flat] <;> omega) (by simp)
  simp only [List.map_cons, List.map_nil, List.length_cons, List.length_nil, Nat.zero_add] at KP
  have HE : ∀ (w' : World), TS w0 tb (out ++ flat [t]) σ w' → Told w0 tb out σ sh (h + 1) (5, n, b, L, t, I, R) w' := fun w' hT => told_put hT (by simp [wr, flat])
  rw [zW] at KP
  rw [hW] at KP
  have HP := hide KP
  have HQ := hide HE
  clear KP HE hW
  generalize howI sh = H at *
  clear SW zW hS htab hI hR hM hL bx hbk htl hlen hσ hn hbkg
  go_enter Tryz.func23, Tryz.ntmps23
  go_wp2_with (go_at_call 38; refine HP.out.mono ?_; rintro e w3 ⟨rfl, h3, -, -⟩)
  go_end0
  exact ⟨rfl, HQ.out _ h3⟩

set_option maxHeartbeats 4000000 in
set_option maxRecDepth 100000 in
theorem datum_list (w0 : World) (tb : Nat) (out : List UInt8) (σ : List RowP) (sh : Bool) (w : World) (h : Nat) (n : Int) (b : Bool) (L : List Nat) (t : ByteArray) (I R : List (Tr h)) (um ui ur : Value) (hS : TS w0 tb out σ w) (htab : Tab w0) (hlen : out.length + 200 * bk (h + 1) (6, n, b, L, t, I, R) + 300 ≤ 140737488355328) (hσ : σ.length ≤ 1000000000)
    (hn : -9223372036854775808 ≤ n ∧ n ≤ 9223372036854775807) (hM : Sl .u32 w0 um L.length (fun i => L.getD i 0)) (hL : ∀ i, i < L.length → L.getD i 0 < 4294967296) (hI : RowD w0 (DatC w0 h) ui I) (hR : RowD w0 (DatC w0 h) ur R) :
    Calls Tryz.prog 23 #[.pointer (some ⟨tb, 0, none⟩), .agg #[.int .i64 6, .int .i64 n, .bool b, um, .string t, ui, ur], .int .i64 (howI sh)] w fun e w' => e = .returned (.tuple #[]) ∧ Told w0 tb out σ sh (h + 1) (6, n, b, L, t, I, R) w' := by
  obtain ⟨aom, capm, rfl, -⟩ := id hM
  obtain ⟨aoi, capi, rfl⟩ := hI.shape
  obtain ⟨aor, capr, rfl⟩ := hR.shape
  have hbk : 2 + L.length + t.size ≤ bk (h + 1) (6, n, b, L, t, I, R) := by simp only [bk]; omega
  have htl := bytes_len t
  generalize hbkg : bk (h + 1) (6, n, b, L, t, I, R) = bkd at *
  obtain ⟨W, hW⟩ : ∃ W, W = w.alloc (.cells #[.int .i64 6, .int .i64 n, .bool b, .slice aom L.length capm, .string t, .slice aoi I.length capi, .slice aor R.length capr] 32) := ⟨_, rfl⟩
  have SW : TS w0 tb out σ W := by rw [hW]; exact hS.more (up_alloc w _)
  have zW : W.heap.size = w.heap.size + 1 := by rw [hW, World.size_alloc]
  have bx := heap_alloc_new w (.cells #[.int .i64 6, .int .i64 n, .bool b, .slice aom L.length capm, .string t, .slice aoi I.length capi, .slice aor R.length capr] 32)
  have HUse := hide (And.intro htab (And.intro hσ (And.intro hn (And.intro hL (And.intro hM (And.intro hlen (And.intro bx (And.intro zW SW))))))))
  clear HUse
  have KN := list_any w0 tb out σ sh W h n b L t I R (.slice aom L.length capm) (.slice aoi I.length capi) (.slice aor R.length capr) SW (by omega) hσ hM hI hR
  rw [hW] at KN
  have HN := hide KN
  clear KN hW
  generalize howI sh = H at *
  clear SW zW hS htab hI hR hM hL bx hbk htl hlen hσ hn hbkg
  go_enter Tryz.func23, Tryz.ntmps23
  go_wp2_with (go_at_call 43; refine HN.out.mono ?_; rintro e w3 ⟨rfl, h3⟩)
  go_end0
  exact ⟨rfl, h3⟩

set_option maxHeartbeats 4000000 in
set_option maxRecDepth 100000 in
theorem datum_vec (w0 : World) (tb : Nat) (out : List UInt8) (σ : List RowP) (sh : Bool) (w : World) (h : Nat) (n : Int) (b : Bool) (L : List Nat) (t : ByteArray) (I R : List (Tr h)) (um ui ur : Value) (hS : TS w0 tb out σ w) (htab : Tab w0) (hlen : out.length + 200 * bk (h + 1) (7, n, b, L, t, I, R) + 300 ≤ 140737488355328) (hσ : σ.length ≤ 1000000000)
    (hn : -9223372036854775808 ≤ n ∧ n ≤ 9223372036854775807) (hM : Sl .u32 w0 um L.length (fun i => L.getD i 0)) (hL : ∀ i, i < L.length → L.getD i 0 < 4294967296) (hI : RowD w0 (DatC w0 h) ui I) (hR : RowD w0 (DatC w0 h) ur R) :
    Calls Tryz.prog 23 #[.pointer (some ⟨tb, 0, none⟩), .agg #[.int .i64 7, .int .i64 n, .bool b, um, .string t, ui, ur], .int .i64 (howI sh)] w fun e w' => e = .returned (.tuple #[]) ∧ Told w0 tb out σ sh (h + 1) (7, n, b, L, t, I, R) w' := by
  obtain ⟨aom, capm, rfl, -⟩ := id hM
  obtain ⟨aoi, capi, rfl⟩ := hI.shape
  obtain ⟨aor, capr, rfl⟩ := hR.shape
  have hbk : 2 + L.length + t.size ≤ bk (h + 1) (7, n, b, L, t, I, R) := by simp only [bk]; omega
  have htl := bytes_len t
  generalize hbkg : bk (h + 1) (7, n, b, L, t, I, R) = bkd at *
  obtain ⟨W, hW⟩ : ∃ W, W = w.alloc (.cells #[.int .i64 7, .int .i64 n, .bool b, .slice aom L.length capm, .string t, .slice aoi I.length capi, .slice aor R.length capr] 32) := ⟨_, rfl⟩
  have SW : TS w0 tb out σ W := by rw [hW]; exact hS.more (up_alloc w _)
  have zW : W.heap.size = w.heap.size + 1 := by rw [hW, World.size_alloc]
  have bx := heap_alloc_new w (.cells #[.int .i64 7, .int .i64 n, .bool b, .slice aom L.length capm, .string t, .slice aoi I.length capi, .slice aor R.length capr] 32)
  have HUse := hide (And.intro htab (And.intro hσ (And.intro hn (And.intro hL (And.intro hM (And.intro hlen (And.intro bx (And.intro zW SW))))))))
  clear HUse
  have KB := begin_any w0 tb out σ ⟨h, sh, ⟨#[]⟩, I, [], ⟨#[41]⟩⟩ [⟨#[35, 40]⟩] (.slice (some ⟨W.heap.size, 0, none⟩) 1 1) (.int .i64 (howI sh)) (.string ⟨#[]⟩) (.slice aoi I.length capi) (.slice none 0 0) (.string ⟨#[41]⟩) (W.alloc (.cells ([⟨#[35, 40]⟩].map Value.string).toArray 9)) (SW.more (up_alloc W _)) (pcs_new W [⟨#[35, 40]⟩] 1) (by simp [flat] <;> omega) (by simp) ⟨_, _, rfl, hI, RowD.nil' _ _⟩ hσ
  simp only [List.map_cons, List.map_nil] at KB
  have HE : ∀ (w' : World), TS w0 tb (out ++ flat [⟨#[35, 40]⟩]) (σ ++ [⟨h, sh, ⟨#[]⟩, I, [], ⟨#[41]⟩⟩]) w' → Told w0 tb out σ sh (h + 1) (7, n, b, L, t, I, R) w' := fun w' hT => ⟨_, _, hT, by rw [pendA_snoc]; simp [flat, pendR, wr, dotW], by rw [wtA_snoc]; simp [wtR, bk]; omega⟩
  rw [zW] at KB
  rw [hW] at KB
  have HB := hide KB
  have HQ := hide HE
  clear KB HE hW
  generalize howI sh = H at *
  clear SW zW hS htab hI hR hM hL bx hbk htl hlen hσ hn hbkg
  go_enter Tryz.func23, Tryz.ntmps23
  go_wp2_with (go_at_call 44; refine HB.out.mono ?_; rintro e w3 ⟨rfl, h3⟩)
  go_end0
  exact ⟨rfl, HQ.out _ h3⟩

set_option maxHeartbeats 4000000 in
set_option maxRecDepth 100000 in
theorem datum_proc (w0 : World) (tb : Nat) (out : List UInt8) (σ : List RowP) (sh : Bool) (w : World) (h : Nat) (n : Int) (b : Bool) (L : List Nat) (t : ByteArray) (I R : List (Tr h)) (um ui ur : Value) (hS : TS w0 tb out σ w) (htab : Tab w0) (hlen : out.length + 200 * bk (h + 1) (9, n, b, L, t, I, R) + 300 ≤ 140737488355328) (hσ : σ.length ≤ 1000000000)
    (hn : -9223372036854775808 ≤ n ∧ n ≤ 9223372036854775807) (hM : Sl .u32 w0 um L.length (fun i => L.getD i 0)) (hL : ∀ i, i < L.length → L.getD i 0 < 4294967296) (hI : RowD w0 (DatC w0 h) ui I) (hR : RowD w0 (DatC w0 h) ur R) :
    Calls Tryz.prog 23 #[.pointer (some ⟨tb, 0, none⟩), .agg #[.int .i64 9, .int .i64 n, .bool b, um, .string t, ui, ur], .int .i64 (howI sh)] w fun e w' => e = .returned (.tuple #[]) ∧ Told w0 tb out σ sh (h + 1) (9, n, b, L, t, I, R) w' := by
  obtain ⟨aom, capm, rfl, -⟩ := id hM
  obtain ⟨aoi, capi, rfl⟩ := hI.shape
  obtain ⟨aor, capr, rfl⟩ := hR.shape
  have hbk : 2 + L.length + t.size ≤ bk (h + 1) (9, n, b, L, t, I, R) := by simp only [bk]; omega
  have htl := bytes_len t
  generalize hbkg : bk (h + 1) (9, n, b, L, t, I, R) = bkd at *
  obtain ⟨W, hW⟩ : ∃ W, W = w.alloc (.cells #[.int .i64 9, .int .i64 n, .bool b, .slice aom L.length capm, .string t, .slice aoi I.length capi, .slice aor R.length capr] 32) := ⟨_, rfl⟩
  have SW : TS w0 tb out σ W := by rw [hW]; exact hS.more (up_alloc w _)
  have zW : W.heap.size = w.heap.size + 1 := by rw [hW, World.size_alloc]
  have bx := heap_alloc_new w (.cells #[.int .i64 9, .int .i64 n, .bool b, .slice aom L.length capm, .string t, .slice aoi I.length capi, .slice aor R.length capr] 32)
  have HUse := hide (And.intro htab (And.intro hσ (And.intro hn (And.intro hL (And.intro hM (And.intro hlen (And.intro bx (And.intro zW SW))))))))
  clear HUse
  have KP := put_new w0 tb out σ [⟨#[35, 60, 112, 114, 111, 99, 101, 100, 117, 114, 101, 62]⟩] 1 W SW (by simp [flat] <;> omega) (by simp)
  simp only [List.map_cons, List.map_nil, List.length_cons, List.length_nil, Nat.zero_add] at KP
  have HE : ∀ (w' : World), TS w0 tb (out ++ flat [⟨#[35, 60, 112, 114, 111, 99, 101, 100, 117, 114, 101, 62]⟩]) σ w' → Told w0 tb out σ sh (h + 1) (9, n, b, L, t, I, R) w' := fun w' hT => told_put hT (by simp [wr, flat])
  rw [zW] at KP
  rw [hW] at KP
  have HP := hide KP
  have HQ := hide HE
  clear KP HE hW
  generalize howI sh = H at *
  clear SW zW hS htab hI hR hM hL bx hbk htl hlen hσ hn hbkg
  go_enter Tryz.func23, Tryz.ntmps23
  go_wp2_with (go_at_call 38; refine HP.out.mono ?_; rintro e w3 ⟨rfl, h3, -, -⟩)
  go_end0
  exact ⟨rfl, HQ.out _ h3⟩

set_option maxHeartbeats 4000000 in
set_option maxRecDepth 100000 in
theorem datum_cond (w0 : World) (tb : Nat) (out : List UInt8) (σ : List RowP) (sh : Bool) (w : World) (h : Nat) (n : Int) (b : Bool) (L : List Nat) (t : ByteArray) (I R : List (Tr h)) (um ui ur : Value) (hS : TS w0 tb out σ w) (htab : Tab w0) (hlen : out.length + 200 * bk (h + 1) (10, n, b, L, t, I, R) + 300 ≤ 140737488355328) (hσ : σ.length ≤ 1000000000)
    (hn : -9223372036854775808 ≤ n ∧ n ≤ 9223372036854775807) (hM : Sl .u32 w0 um L.length (fun i => L.getD i 0)) (hL : ∀ i, i < L.length → L.getD i 0 < 4294967296) (hI : RowD w0 (DatC w0 h) ui I) (hR : RowD w0 (DatC w0 h) ur R) :
    Calls Tryz.prog 23 #[.pointer (some ⟨tb, 0, none⟩), .agg #[.int .i64 10, .int .i64 n, .bool b, um, .string t, ui, ur], .int .i64 (howI sh)] w fun e w' => e = .returned (.tuple #[]) ∧ Told w0 tb out σ sh (h + 1) (10, n, b, L, t, I, R) w' := by
  obtain ⟨aom, capm, rfl, -⟩ := id hM
  obtain ⟨aoi, capi, rfl⟩ := hI.shape
  obtain ⟨aor, capr, rfl⟩ := hR.shape
  have hbk : 2 + L.length + t.size ≤ bk (h + 1) (10, n, b, L, t, I, R) := by simp only [bk]; omega
  have htl := bytes_len t
  generalize hbkg : bk (h + 1) (10, n, b, L, t, I, R) = bkd at *
  obtain ⟨W, hW⟩ : ∃ W, W = w.alloc (.cells #[.int .i64 10, .int .i64 n, .bool b, .slice aom L.length capm, .string t, .slice aoi I.length capi, .slice aor R.length capr] 32) := ⟨_, rfl⟩
  have SW : TS w0 tb out σ W := by rw [hW]; exact hS.more (up_alloc w _)
  have zW : W.heap.size = w.heap.size + 1 := by rw [hW, World.size_alloc]
  have bx := heap_alloc_new w (.cells #[.int .i64 10, .int .i64 n, .bool b, .slice aom L.length capm, .string t, .slice aoi I.length capi, .slice aor R.length capr] 32)
  have HUse := hide (And.intro htab (And.intro hσ (And.intro hn (And.intro hL (And.intro hM (And.intro hlen (And.intro bx (And.intro zW SW))))))))
  clear HUse
  have KB := begin_any w0 tb out σ ⟨h, false, ⟨#[32]⟩, I, [], ⟨#[62]⟩⟩ [⟨#[35, 60, 99, 111, 110, 100, 105, 116, 105, 111, 110, 32]⟩, t] (.slice (some ⟨W.heap.size, 0, none⟩) 2 2) (.int .i64 0) (.string ⟨#[32]⟩) (.slice aoi I.length capi) (.slice none 0 0) (.string ⟨#[62]⟩) (W.alloc (.cells ([⟨#[35, 60, 99, 111, 110, 100, 105, 116, 105, 111, 110, 32]⟩, t].map Value.string).toArray 9)) (SW.more (up_alloc W _)) (pcs_new W [⟨#[35, 60, 99, 111, 110, 100, 105, 116, 105, 111, 110, 32]⟩, t] 2) (by simp [flat] <;> omega) (by simp) ⟨_, _, rfl, hI, RowD.nil' _ _⟩ hσ
  simp only [List.map_cons, List.map_nil] at KB
  have HE : ∀ (w' : World), TS w0 tb (out ++ flat [⟨#[35, 60, 99, 111, 110, 100, 105, 116, 105, 111, 110, 32]⟩, t]) (σ ++ [⟨h, false, ⟨#[32]⟩, I, [], ⟨#[62]⟩⟩]) w' → Told w0 tb out σ sh (h + 1) (10, n, b, L, t, I, R) w' := fun w' hT => ⟨_, _, hT, by rw [pendA_snoc]; simp [flat, pendR, wr, dotW], by rw [wtA_snoc]; simp [wtR, bk]; omega⟩
  rw [zW] at KB
  rw [hW] at KB
  have HB := hide KB
  have HQ := hide HE
  clear KB HE hW
  generalize howI sh = H at *
  clear SW zW hS htab hI hR hM hL bx hbk htl hlen hσ hn hbkg
  go_enter Tryz.func23, Tryz.ntmps23
  go_wp2_with (go_at_call 44; refine HB.out.mono ?_; rintro e w3 ⟨rfl, h3⟩)
  go_end0
  exact ⟨rfl, HQ.out _ h3⟩

set_option maxHeartbeats 4000000 in
set_option maxRecDepth 100000 in
theorem datum_void (w0 : World) (tb : Nat) (out : List UInt8) (σ : List RowP) (sh : Bool) (w : World) (h : Nat) (k : Int) (k1 : ¬ k = 1) (k2 : ¬ k = 2) (k3 : ¬ k = 3) (k4 : ¬ k = 4) (k5 : ¬ k = 5) (k6 : ¬ k = 6) (k7 : ¬ k = 7) (k9 : ¬ k = 9) (k10 : ¬ k = 10) (n : Int) (b : Bool) (L : List Nat) (t : ByteArray) (I R : List (Tr h)) (um ui ur : Value) (hS : TS w0 tb out σ w) (htab : Tab w0) (hlen : out.length + 200 * bk (h + 1) (k, n, b, L, t, I, R) + 300 ≤ 140737488355328) (hσ : σ.length ≤ 1000000000)
    (hn : -9223372036854775808 ≤ n ∧ n ≤ 9223372036854775807) (hM : Sl .u32 w0 um L.length (fun i => L.getD i 0)) (hL : ∀ i, i < L.length → L.getD i 0 < 4294967296) (hI : RowD w0 (DatC w0 h) ui I) (hR : RowD w0 (DatC w0 h) ur R) :
    Calls Tryz.prog 23 #[.pointer (some ⟨tb, 0, none⟩), .agg #[.int .i64 k, .int .i64 n, .bool b, um, .string t, ui, ur], .int .i64 (howI sh)] w fun e w' => e = .returned (.tuple #[]) ∧ Told w0 tb out σ sh (h + 1) (k, n, b, L, t, I, R) w' := by
  obtain ⟨aom, capm, rfl, -⟩ := id hM
  obtain ⟨aoi, capi, rfl⟩ := hI.shape
  obtain ⟨aor, capr, rfl⟩ := hR.shape
  have hbk : 2 + L.length + t.size ≤ bk (h + 1) (k, n, b, L, t, I, R) := by simp only [bk]; omega
  have htl := bytes_len t
  generalize hbkg : bk (h + 1) (k, n, b, L, t, I, R) = bkd at *
  obtain ⟨W, hW⟩ : ∃ W, W = w.alloc (.cells #[.int .i64 k, .int .i64 n, .bool b, .slice aom L.length capm, .string t, .slice aoi I.length capi, .slice aor R.length capr] 32) := ⟨_, rfl⟩
  have SW : TS w0 tb out σ W := by rw [hW]; exact hS.more (up_alloc w _)
  have zW : W.heap.size = w.heap.size + 1 := by rw [hW, World.size_alloc]
  have bx := heap_alloc_new w (.cells #[.int .i64 k, .int .i64 n, .bool b, .slice aom L.length capm, .string t, .slice aoi I.length capi, .slice aor R.length capr] 32)
  have HUse := hide (And.intro htab (And.intro hσ (And.intro hn (And.intro hL (And.intro hM (And.intro hlen (And.intro bx (And.intro zW SW))))))))
  clear HUse
  have KP := put_new w0 tb out σ [⟨#[35, 60, 118, 111, 105, 100, 62]⟩] 1 W SW (by simp [flat] <;> omega) (by simp)
  simp only [List.map_cons, List.map_nil, List.length_cons, List.length_nil, Nat.zero_add] at KP
  have HE : ∀ (w' : World), TS w0 tb (out ++ flat [⟨#[35, 60, 118, 111, 105, 100, 62]⟩]) σ w' → Told w0 tb out σ sh (h + 1) (k, n, b, L, t, I, R) w' := fun w' hT => told_put hT (by simp [wr, flat, k1, k2, k3, k4, k5, k6, k7, k9, k10])
  rw [zW] at KP
  rw [hW] at KP
  have HP := hide KP
  have HQ := hide HE
  clear KP HE hW
  generalize howI sh = H at *
  clear SW zW hS htab hI hR hM hL bx hbk htl hlen hσ hn hbkg
  go_enter Tryz.func23, Tryz.ntmps23
  go_wp2_with (go_at_call 38; refine HP.out.mono ?_; rintro e w3 ⟨rfl, h3, -, -⟩)
  go_end0
  exact ⟨rfl, HQ.out _ h3⟩

theorem datum_any (w0 : World) (tb : Nat) (out : List UInt8) (σ : List RowP) (sh : Bool) (w : World) (h : Nat) (d : Tr h) (c0 c1 c2 c3 c4 c5 c6 : Value) (hS : TS w0 tb out σ w) (htab : Tab w0) (hlen : out.length + 200 * bk h d + 300 ≤ 140737488355328) (hσ : σ.length ≤ 1000000000) (hd : DatC w0 h d [c0, c1, c2, c3, c4, c5, c6]) :
    Calls Tryz.prog 23 #[.pointer (some ⟨tb, 0, none⟩), .agg #[c0, c1, c2, c3, c4, c5, c6], .int .i64 (howI sh)] w fun e w' => e = .returned (.tuple #[]) ∧ Told w0 tb out σ sh h d w' := by
  match h, d, hd with
  | 0, _, hd => exact hd.elim
  | h + 1, (k, n, b, L, t, I, R), hd =>
    obtain ⟨um, ui, ur, e, hn, hM, hL, hI, hR⟩ := hd
    simp at e
    obtain ⟨rfl, rfl, rfl, rfl, rfl, rfl, rfl⟩ := e
    by_cases k1 : k = 1
    · subst k1; exact datum_int w0 tb out σ sh w h n b L t I R _ _ _ hS htab hlen hσ hn hM hL hI hR
    by_cases k2 : k = 2
    · subst k2; exact datum_bool w0 tb out σ sh w h n b L t I R _ _ _ hS htab hlen hσ hn hM hL hI hR
    by_cases k3 : k = 3
    · subst k3; exact datum_char w0 tb out σ sh w h n b L t I R _ _ _ hS htab hlen hσ hn hM hL hI hR
    by_cases k4 : k = 4
    · subst k4; exact datum_text w0 tb out σ sh w h n b L t I R _ _ _ hS htab hlen hσ hn hM hL hI hR
    by_cases k5 : k = 5
    · subst k5; exact datum_sym w0 tb out σ sh w h n b L t I R _ _ _ hS htab hlen hσ hn hM hL hI hR
    by_cases k6 : k = 6
    · subst k6; exact datum_list w0 tb out σ sh w h n b L t I R _ _ _ hS htab hlen hσ hn hM hL hI hR
    by_cases k7 : k = 7
    · subst k7; exact datum_vec w0 tb out σ sh w h n b L t I R _ _ _ hS htab hlen hσ hn hM hL hI hR
    by_cases k9 : k = 9
    · subst k9; exact datum_proc w0 tb out σ sh w h n b L t I R _ _ _ hS htab hlen hσ hn hM hL hI hR
    by_cases k10 : k = 10
    · subst k10; exact datum_cond w0 tb out σ sh w h n b L t I R _ _ _ hS htab hlen hσ hn hM hL hI hR
    · exact datum_void w0 tb out σ sh w h k k1 k2 k3 k4 k5 k6 k7 k9 k10 n b L t I R _ _ _ hS htab hlen hσ hn hM hL hI hR

end Go.Proofs.YtbijdflgjelpnaaGreatDoor
