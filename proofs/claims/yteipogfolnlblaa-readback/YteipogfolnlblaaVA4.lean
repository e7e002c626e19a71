/-
  What is proved here: tandemref06's text: a datum as the document writes it, or shows it. tandemref06's text of lists with a Rest, and of conditions; of any datum. tandemref06's text of conditions; of any datum.
-/
import Derived.Test.YteipogfolnlblaaVA3
namespace Go.Proofs.Yteipogfolnlblaa
open Go Go.RowKit

theorem round_bytes (M : List UInt8) : ((⟨#[40]⟩ : ByteArray) ++ ⟨M.toArray⟩) ++ ⟨#[41]⟩ = ⟨([40] ++ M ++ [41]).toArray⟩ := by
  have a1 := cat_bytes [40] M
  have a2 := cat_bytes ([40] ++ M) [41]
  rw [show (⟨#[40]⟩ : ByteArray) = ⟨([40] : List UInt8).toArray⟩ from rfl, a1, show (⟨#[41]⟩ : ByteArray) = ⟨([41] : List UInt8).toArray⟩ from rfl, a2]

theorem vec_bytes (M : List UInt8) : ((⟨#[35, 40]⟩ : ByteArray) ++ ⟨M.toArray⟩) ++ ⟨#[41]⟩ = ⟨([35, 40] ++ M ++ [41]).toArray⟩ := by
  have a1 := cat_bytes [35, 40] M
  have a2 := cat_bytes ([35, 40] ++ M) [41]
  rw [show (⟨#[35, 40]⟩ : ByteArray) = ⟨([35, 40] : List UInt8).toArray⟩ from rfl, a1, show (⟨#[41]⟩ : ByteArray) = ⟨([41] : List UInt8).toArray⟩ from rfl, a2]

theorem dot_bytes (M T : List UInt8) : ((((⟨#[40]⟩ : ByteArray) ++ ⟨M.toArray⟩) ++ ⟨#[32, 46, 32]⟩) ++ ⟨T.toArray⟩) ++ ⟨#[41]⟩ = ⟨([40] ++ M ++ ([32, 46, 32] ++ T) ++ [41]).toArray⟩ := by
  have a1 := cat_bytes [40] M
  have a2 := cat_bytes ([40] ++ M) [32, 46, 32]
  have a3 := cat_bytes ([40] ++ M ++ [32, 46, 32]) T
  have a4 := cat_bytes ([40] ++ M ++ [32, 46, 32] ++ T) [41]
  rw [show (⟨#[40]⟩ : ByteArray) = ⟨([40] : List UInt8).toArray⟩ from rfl, a1, show (⟨#[32, 46, 32]⟩ : ByteArray) = ⟨([32, 46, 32] : List UInt8).toArray⟩ from rfl, a2, a3, show (⟨#[41]⟩ : ByteArray) = ⟨([41] : List UInt8).toArray⟩ from rfl, a4]
  simp

theorem arr_eq (t : ByteArray) : (⟨t.data.toList.toArray⟩ : ByteArray) = t := by
  apply ByteArray.ext
  simp

set_option maxHeartbeats 4000000 in
set_option maxRecDepth 100000 in
theorem rt_int {h : Nat} (hT : RTextOK h) (hMany : RManyOK h) (sh : Bool) (n : Int) (b : Bool) (L : List Nat) (t : ByteArray) (I R : List (Tr h)) (um ui ur : Value) (w : World) (hb : bk (h + 1) (1, n, b, L, t, I, R) ≤ 10000000)
    (hn : -9223372036854775808 ≤ n ∧ n ≤ 9223372036854775807) (hM : Sl .u32 w um L.length (fun i => L.getD i 0)) (hL : ∀ i, i < L.length → L.getD i 0 < 4294967296) (hI : RowD w (DatC w h) ui I) (hR : RowD w (DatC w h) ur R) :
    Calls Try.prog 25 #[.agg #[.int .i64 1, .int .i64 n, .bool b, um, .string t, ui, ur], .bool sh] w fun e w' => e = .returned (.string ⟨(wr (h + 1) sh (1, n, b, L, t, I, R)).toArray⟩) ∧ Up w w' := by
  obtain ⟨aom, capm, rfl, -⟩ := id hM
  obtain ⟨aoi, capi, rfl⟩ := hI.shape
  obtain ⟨aor, capr, rfl⟩ := hR.shape
  have hbk : L.length ≤ 10000000 ∧ t.size ≤ 10000000 ∧ (I.map (bk h)).sum ≤ 10000000 ∧ (R.map (bk h)).sum ≤ 10000000 := by simp only [bk] at hb; omega
  have htl := bytes_len t
  obtain ⟨W, hW⟩ : ∃ W, W = w.alloc (.cells #[.int .i64 1, .int .i64 n, .bool b, .slice aom L.length capm, .string t, .slice aoi I.length capi, .slice aor R.length capr] 35) := ⟨_, rfl⟩
  have uW : Up w W := by rw [hW]; exact up_alloc w _
  have bW : W.heap[w.heap.size]? = some (.cells #[.int .i64 1, .int .i64 n, .bool b, .slice aom L.length capm, .string t, .slice aoi I.length capi, .slice aor R.length capr] 35 (0, 0)) := by rw [hW]; exact heap_alloc_new w _
  have HUse := hide (And.intro hT (And.intro hMany (And.intro hn (And.intro hL (And.intro hM (And.intro hbk (And.intro htl (And.intro bW uW))))))))
  clear HUse
  have KN := r2text_rd (X := sgn b (num 4294967296 (fun i => L.getD i 0) L.length)) (M := 10000000) (w := W) (a := .agg #[.bool b, .slice aom L.length capm]) ⟨b, L.length, _, ⟨_, rfl, hM.up uW⟩, hL, hbk.1, rfl⟩ (by decide)
  have HE : ∀ s, SaysZ s (sgn b (num 4294967296 (fun i => L.getD i 0) L.length)) → (⟨(wr (h + 1) sh (1, n, b, L, t, I, R)).toArray⟩ : ByteArray) = s := fun s hs => by
    have e0 := ztx_eq hs
    simp only [wr, if_true]
    rw [e0, arr_eq]
  rw [hW] at KN
  have HN := hide KN
  have HQ := hide HE
  clear KN HE
  have HUW := hide uW
  have HBW := hide bW
  have HW := hide hW
  clear hT hMany uW bW hW hI hR hM hL hbk htl hb hn
  go_enter Try.func25, Try.ntmps25
  go_wp2_with (go_at_call 42; refine HN.out.mono ?_; rintro e w2 ⟨s, rfl, s2, u2⟩; have HS2 := hide s2; clear s2)
  go_ret
  exact ⟨by rw [HQ.out s HS2.out]; rfl, (up_alloc w _).tr u2⟩

set_option maxHeartbeats 4000000 in
set_option maxRecDepth 100000 in
theorem rt_bool1 {h : Nat} (hT : RTextOK h) (hMany : RManyOK h) (sh : Bool) (n : Int) (b : Bool) (L : List Nat) (t : ByteArray) (I R : List (Tr h)) (um ui ur : Value) (w : World) (hb : bk (h + 1) (2, n, b, L, t, I, R) ≤ 10000000)
    (hn : -9223372036854775808 ≤ n ∧ n ≤ 9223372036854775807) (hM : Sl .u32 w um L.length (fun i => L.getD i 0)) (hL : ∀ i, i < L.length → L.getD i 0 < 4294967296) (hI : RowD w (DatC w h) ui I) (hR : RowD w (DatC w h) ur R) (hn1 : n = 1) :
    Calls Try.prog 25 #[.agg #[.int .i64 2, .int .i64 n, .bool b, um, .string t, ui, ur], .bool sh] w fun e w' => e = .returned (.string ⟨(wr (h + 1) sh (2, n, b, L, t, I, R)).toArray⟩) ∧ Up w w' := by
  obtain ⟨aom, capm, rfl, -⟩ := id hM
  obtain ⟨aoi, capi, rfl⟩ := hI.shape
  obtain ⟨aor, capr, rfl⟩ := hR.shape
  have hbk : L.length ≤ 10000000 ∧ t.size ≤ 10000000 ∧ (I.map (bk h)).sum ≤ 10000000 ∧ (R.map (bk h)).sum ≤ 10000000 := by simp only [bk] at hb; omega
  have htl := bytes_len t
  obtain ⟨W, hW⟩ : ∃ W, W = w.alloc (.cells #[.int .i64 2, .int .i64 n, .bool b, .slice aom L.length capm, .string t, .slice aoi I.length capi, .slice aor R.length capr] 35) := ⟨_, rfl⟩
  have uW : Up w W := by rw [hW]; exact up_alloc w _
  have bW : W.heap[w.heap.size]? = some (.cells #[.int .i64 2, .int .i64 n, .bool b, .slice aom L.length capm, .string t, .slice aoi I.length capi, .slice aor R.length capr] 35 (0, 0)) := by rw [hW]; exact heap_alloc_new w _
  have HUse := hide (And.intro hT (And.intro hMany (And.intro hn (And.intro hL (And.intro hM (And.intro hbk (And.intro htl (And.intro bW uW))))))))
  clear HUse
  have e : wr (h + 1) sh (2, n, b, L, t, I, R) = [35, 116] := by simp [wr, hn1]
  rw [e]
  clear e
  subst hn1
  have HUW := hide uW
  have HBW := hide bW
  have HW := hide hW
  clear hT hMany uW bW hW hI hR hM hL hbk htl hb hn
  go_enter Try.func25, Try.ntmps25
  go_wp2
  go_ret
  exact ⟨rfl, up_alloc w _⟩

set_option maxHeartbeats 4000000 in
set_option maxRecDepth 100000 in
theorem rt_bool0 {h : Nat} (hT : RTextOK h) (hMany : RManyOK h) (sh : Bool) (n : Int) (b : Bool) (L : List Nat) (t : ByteArray) (I R : List (Tr h)) (um ui ur : Value) (w : World) (hb : bk (h + 1) (2, n, b, L, t, I, R) ≤ 10000000)
    (hn : -9223372036854775808 ≤ n ∧ n ≤ 9223372036854775807) (hM : Sl .u32 w um L.length (fun i => L.getD i 0)) (hL : ∀ i, i < L.length → L.getD i 0 < 4294967296) (hI : RowD w (DatC w h) ui I) (hR : RowD w (DatC w h) ur R) (hn1 : ¬ n = 1) :
    Calls Try.prog 25 #[.agg #[.int .i64 2, .int .i64 n, .bool b, um, .string t, ui, ur], .bool sh] w fun e w' => e = .returned (.string ⟨(wr (h + 1) sh (2, n, b, L, t, I, R)).toArray⟩) ∧ Up w w' := by
  obtain ⟨aom, capm, rfl, -⟩ := id hM
  obtain ⟨aoi, capi, rfl⟩ := hI.shape
  obtain ⟨aor, capr, rfl⟩ := hR.shape
  have hbk : L.length ≤ 10000000 ∧ t.size ≤ 10000000 ∧ (I.map (bk h)).sum ≤ 10000000 ∧ (R.map (bk h)).sum ≤ 10000000 := by simp only [bk] at hb; omega
  have htl := bytes_len t
  obtain ⟨W, hW⟩ : ∃ W, W = w.alloc (.cells #[.int .i64 2, .int .i64 n, .bool b, .slice aom L.length capm, .string t, .slice aoi I.length capi, .slice aor R.length capr] 35) := ⟨_, rfl⟩
  have uW : Up w W := by rw [hW]; exact up_alloc w _
  have bW : W.heap[w.heap.size]? = some (.cells #[.int .i64 2, .int .i64 n, .bool b, .slice aom L.length capm, .string t, .slice aoi I.length capi, .slice aor R.length capr] 35 (0, 0)) := by rw [hW]; exact heap_alloc_new w _
  have HUse := hide (And.intro hT (And.intro hMany (And.intro hn (And.intro hL (And.intro hM (And.intro hbk (And.intro htl (And.intro bW uW))))))))
  clear HUse
  have e : wr (h + 1) sh (2, n, b, L, t, I, R) = [35, 102] := by simp [wr, hn1]
  rw [e]
  clear e
  have HUW := hide uW
  have HBW := hide bW
  have HW := hide hW
  clear hT hMany uW bW hW hI hR hM hL hbk htl hb hn
  go_enter Try.func25, Try.ntmps25
  go_wp2
  go_ret
  exact ⟨rfl, up_alloc w _⟩

set_option maxHeartbeats 4000000 in
set_option maxRecDepth 100000 in
theorem rt_charS {h : Nat} (hT : RTextOK h) (hMany : RManyOK h) (n : Int) (b : Bool) (L : List Nat) (t : ByteArray) (I R : List (Tr h)) (um ui ur : Value) (w : World) (hb : bk (h + 1) (3, n, b, L, t, I, R) ≤ 10000000)
    (hn : -9223372036854775808 ≤ n ∧ n ≤ 9223372036854775807) (hM : Sl .u32 w um L.length (fun i => L.getD i 0)) (hL : ∀ i, i < L.length → L.getD i 0 < 4294967296) (hI : RowD w (DatC w h) ui I) (hR : RowD w (DatC w h) ur R) :
    Calls Try.prog 25 #[.agg #[.int .i64 3, .int .i64 n, .bool b, um, .string t, ui, ur], .bool true] w fun e w' => e = .returned (.string ⟨(wr (h + 1) true (3, n, b, L, t, I, R)).toArray⟩) ∧ Up w w' := by
  obtain ⟨aom, capm, rfl, -⟩ := id hM
  obtain ⟨aoi, capi, rfl⟩ := hI.shape
  obtain ⟨aor, capr, rfl⟩ := hR.shape
  have hbk : L.length ≤ 10000000 ∧ t.size ≤ 10000000 ∧ (I.map (bk h)).sum ≤ 10000000 ∧ (R.map (bk h)).sum ≤ 10000000 := by simp only [bk] at hb; omega
  have htl := bytes_len t
  obtain ⟨W, hW⟩ : ∃ W, W = w.alloc (.cells #[.int .i64 3, .int .i64 n, .bool b, .slice aom L.length capm, .string t, .slice aoi I.length capi, .slice aor R.length capr] 35) := ⟨_, rfl⟩
  have uW : Up w W := by rw [hW]; exact up_alloc w _
  have bW : W.heap[w.heap.size]? = some (.cells #[.int .i64 3, .int .i64 n, .bool b, .slice aom L.length capm, .string t, .slice aoi I.length capi, .slice aor R.length capr] 35 (0, 0)) := by rw [hW]; exact heap_alloc_new w _
  have HUse := hide (And.intro hT (And.intro hMany (And.intro hn (And.intro hL (And.intro hM (And.intro hbk (And.intro htl (And.intro bW uW))))))))
  clear HUse
  have e : wr (h + 1) true (3, n, b, L, t, I, R) = [(n % 256).toNat.toUInt8] := by simp [wr]
  rw [e]
  clear e
  have kc := conv_new W [(n % 256).toNat.toUInt8] 1
  have hu : (n % 256).toNat.toUInt8.toNat = (n % 256).toNat := by simp; omega
  have zW : W.heap.size = w.heap.size + 1 := by rw [hW, World.size_alloc]
  simp only [Lib.byteCells, List.map_cons, List.map_nil, List.length_cons, List.length_nil, Nat.zero_add] at kc
  rw [hu, show (((n % 256).toNat : Nat) : Int) = n % 256 by omega, zW, hW] at kc
  generalize (n % 256).toNat.toUInt8 = c at *
  clear hu zW
  have HUW := hide uW
  have HBW := hide bW
  have HW := hide hW
  clear hT hMany uW bW hW hI hR hM hL hbk htl hb hn
  go_enter Try.func25, Try.ntmps25
  go_wp2
  go_ret
  exact ⟨rfl, (up_alloc w _).tr (up_alloc _ _)⟩

set_option maxHeartbeats 4000000 in
set_option maxRecDepth 100000 in
theorem rt_charW {h : Nat} (hT : RTextOK h) (hMany : RManyOK h) (n : Int) (b : Bool) (L : List Nat) (t : ByteArray) (I R : List (Tr h)) (um ui ur : Value) (w : World) (hb : bk (h + 1) (3, n, b, L, t, I, R) ≤ 10000000)
    (hn : -9223372036854775808 ≤ n ∧ n ≤ 9223372036854775807) (hM : Sl .u32 w um L.length (fun i => L.getD i 0)) (hL : ∀ i, i < L.length → L.getD i 0 < 4294967296) (hI : RowD w (DatC w h) ui I) (hR : RowD w (DatC w h) ur R) :
    Calls Try.prog 25 #[.agg #[.int .i64 3, .int .i64 n, .bool b, um, .string t, ui, ur], .bool false] w fun e w' => e = .returned (.string ⟨(wr (h + 1) false (3, n, b, L, t, I, R)).toArray⟩) ∧ Up w w' := by
  obtain ⟨aom, capm, rfl, -⟩ := id hM
  obtain ⟨aoi, capi, rfl⟩ := hI.shape
  obtain ⟨aor, capr, rfl⟩ := hR.shape
  have hbk : L.length ≤ 10000000 ∧ t.size ≤ 10000000 ∧ (I.map (bk h)).sum ≤ 10000000 ∧ (R.map (bk h)).sum ≤ 10000000 := by simp only [bk] at hb; omega
  have htl := bytes_len t
  obtain ⟨W, hW⟩ : ∃ W, W = w.alloc (.cells #[.int .i64 3, .int .i64 n, .bool b, .slice aom L.length capm, .string t, .slice aoi I.length capi, .slice aor R.length capr] 35) := ⟨_, rfl⟩
  have uW : Up w W := by rw [hW]; exact up_alloc w _
  have bW : W.heap[w.heap.size]? = some (.cells #[.int .i64 3, .int .i64 n, .bool b, .slice aom L.length capm, .string t, .slice aoi I.length capi, .slice aor R.length capr] 35 (0, 0)) := by rw [hW]; exact heap_alloc_new w _
  have HUse := hide (And.intro hT (And.intro hMany (And.intro hn (And.intro hL (And.intro hM (And.intro hbk (And.intro htl (And.intro bW uW))))))))
  clear HUse
  have e : wr (h + 1) false (3, n, b, L, t, I, R) = [35, 92] ++ chW n := by simp [wr]
  rw [e]
  clear e
  have KN := rchar_any n hn W
  generalize [35, 92] ++ chW n = c at *
  rw [hW] at KN
  have HN := hide KN
  clear KN
  have HUW := hide uW
  have HBW := hide bW
  have HW := hide hW
  clear hT hMany uW bW hW hI hR hM hL hbk htl hb hn
  go_enter Try.func25, Try.ntmps25
  go_wp2_with (go_at_call 43; refine HN.out.mono ?_; rintro e w2 ⟨rfl, u2⟩)
  go_ret
  exact ⟨rfl, (up_alloc w _).tr u2⟩

set_option maxHeartbeats 4000000 in
set_option maxRecDepth 100000 in
theorem rt_textS {h : Nat} (hT : RTextOK h) (hMany : RManyOK h) (n : Int) (b : Bool) (L : List Nat) (t : ByteArray) (I R : List (Tr h)) (um ui ur : Value) (w : World) (hb : bk (h + 1) (4, n, b, L, t, I, R) ≤ 10000000)
    (hn : -9223372036854775808 ≤ n ∧ n ≤ 9223372036854775807) (hM : Sl .u32 w um L.length (fun i => L.getD i 0)) (hL : ∀ i, i < L.length → L.getD i 0 < 4294967296) (hI : RowD w (DatC w h) ui I) (hR : RowD w (DatC w h) ur R) :
    Calls Try.prog 25 #[.agg #[.int .i64 4, .int .i64 n, .bool b, um, .string t, ui, ur], .bool true] w fun e w' => e = .returned (.string ⟨(wr (h + 1) true (4, n, b, L, t, I, R)).toArray⟩) ∧ Up w w' := by
  obtain ⟨aom, capm, rfl, -⟩ := id hM
  obtain ⟨aoi, capi, rfl⟩ := hI.shape
  obtain ⟨aor, capr, rfl⟩ := hR.shape
  have hbk : L.length ≤ 10000000 ∧ t.size ≤ 10000000 ∧ (I.map (bk h)).sum ≤ 10000000 ∧ (R.map (bk h)).sum ≤ 10000000 := by simp only [bk] at hb; omega
  have htl := bytes_len t
  obtain ⟨W, hW⟩ : ∃ W, W = w.alloc (.cells #[.int .i64 4, .int .i64 n, .bool b, .slice aom L.length capm, .string t, .slice aoi I.length capi, .slice aor R.length capr] 35) := ⟨_, rfl⟩
  have uW : Up w W := by rw [hW]; exact up_alloc w _
  have bW : W.heap[w.heap.size]? = some (.cells #[.int .i64 4, .int .i64 n, .bool b, .slice aom L.length capm, .string t, .slice aoi I.length capi, .slice aor R.length capr] 35 (0, 0)) := by rw [hW]; exact heap_alloc_new w _
  have HUse := hide (And.intro hT (And.intro hMany (And.intro hn (And.intro hL (And.intro hM (And.intro hbk (And.intro htl (And.intro bW uW))))))))
  clear HUse
  have e : (⟨(wr (h + 1) true (4, n, b, L, t, I, R)).toArray⟩ : ByteArray) = t := by simp only [wr]; simp
  rw [e]
  clear e
  have HUW := hide uW
  have HBW := hide bW
  have HW := hide hW
  clear hT hMany uW bW hW hI hR hM hL hbk htl hb hn
  go_enter Try.func25, Try.ntmps25
  go_wp2
  go_ret
  exact ⟨rfl, up_alloc w _⟩

set_option maxHeartbeats 4000000 in
set_option maxRecDepth 100000 in
theorem rt_textW {h : Nat} (hT : RTextOK h) (hMany : RManyOK h) (n : Int) (b : Bool) (L : List Nat) (t : ByteArray) (I R : List (Tr h)) (um ui ur : Value) (w : World) (hb : bk (h + 1) (4, n, b, L, t, I, R) ≤ 10000000)
    (hn : -9223372036854775808 ≤ n ∧ n ≤ 9223372036854775807) (hM : Sl .u32 w um L.length (fun i => L.getD i 0)) (hL : ∀ i, i < L.length → L.getD i 0 < 4294967296) (hI : RowD w (DatC w h) ui I) (hR : RowD w (DatC w h) ur R) :
    Calls Try.prog 25 #[.agg #[.int .i64 4, .int .i64 n, .bool b, um, .string t, ui, ur], .bool false] w fun e w' => e = .returned (.string ⟨(wr (h + 1) false (4, n, b, L, t, I, R)).toArray⟩) ∧ Up w w' := by
  obtain ⟨aom, capm, rfl, -⟩ := id hM
  obtain ⟨aoi, capi, rfl⟩ := hI.shape
  obtain ⟨aor, capr, rfl⟩ := hR.shape
  have hbk : L.length ≤ 10000000 ∧ t.size ≤ 10000000 ∧ (I.map (bk h)).sum ≤ 10000000 ∧ (R.map (bk h)).sum ≤ 10000000 := by simp only [bk] at hb; omega
  have htl := bytes_len t
  obtain ⟨W, hW⟩ : ∃ W, W = w.alloc (.cells #[.int .i64 4, .int .i64 n, .bool b, .slice aom L.length capm, .string t, .slice aoi I.length capi, .slice aor R.length capr] 35) := ⟨_, rfl⟩
  have uW : Up w W := by rw [hW]; exact up_alloc w _
  have bW : W.heap[w.heap.size]? = some (.cells #[.int .i64 4, .int .i64 n, .bool b, .slice aom L.length capm, .string t, .slice aoi I.length capi, .slice aor R.length capr] 35 (0, 0)) := by rw [hW]; exact heap_alloc_new w _
  have HUse := hide (And.intro hT (And.intro hMany (And.intro hn (And.intro hL (And.intro hM (And.intro hbk (And.intro htl (And.intro bW uW))))))))
  clear HUse
  have e : wr (h + 1) false (4, n, b, L, t, I, R) = [34] ++ tsW t.data.toList ++ [34] := by simp [wr]
  rw [e]
  clear e
  have KN := rText_any t hbk.2.1 W
  generalize [34] ++ tsW t.data.toList ++ [34] = c at *
  rw [hW] at KN
  have HN := hide KN
  clear KN
  have HUW := hide uW
  have HBW := hide bW
  have HW := hide hW
  clear hT hMany uW bW hW hI hR hM hL hbk htl hb hn
  go_enter Try.func25, Try.ntmps25
  go_wp2_with (go_at_call 44; refine HN.out.mono ?_; rintro e w2 ⟨rfl, u2⟩)
  go_ret
  exact ⟨rfl, (up_alloc w _).tr u2⟩

set_option maxHeartbeats 4000000 in
set_option maxRecDepth 100000 in
theorem rt_sym {h : Nat} (hT : RTextOK h) (hMany : RManyOK h) (sh : Bool) (n : Int) (b : Bool) (L : List Nat) (t : ByteArray) (I R : List (Tr h)) (um ui ur : Value) (w : World) (hb : bk (h + 1) (5, n, b, L, t, I, R) ≤ 10000000)
    (hn : -9223372036854775808 ≤ n ∧ n ≤ 9223372036854775807) (hM : Sl .u32 w um L.length (fun i => L.getD i 0)) (hL : ∀ i, i < L.length → L.getD i 0 < 4294967296) (hI : RowD w (DatC w h) ui I) (hR : RowD w (DatC w h) ur R) :
    Calls Try.prog 25 #[.agg #[.int .i64 5, .int .i64 n, .bool b, um, .string t, ui, ur], .bool sh] w fun e w' => e = .returned (.string ⟨(wr (h + 1) sh (5, n, b, L, t, I, R)).toArray⟩) ∧ Up w w' := by
  obtain ⟨aom, capm, rfl, -⟩ := id hM
  obtain ⟨aoi, capi, rfl⟩ := hI.shape
  obtain ⟨aor, capr, rfl⟩ := hR.shape
  have hbk : L.length ≤ 10000000 ∧ t.size ≤ 10000000 ∧ (I.map (bk h)).sum ≤ 10000000 ∧ (R.map (bk h)).sum ≤ 10000000 := by simp only [bk] at hb; omega
  have htl := bytes_len t
  obtain ⟨W, hW⟩ : ∃ W, W = w.alloc (.cells #[.int .i64 5, .int .i64 n, .bool b, .slice aom L.length capm, .string t, .slice aoi I.length capi, .slice aor R.length capr] 35) := ⟨_, rfl⟩
  have uW : Up w W := by rw [hW]; exact up_alloc w _
  have bW : W.heap[w.heap.size]? = some (.cells #[.int .i64 5, .int .i64 n, .bool b, .slice aom L.length capm, .string t, .slice aoi I.length capi, .slice aor R.length capr] 35 (0, 0)) := by rw [hW]; exact heap_alloc_new w _
  have HUse := hide (And.intro hT (And.intro hMany (And.intro hn (And.intro hL (And.intro hM (And.intro hbk (And.intro htl (And.intro bW uW))))))))
  clear HUse
  have e : (⟨(wr (h + 1) sh (5, n, b, L, t, I, R)).toArray⟩ : ByteArray) = t := by simp only [wr]; simp
  rw [e]
  clear e
  have HUW := hide uW
  have HBW := hide bW
  have HW := hide hW
  clear hT hMany uW bW hW hI hR hM hL hbk htl hb hn
  go_enter Try.func25, Try.ntmps25
  go_wp2
  go_ret
  exact ⟨rfl, up_alloc w _⟩

set_option maxHeartbeats 4000000 in
set_option maxRecDepth 100000 in
theorem rt_list {h : Nat} (hT : RTextOK h) (hMany : RManyOK h) (sh : Bool) (n : Int) (b : Bool) (L : List Nat) (t : ByteArray) (I R : List (Tr h)) (um ui ur : Value) (w : World) (hb : bk (h + 1) (6, n, b, L, t, I, R) ≤ 10000000)
    (hn : -9223372036854775808 ≤ n ∧ n ≤ 9223372036854775807) (hM : Sl .u32 w um L.length (fun i => L.getD i 0)) (hL : ∀ i, i < L.length → L.getD i 0 < 4294967296) (hI : RowD w (DatC w h) ui I) (hR : RowD w (DatC w h) ur R) (hR0 : R = []) :
    Calls Try.prog 25 #[.agg #[.int .i64 6, .int .i64 n, .bool b, um, .string t, ui, ur], .bool sh] w fun e w' => e = .returned (.string ⟨(wr (h + 1) sh (6, n, b, L, t, I, R)).toArray⟩) ∧ Up w w' := by
  obtain ⟨aom, capm, rfl, -⟩ := id hM
  obtain ⟨aoi, capi, rfl⟩ := hI.shape
  obtain ⟨aor, capr, rfl⟩ := hR.shape
  have hbk : L.length ≤ 10000000 ∧ t.size ≤ 10000000 ∧ (I.map (bk h)).sum ≤ 10000000 ∧ (R.map (bk h)).sum ≤ 10000000 := by simp only [bk] at hb; omega
  have htl := bytes_len t
  obtain ⟨W, hW⟩ : ∃ W, W = w.alloc (.cells #[.int .i64 6, .int .i64 n, .bool b, .slice aom L.length capm, .string t, .slice aoi I.length capi, .slice aor R.length capr] 35) := ⟨_, rfl⟩
  have uW : Up w W := by rw [hW]; exact up_alloc w _
  have bW : W.heap[w.heap.size]? = some (.cells #[.int .i64 6, .int .i64 n, .bool b, .slice aom L.length capm, .string t, .slice aoi I.length capi, .slice aor R.length capr] 35 (0, 0)) := by rw [hW]; exact heap_alloc_new w _
  have HUse := hide (And.intro hT (And.intro hMany (And.intro hn (And.intro hL (And.intro hM (And.intro hbk (And.intro htl (And.intro bW uW))))))))
  clear HUse
  have KN := hMany sh I (.slice aoi I.length capi) W (hI.upD uW) hbk.2.2.1
  have hln := its_len hI sh I.length
  rw [List.take_length] at hln
  have e : wr (h + 1) sh (6, n, b, L, t, I, R) = [40] ++ its (wr h sh) [] I ++ [41] := by subst hR0; cases I <;> simp [wr, dotW]
  rw [e]
  clear e
  generalize its (wr h sh) [] I = M at *
  have zM := size_arr M
  have lM : M.length ≤ 1000000000 := by omega
  have z2 : ((⟨#[40]⟩ : ByteArray) ++ ⟨M.toArray⟩).size = [40].length + M.length := by rw [ByteArray.size_append, zM]; rfl
  have hEq := round_bytes M
  have HEq := hide hEq
  rw [hW] at KN
  have HN := hide KN
  subst hR0
  simp only [List.length_nil]
  clear KN hEq hln
  have HUW := hide uW
  have HBW := hide bW
  have HW := hide hW
  clear hT hMany uW bW hW hI hR hM hL hbk htl hb hn
  go_enter Try.func25, Try.ntmps25
  go_wp2_with (go_at_call 45; refine HN.out.mono ?_; rintro e w2 ⟨rfl, u2⟩)
  go_ret
  exact ⟨congrArg (fun x => Ending.returned (Value.string x)) HEq.out, (up_alloc w _).tr u2⟩

set_option maxHeartbeats 4000000 in
set_option maxRecDepth 100000 in
theorem rt_vec {h : Nat} (hT : RTextOK h) (hMany : RManyOK h) (sh : Bool) (n : Int) (b : Bool) (L : List Nat) (t : ByteArray) (I R : List (Tr h)) (um ui ur : Value) (w : World) (hb : bk (h + 1) (7, n, b, L, t, I, R) ≤ 10000000)
    (hn : -9223372036854775808 ≤ n ∧ n ≤ 9223372036854775807) (hM : Sl .u32 w um L.length (fun i => L.getD i 0)) (hL : ∀ i, i < L.length → L.getD i 0 < 4294967296) (hI : RowD w (DatC w h) ui I) (hR : RowD w (DatC w h) ur R) :
    Calls Try.prog 25 #[.agg #[.int .i64 7, .int .i64 n, .bool b, um, .string t, ui, ur], .bool sh] w fun e w' => e = .returned (.string ⟨(wr (h + 1) sh (7, n, b, L, t, I, R)).toArray⟩) ∧ Up w w' := by
  obtain ⟨aom, capm, rfl, -⟩ := id hM
  obtain ⟨aoi, capi, rfl⟩ := hI.shape
  obtain ⟨aor, capr, rfl⟩ := hR.shape
  have hbk : L.length ≤ 10000000 ∧ t.size ≤ 10000000 ∧ (I.map (bk h)).sum ≤ 10000000 ∧ (R.map (bk h)).sum ≤ 10000000 := by simp only [bk] at hb; omega
  have htl := bytes_len t
  obtain ⟨W, hW⟩ : ∃ W, W = w.alloc (.cells #[.int .i64 7, .int .i64 n, .bool b, .slice aom L.length capm, .string t, .slice aoi I.length capi, .slice aor R.length capr] 35) := ⟨_, rfl⟩
  have uW : Up w W := by rw [hW]; exact up_alloc w _
  have bW : W.heap[w.heap.size]? = some (.cells #[.int .i64 7, .int .i64 n, .bool b, .slice aom L.length capm, .string t, .slice aoi I.length capi, .slice aor R.length capr] 35 (0, 0)) := by rw [hW]; exact heap_alloc_new w _
  have HUse := hide (And.intro hT (And.intro hMany (And.intro hn (And.intro hL (And.intro hM (And.intro hbk (And.intro htl (And.intro bW uW))))))))
  clear HUse
  have KN := hMany sh I (.slice aoi I.length capi) W (hI.upD uW) hbk.2.2.1
  have hln := its_len hI sh I.length
  rw [List.take_length] at hln
  have e : wr (h + 1) sh (7, n, b, L, t, I, R) = [35, 40] ++ its (wr h sh) [] I ++ [41] := by simp [wr]
  rw [e]
  clear e
  generalize its (wr h sh) [] I = M at *
  have zM := size_arr M
  have lM : M.length ≤ 1000000000 := by omega
  have z2 : ((⟨#[35, 40]⟩ : ByteArray) ++ ⟨M.toArray⟩).size = [35, 40].length + M.length := by rw [ByteArray.size_append, zM]; rfl
  have hEq := vec_bytes M
  have HEq := hide hEq
  rw [hW] at KN
  have HN := hide KN

  clear KN hEq hln
  have HUW := hide uW
  have HBW := hide bW
  have HW := hide hW
  clear hT hMany uW bW hW hI hR hM hL hbk htl hb hn
  go_enter Try.func25, Try.ntmps25
  go_wp2_with (go_at_call 45; refine HN.out.mono ?_; rintro e w2 ⟨rfl, u2⟩)
  go_ret
  exact ⟨congrArg (fun x => Ending.returned (Value.string x)) HEq.out, (up_alloc w _).tr u2⟩

set_option maxHeartbeats 4000000 in
set_option maxRecDepth 100000 in
theorem rt_proc {h : Nat} (hT : RTextOK h) (hMany : RManyOK h) (sh : Bool) (n : Int) (b : Bool) (L : List Nat) (t : ByteArray) (I R : List (Tr h)) (um ui ur : Value) (w : World) (hb : bk (h + 1) (9, n, b, L, t, I, R) ≤ 10000000)
    (hn : -9223372036854775808 ≤ n ∧ n ≤ 9223372036854775807) (hM : Sl .u32 w um L.length (fun i => L.getD i 0)) (hL : ∀ i, i < L.length → L.getD i 0 < 4294967296) (hI : RowD w (DatC w h) ui I) (hR : RowD w (DatC w h) ur R) :
    Calls Try.prog 25 #[.agg #[.int .i64 9, .int .i64 n, .bool b, um, .string t, ui, ur], .bool sh] w fun e w' => e = .returned (.string ⟨(wr (h + 1) sh (9, n, b, L, t, I, R)).toArray⟩) ∧ Up w w' := by
  obtain ⟨aom, capm, rfl, -⟩ := id hM
  obtain ⟨aoi, capi, rfl⟩ := hI.shape
  obtain ⟨aor, capr, rfl⟩ := hR.shape
  have hbk : L.length ≤ 10000000 ∧ t.size ≤ 10000000 ∧ (I.map (bk h)).sum ≤ 10000000 ∧ (R.map (bk h)).sum ≤ 10000000 := by simp only [bk] at hb; omega
  have htl := bytes_len t
  obtain ⟨W, hW⟩ : ∃ W, W = w.alloc (.cells #[.int .i64 9, .int .i64 n, .bool b, .slice aom L.length capm, .string t, .slice aoi I.length capi, .slice aor R.length capr] 35) := ⟨_, rfl⟩
  have uW : Up w W := by rw [hW]; exact up_alloc w _
  have bW : W.heap[w.heap.size]? = some (.cells #[.int .i64 9, .int .i64 n, .bool b, .slice aom L.length capm, .string t, .slice aoi I.length capi, .slice aor R.length capr] 35 (0, 0)) := by rw [hW]; exact heap_alloc_new w _
  have HUse := hide (And.intro hT (And.intro hMany (And.intro hn (And.intro hL (And.intro hM (And.intro hbk (And.intro htl (And.intro bW uW))))))))
  clear HUse
  have e : wr (h + 1) sh (9, n, b, L, t, I, R) = [35, 60, 112, 114, 111, 99, 101, 100, 117, 114, 101, 62] := by simp [wr]
  rw [e]
  clear e
  have HUW := hide uW
  have HBW := hide bW
  have HW := hide hW
  clear hT hMany uW bW hW hI hR hM hL hbk htl hb hn
  go_enter Try.func25, Try.ntmps25
  go_wp2
  go_ret
  exact ⟨rfl, up_alloc w _⟩

set_option maxHeartbeats 4000000 in
set_option maxRecDepth 100000 in
theorem rt_void {h : Nat} (hT : RTextOK h) (hMany : RManyOK h) (sh : Bool) (k : Int) (k1 : ¬ k = 1) (k2 : ¬ k = 2) (k3 : ¬ k = 3) (k4 : ¬ k = 4) (k5 : ¬ k = 5) (k6 : ¬ k = 6) (k7 : ¬ k = 7) (k9 : ¬ k = 9) (k10 : ¬ k = 10) (n : Int) (b : Bool) (L : List Nat) (t : ByteArray) (I R : List (Tr h)) (um ui ur : Value) (w : World) (hb : bk (h + 1) (k, n, b, L, t, I, R) ≤ 10000000)
    (hn : -9223372036854775808 ≤ n ∧ n ≤ 9223372036854775807) (hM : Sl .u32 w um L.length (fun i => L.getD i 0)) (hL : ∀ i, i < L.length → L.getD i 0 < 4294967296) (hI : RowD w (DatC w h) ui I) (hR : RowD w (DatC w h) ur R) :
    Calls Try.prog 25 #[.agg #[.int .i64 k, .int .i64 n, .bool b, um, .string t, ui, ur], .bool sh] w fun e w' => e = .returned (.string ⟨(wr (h + 1) sh (k, n, b, L, t, I, R)).toArray⟩) ∧ Up w w' := by
  obtain ⟨aom, capm, rfl, -⟩ := id hM
  obtain ⟨aoi, capi, rfl⟩ := hI.shape
  obtain ⟨aor, capr, rfl⟩ := hR.shape
  have hbk : L.length ≤ 10000000 ∧ t.size ≤ 10000000 ∧ (I.map (bk h)).sum ≤ 10000000 ∧ (R.map (bk h)).sum ≤ 10000000 := by simp only [bk] at hb; omega
  have htl := bytes_len t
  obtain ⟨W, hW⟩ : ∃ W, W = w.alloc (.cells #[.int .i64 k, .int .i64 n, .bool b, .slice aom L.length capm, .string t, .slice aoi I.length capi, .slice aor R.length capr] 35) := ⟨_, rfl⟩
  have uW : Up w W := by rw [hW]; exact up_alloc w _
  have bW : W.heap[w.heap.size]? = some (.cells #[.int .i64 k, .int .i64 n, .bool b, .slice aom L.length capm, .string t, .slice aoi I.length capi, .slice aor R.length capr] 35 (0, 0)) := by rw [hW]; exact heap_alloc_new w _
  have HUse := hide (And.intro hT (And.intro hMany (And.intro hn (And.intro hL (And.intro hM (And.intro hbk (And.intro htl (And.intro bW uW))))))))
  clear HUse
  have e : wr (h + 1) sh (k, n, b, L, t, I, R) = [35, 60, 118, 111, 105, 100, 62] := by simp [wr, k1, k2, k3, k4, k5, k6, k7, k9, k10]
  rw [e]
  clear e
  have HUW := hide uW
  have HBW := hide bW
  have HW := hide hW
  clear hT hMany uW bW hW hI hR hM hL hbk htl hb hn
  go_enter Try.func25, Try.ntmps25
  go_wp2
  go_ret
  exact ⟨rfl, up_alloc w _⟩

theorem its_snocB {α : Type} (f : α → List UInt8) (d : α) (l : List α) : its f [32] (l ++ [d]) = its f [32] l ++ [32] ++ f d := by
  rw [its_snoc]
  split <;> rfl

set_option maxHeartbeats 8000000 in
set_option maxRecDepth 100000 in
theorem rt_listR {h : Nat} (hT : RTextOK h) (hMany : RManyOK h) (sh : Bool) (n : Int) (b : Bool) (L : List Nat) (t : ByteArray) (I R : List (Tr h)) (um ui ur : Value) (w : World) (hb : bk (h + 1) (6, n, b, L, t, I, R) ≤ 10000000)
    (hM : Sl .u32 w um L.length (fun i => L.getD i 0)) (hI : RowD w (DatC w h) ui I) (hR : RowD w (DatC w h) ur R) (hI0 : I = []) (hR0 : ∃ r R', R = r :: R') :
    Calls Try.prog 25 #[.agg #[.int .i64 6, .int .i64 n, .bool b, um, .string t, ui, ur], .bool sh] w fun e w' => e = .returned (.string ⟨(wr (h + 1) sh (6, n, b, L, t, I, R)).toArray⟩) ∧ Up w w' := by
  obtain ⟨aom, capm, rfl, -⟩ := id hM
  obtain ⟨aoi, capi, rfl⟩ := hI.shape
  obtain ⟨aor, capr, rfl⟩ := hR.shape
  have hbk : L.length ≤ 10000000 ∧ t.size ≤ 10000000 ∧ (I.map (bk h)).sum ≤ 10000000 ∧ (R.map (bk h)).sum ≤ 10000000 := by simp only [bk] at hb; omega
  have htl := bytes_len t
  obtain ⟨W, hW⟩ : ∃ W, W = w.alloc (.cells #[.int .i64 6, .int .i64 n, .bool b, .slice aom L.length capm, .string t, .slice aoi I.length capi, .slice aor R.length capr] 35) := ⟨_, rfl⟩
  have uW : Up w W := by rw [hW]; exact up_alloc w _
  have bW : W.heap[w.heap.size]? = some (.cells #[.int .i64 6, .int .i64 n, .bool b, .slice aom L.length capm, .string t, .slice aoi I.length capi, .slice aor R.length capr] 35 (0, 0)) := by rw [hW]; exact heap_alloc_new w _
  have HUse := hide (And.intro hT (And.intro hMany (And.intro hM (And.intro hbk (And.intro htl (And.intro bW uW))))))
  clear HUse
  obtain rfl : I = [] := hI0
  obtain ⟨r, R', rfl⟩ := hR0
  obtain ⟨rb, ro, capr', er, -, hc2, ⟨cs, k1, k2, k3⟩, -⟩ := hR.head
  cases er
  obtain ⟨kk, kn, kb, vum, kt, vui, vur, rfl, ⟨x1, x2, x3, rfl⟩, ⟨y1, y2, y3, rfl⟩, ⟨z1, z2, z3, rfl⟩, e0, e1, e2, e3, e4, e5, e6⟩ := dat_cells k1 k2 k3 uW
  have hbr : bk h r ≤ 10000000 := by simp at hbk; omega
  simp only [List.length_cons, List.length_nil] at hW bW
  have e : wr (h + 1) sh (6, n, b, L, t, [], r :: R') = wr h sh r := by simp [wr]
  rw [e]
  clear e
  have KT := hT sh r _ _ _ _ _ _ _ W (k3.up uW) hbr
  generalize wr h sh r = T at *
  rw [hW] at KT e0 e1 e2 e3 e4 e5 e6
  have HT := hide KT
  have hlI : ¬ ((R'.length : Int) + 1 = 0) := by omega
  have hlp : (0 : Int) < (R'.length : Int) + 1 := by omega
  clear KT k1 k2 k3 hbr hc2
  have HUW := hide uW
  have HBW := hide bW
  have HW := hide hW
  clear hT hMany uW bW hW hI hR hM hbk htl hb
  go_enter Try.func25, Try.ntmps25
  go_wp2_with (go_at_call 25; refine HT.out.mono ?_; rintro e w2 ⟨rfl, u2⟩)
  go_ret
  exact ⟨rfl, (up_alloc w _).tr u2⟩

set_option maxHeartbeats 8000000 in
set_option maxRecDepth 100000 in
theorem rt_listD {h : Nat} (hT : RTextOK h) (hMany : RManyOK h) (sh : Bool) (n : Int) (b : Bool) (L : List Nat) (t : ByteArray) (I R : List (Tr h)) (um ui ur : Value) (w : World) (hb : bk (h + 1) (6, n, b, L, t, I, R) ≤ 10000000)
    (hM : Sl .u32 w um L.length (fun i => L.getD i 0)) (hI : RowD w (DatC w h) ui I) (hR : RowD w (DatC w h) ur R) (hI0 : I ≠ []) (hR0 : ∃ r R', R = r :: R') :
    Calls Try.prog 25 #[.agg #[.int .i64 6, .int .i64 n, .bool b, um, .string t, ui, ur], .bool sh] w fun e w' => e = .returned (.string ⟨(wr (h + 1) sh (6, n, b, L, t, I, R)).toArray⟩) ∧ Up w w' := by
  obtain ⟨aom, capm, rfl, -⟩ := id hM
  obtain ⟨aoi, capi, rfl⟩ := hI.shape
  obtain ⟨aor, capr, rfl⟩ := hR.shape
  have hbk : L.length ≤ 10000000 ∧ t.size ≤ 10000000 ∧ (I.map (bk h)).sum ≤ 10000000 ∧ (R.map (bk h)).sum ≤ 10000000 := by simp only [bk] at hb; omega
  have htl := bytes_len t
  obtain ⟨W, hW⟩ : ∃ W, W = w.alloc (.cells #[.int .i64 6, .int .i64 n, .bool b, .slice aom L.length capm, .string t, .slice aoi I.length capi, .slice aor R.length capr] 35) := ⟨_, rfl⟩
  have uW : Up w W := by rw [hW]; exact up_alloc w _
  have bW : W.heap[w.heap.size]? = some (.cells #[.int .i64 6, .int .i64 n, .bool b, .slice aom L.length capm, .string t, .slice aoi I.length capi, .slice aor R.length capr] 35 (0, 0)) := by rw [hW]; exact heap_alloc_new w _
  have HUse := hide (And.intro hT (And.intro hMany (And.intro hM (And.intro hbk (And.intro htl (And.intro bW uW))))))
  clear HUse
  obtain ⟨r, R', rfl⟩ := hR0
  obtain ⟨rb, ro, capr', er, -, hc2, ⟨cs, k1, k2, k3⟩, -⟩ := hR.head
  cases er
  obtain ⟨kk, kn, kb, vum, kt, vui, vur, rfl, ⟨x1, x2, x3, rfl⟩, ⟨y1, y2, y3, rfl⟩, ⟨z1, z2, z3, rfl⟩, e0, e1, e2, e3, e4, e5, e6⟩ := dat_cells k1 k2 k3 uW
  have hbr : bk h r ≤ 10000000 := by simp at hbk; omega
  simp only [List.length_cons] at hW bW
  have hrbw : rb < W.heap.size := World.block_lt_of_cell? W _ e0
  have hcu : ∀ V, Up W V → V.cell? ⟨rb, ro, none⟩ = some (.int .i64 kk) ∧ V.cell? ⟨rb, ro + 1, none⟩ = some (.int .i64 kn) ∧ V.cell? ⟨rb, ro + 2, none⟩ = some (.bool kb) ∧ V.cell? ⟨rb, ro + 3, none⟩ = some (.slice x1 x2 x3) ∧ V.cell? ⟨rb, ro + 4, none⟩ = some (.string kt) ∧ V.cell? ⟨rb, ro + 5, none⟩ = some (.slice y1 y2 y3) ∧ V.cell? ⟨rb, ro + 6, none⟩ = some (.slice z1 z2 z3) := fun V u => ⟨(u.cell (p := ⟨rb, ro, none⟩) hrbw).trans e0, (u.cell (p := ⟨rb, ro + 1, none⟩) hrbw).trans e1, (u.cell (p := ⟨rb, ro + 2, none⟩) hrbw).trans e2, (u.cell (p := ⟨rb, ro + 3, none⟩) hrbw).trans e3, (u.cell (p := ⟨rb, ro + 4, none⟩) hrbw).trans e4, (u.cell (p := ⟨rb, ro + 5, none⟩) hrbw).trans e5, (u.cell (p := ⟨rb, ro + 6, none⟩) hrbw).trans e6⟩
  have hrl := wr_le h sh r w _ k3
  have hln := its_len hI sh I.length
  rw [List.take_length] at hln
  have e : wr (h + 1) sh (6, n, b, L, t, I, r :: R') = [40] ++ its (wr h sh) [] I ++ ([32, 46, 32] ++ wr h sh r) ++ [41] := by
    cases I with
    | nil => exact absurd rfl hI0
    | cons i I' => simp [wr, dotW]
  rw [e]
  clear e
  have KT := fun (V : World) (u : Up W V) => hT sh r _ _ _ _ _ _ _ V ((k3.up uW).up u) hbr
  have KM := fun (V : World) (u : Up W V) => hMany sh I (.slice aoi I.length capi) V ((hI.upD uW).upD u) hbk.2.2.1
  generalize wr h sh r = T at *
  generalize its (wr h sh) [] I = M at *
  have hEq := dot_bytes M T
  have HEq := hide hEq
  have zM := size_arr M
  have zT := size_arr T
  have lM : M.length ≤ 1000000000 := by omega
  have lT : T.length ≤ 1000000000 := by omega
  have sz2 : ((⟨#[40]⟩ : ByteArray) ++ ⟨M.toArray⟩).size = 1 + M.length := by rw [ByteArray.size_append, zM]; rfl
  have sz3 : (((⟨#[40]⟩ : ByteArray) ++ ⟨M.toArray⟩) ++ ⟨#[32, 46, 32]⟩).size = 1 + M.length + 3 := by rw [ByteArray.size_append, sz2]; rfl
  have sz4 : ((((⟨#[40]⟩ : ByteArray) ++ ⟨M.toArray⟩) ++ ⟨#[32, 46, 32]⟩) ++ ⟨T.toArray⟩).size = 1 + M.length + 3 + T.length := by rw [ByteArray.size_append, sz3, zT]
  have a1 : ¬ 9223372036854775807 < 1 + M.length := by omega
  have a2 : ¬ 9223372036854775807 < 1 + M.length + 3 := by omega
  have a3 : ¬ 9223372036854775807 < 1 + M.length + 3 + T.length := by omega
  have a4 : ¬ 9223372036854775807 < 1 + M.length + 3 + T.length + 1 := by omega
  have HT := hide KT
  have HM := hide KM
  have HCU := hide hcu
  have hli0 : I.length ≠ 0 := by simpa using hI0
  have hlI : ¬ ((R'.length : Int) + 1 = 0) := by omega
  have hlp : (0 : Int) < (R'.length : Int) + 1 := by omega
  have hliI : ¬ ((I.length : Int) = 0) := by omega
  have c5 := (cells7 bW).2.2.2.2.2.1
  have c6 := (cells7 bW).2.2.2.2.2.2
  have HUD : Hid (Up W W.drew) := hide (up_drew W)
  clear KT KM hcu hEq hln hrl k1 k2 k3 hbr hc2 hI0 hrbw
  have HUW := hide uW
  have HBW := hide bW
  have HW := hide hW
  clear hT hMany uW bW hW hI hR hM hbk htl hb
  go_enter Try.func25, Try.ntmps25
  go_wp2_with fail
  rw [← HW.out]
  go_region_held3 (fun w' => Hid (Up W w') ∧ w'.cell? ⟨w.heap.size, 5, none⟩ = some (.slice aoi I.length capi) ∧ w'.cell? ⟨w.heap.size, 6, none⟩ = some (.slice (some ⟨rb, ro, none⟩) (R'.length + 1) capr) ∧ w'.cell? ⟨rb, ro, none⟩ = some (.int .i64 kk) ∧ w'.cell? ⟨rb, ro + 1, none⟩ = some (.int .i64 kn) ∧ w'.cell? ⟨rb, ro + 2, none⟩ = some (.bool kb) ∧ w'.cell? ⟨rb, ro + 3, none⟩ = some (.slice x1 x2 x3) ∧ w'.cell? ⟨rb, ro + 4, none⟩ = some (.string kt) ∧ w'.cell? ⟨rb, ro + 5, none⟩ = some (.slice y1 y2 y3) ∧ w'.cell? ⟨rb, ro + 6, none⟩ = some (.slice z1 z2 z3)) (first | (refine ⟨?_, ?_, ?_, ?_, ?_, ?_, ?_, ?_, ?_, ?_⟩ <;> assumption) | go_keep)
    (first
      | (go_at_call 45; refine (HM.out _ ?hu).mono ?_; (case hu => exact Hid.out (by assumption)); rintro e wa ⟨rfl, ua⟩; have HUa : Hid (Up W wa) := hide (Up.tr (Hid.out (by assumption)) ua); have bxa := cells7 (Up.old HUa.out HBW.out); have n5 := bxa.2.2.2.2.2.1; have n6 := bxa.2.2.2.2.2.2; clear bxa; obtain ⟨e0, e1, e2, e3, e4, e5, e6⟩ := HCU.out _ HUa.out; clear ua)
      | (go_at_call 25; refine (HT.out _ ?hu).mono ?_; (case hu => exact Hid.out (by assumption)); rintro e wb ⟨rfl, ub⟩; have HUb : Hid (Up W wb) := hide (Up.tr (Hid.out (by assumption)) ub); have bxb := cells7 (Up.old HUb.out HBW.out); have n5 := bxb.2.2.2.2.2.1; have n6 := bxb.2.2.2.2.2.2; clear bxb; obtain ⟨e0, e1, e2, e3, e4, e5, e6⟩ := HCU.out _ HUb.out; clear ub))
  all_goals (go_wp2; go_ret; first | exact ⟨congrArg (fun x => Ending.returned (Value.string x)) HEq.out, HUW.out.tr HUa.out⟩ | exact ⟨congrArg (fun x => Ending.returned (Value.string x)) HEq.out, HUW.out.tr HUb.out⟩)

theorem its_takeB {α : Type} (f : α → List UInt8) (l : List α) {k : Nat} (hk : k < l.length) : its f [32] (l.take (k + 1)) = its f [32] (l.take k) ++ [32] ++ f l[k] := by
  rw [List.take_succ_eq_append_getElem hk, its_snocB]

theorem its_lenB {w : World} {h : Nat} {I : List (Tr h)} {v : Value} (hr : RowD w (DatC w h) v I) (sh : Bool) (k : Nat) : (its (wr h sh) [32] (I.take k)).length ≤ 60 * (I.map (bk h)).sum + 1 := by
  have key : ∀ a ∈ I, (wr h sh a).length + 1 ≤ 60 * bk h a := fun a ha => by
    obtain ⟨i, hi, rfl⟩ := List.getElem_of_mem ha
    obtain ⟨ao, cap, rfl⟩ := hr.shape
    obtain ⟨-, b, off, -, cs, -, -, hc⟩ := hr.get hi
    exact wr_le h sh _ w cs hc
  have keyI : ∀ (l : List (Tr h)) (g : List UInt8), (∀ a ∈ l, (wr h sh a).length + 1 ≤ 60 * bk h a) → (its (wr h sh) g l).length ≤ g.length + 60 * (l.map (bk h)).sum := fun l => by
    induction l with
    | nil => intro g _; simp [its]
    | cons a l ih =>
      intro g hg
      have h1 := ih [32] (fun x hx => hg x (by simp [hx]))
      have h2 := hg a (by simp)
      simp only [its, List.length_append, List.map_cons, List.sum_cons, List.length_singleton] at *
      omega
  have h1 := keyI (I.take k) [32] (fun a ha => key a (List.mem_of_mem_take ha))
  have h2 : (I.map (bk h)).sum = ((I.take k).map (bk h)).sum + ((I.drop k).map (bk h)).sum := by
    rw [← List.sum_append, ← List.map_append, List.take_append_drop]
  rw [List.length_singleton] at h1
  omega

theorem cat_arr (t : ByteArray) (a : List UInt8) : (⟨a.toArray⟩ : ByteArray) ++ t = ⟨(a ++ t.data.toList).toArray⟩ := by
  apply ByteArray.ext
  simp [ByteArray.data_append]

set_option maxHeartbeats 8000000 in
set_option maxRecDepth 100000 in
theorem rt_cond {h : Nat} (hT : RTextOK h) (sh : Bool) (n : Int) (b : Bool) (L : List Nat) (t : ByteArray) (I R : List (Tr h)) (um ui ur : Value) (w : World) (hb : bk (h + 1) (10, n, b, L, t, I, R) ≤ 10000000)
    (hM : Sl .u32 w um L.length (fun i => L.getD i 0)) (hI : RowD w (DatC w h) ui I) (hR : RowD w (DatC w h) ur R) :
    Calls Try.prog 25 #[.agg #[.int .i64 10, .int .i64 n, .bool b, um, .string t, ui, ur], .bool sh] w fun e w' => e = .returned (.string ⟨(wr (h + 1) sh (10, n, b, L, t, I, R)).toArray⟩) ∧ Up w w' := by
  obtain ⟨aom, capm, rfl, -⟩ := id hM
  obtain ⟨aoi, capi, rfl⟩ := hI.shape
  obtain ⟨aor, capr, rfl⟩ := hR.shape
  have hbk : t.size ≤ 10000000 ∧ (I.map (bk h)).sum ≤ 10000000 := by simp only [bk] at hb; omega
  have htl := bytes_len t
  obtain ⟨W, hW⟩ : ∃ W, W = w.alloc (.cells #[.int .i64 10, .int .i64 n, .bool b, .slice aom L.length capm, .string t, .slice aoi I.length capi, .slice aor R.length capr] 35) := ⟨_, rfl⟩
  have uW : Up w W := by rw [hW]; exact up_alloc w _
  have bW : W.heap[w.heap.size]? = some (.cells #[.int .i64 10, .int .i64 n, .bool b, .slice aom L.length capm, .string t, .slice aoi I.length capi, .slice aor R.length capr] 35 (0, 0)) := by rw [hW]; exact heap_alloc_new w _
  obtain ⟨P, hP⟩ : ∃ P : List UInt8, P = [35, 60, 99, 111, 110, 100, 105, 116, 105, 111, 110, 32] ++ t.data.toList := ⟨_, rfl⟩
  have hPl : P.length ≤ 10000012 := by rw [hP, List.length_append, bytes_len]; simp; omega
  have e : wr (h + 1) sh (10, n, b, L, t, I, R) = P ++ its (wr h false) [32] I ++ [62] := by rw [hP]; simp [wr]
  rw [e]
  clear e
  have eP : (⟨#[35, 60, 99, 111, 110, 100, 105, 116, 105, 111, 110, 32]⟩ : ByteArray) ++ t = ⟨P.toArray⟩ := by rw [hP]; exact cat_arr t [35, 60, 99, 111, 110, 100, 105, 116, 105, 111, 110, 32]
  have hlen := fun k => its_lenB hI false k
  have hI1 := hI.upD uW
  have KT := fun (V : World) (u : Up W V) (i : Nat) (hi : i < I.length) (d0 d1 d2 d3 d4 d5 d6 : Value) (hd : DatC V h I[i] [d0, d1, d2, d3, d4, d5, d6]) => hT false I[i] d0 d1 d2 d3 d4 d5 d6 V hd (Nat.le_trans (mem_sum hi) hbk.2)
  have hIl : I.length ≤ 10000000 := Nat.le_trans (sum_ge (m := bk h) (l := I) (fun a _ => bk_one h a)) hbk.2
  generalize hF : wr h false = F at *
  clear hF
  have HI := hide hI1
  have HT := hide KT
  have HLN := hide (And.intro hlen hbk.2)
  have HUW := hide uW
  have HBW := hide bW
  have HW := hide hW
  have HEP := hide eP
  have zt : ¬ 9223372036854775807 < 12 + t.size := by omega
  clear KT hlen hI hI1 hR hM hT hb uW bW hW hbk htl hP eP
  go_enter Try.func25, Try.ntmps25
  go_wp2_with fail
  rw [← HW.out, HEP.out]
  clear zt
  go_loopw [5, 6] (fun a5 a6 w' => ∃ k : Nat, k ≤ I.length ∧ a6 = .int .i64 (k : Int) ∧ a5 = .string ⟨(P ++ its F [32] (I.take k)).toArray⟩ ∧ Up W w') (fun _ a6 _ => I.length - (intOf a6).toNat)
  case atStart => exact ⟨0, Nat.zero_le _, rfl, by simp [its], Up.refl _⟩
  case round =>
    obtain ⟨k, hk, rfl, rfl, hU⟩ := hrel
    have c5 := (cells7 (Up.old hU HBW.out)).2.2.2.2.2.1
    have HU := hide hU
    by_cases hlt : k < I.length
    · obtain ⟨ib, off, rfl, ik, im, ibb, jum, it, jui, jur, hdat, ⟨p1, p2, p3, rfl⟩, ⟨q1, q2, q3, rfl⟩, ⟨s1, s2, s3, rfl⟩, e0, e1, e2, e3, e4, e5, e6⟩ := row_cells HI.out hU hlt
      have K1 := HT.out wr hU k hlt _ _ _ _ _ _ _ (hdat.up hU)
      have hl1 := HLN.out.1 k
      have hl2 := HLN.out.1 (k + 1)
      have hbb := HLN.out.2
      have eT := its_takeB F I hlt
      have hkI : (k : Int) < (I.length : Int) := by omega
      obtain ⟨S, hS⟩ : ∃ S, S = P ++ its F [32] (I.take k) := ⟨_, rfl⟩
      obtain ⟨T, hTT⟩ : ∃ T, T = F I[k] := ⟨_, rfl⟩
      have l1 : S.length ≤ 700000000 := by rw [hS, List.length_append]; omega
      have l2 : T.length ≤ 700000000 := by rw [eT] at hl2; simp at hl2; rw [hTT]; omega
      have e7 : ((⟨S.toArray⟩ : ByteArray) ++ ⟨#[32]⟩) ++ ⟨T.toArray⟩ = ⟨(P ++ its F [32] (I.take (k + 1))).toArray⟩ := by
        have a1 := cat_bytes S [32]
        have a2 := cat_bytes (S ++ [32]) T
        rw [show (⟨#[32]⟩ : ByteArray) = ⟨([32] : List UInt8).toArray⟩ from rfl, a1, a2, eT, hS, hTT]
        simp
      rw [← hTT] at K1
      rw [← hS]
      have zS := size_arr S
      have zT := size_arr T
      have sz2 : ((⟨S.toArray⟩ : ByteArray) ++ ⟨#[32]⟩).size = S.length + 1 := by rw [ByteArray.size_append, zS]; rfl
      have HK1 := hide K1
      have HE := hide e7
      clear K1 hdat hU hS hTT hl1 hl2 hbb eT e7
      go_wp2_with (go_at_call 25; refine HK1.out.mono ?_; rintro e w3 ⟨rfl, u3⟩)
      refine ⟨⟨k + 1, by omega, by go_num, by rw [HE.out], HU.out.tr u3⟩, ?_⟩
      simp [intOf]
      omega
    · have hkK : k = I.length := by omega
      subst hkK
      have hl1 := HLN.out.1 I.length
      have hbb := HLN.out.2
      rw [List.take_length] at hl1 ⊢
      have hkI : ¬ ((I.length : Int) < (I.length : Int)) := by omega
      obtain ⟨S, hS⟩ : ∃ S, S = P ++ its F [32] I := ⟨_, rfl⟩
      have l1 : S.length ≤ 700000000 := by rw [hS, List.length_append]; omega
      rw [← hS]
      have zS := size_arr S
      have e7 : (⟨S.toArray⟩ : ByteArray) ++ ⟨#[62]⟩ = ⟨(P ++ (its F [32] I ++ [62])).toArray⟩ := by
        have a1 := cat_bytes S [62]
        rw [show (⟨#[62]⟩ : ByteArray) = ⟨([62] : List UInt8).toArray⟩ from rfl, a1, hS]
        simp
      have HE := hide e7
      clear hU hS hl1 hbb e7
      go_wp2
      go_ret
      exact ⟨congrArg (fun x => Ending.returned (Value.string x)) HE.out, HUW.out.tr HU.out⟩

theorem rtext_of {h : Nat} (hT : RTextOK h) : RTextOK (h + 1) := by
  rintro sh ⟨k, n, b, L, t, I, R⟩ c0 c1 c2 c3 c4 c5 c6 w hd hb
  obtain ⟨um, ui, ur, e, hn, hM, hL, hI, hR⟩ := hd
  simp at e
  obtain ⟨rfl, rfl, rfl, rfl, rfl, rfl, rfl⟩ := e
  have hMany := many_of hT
  by_cases k1 : k = 1
  · subst k1; exact rt_int hT hMany sh n b L t I R _ _ _ w hb hn hM hL hI hR
  by_cases k2 : k = 2
  · subst k2
    by_cases n1 : n = 1
    · exact rt_bool1 hT hMany sh n b L t I R _ _ _ w hb hn hM hL hI hR n1
    · exact rt_bool0 hT hMany sh n b L t I R _ _ _ w hb hn hM hL hI hR n1
  by_cases k3 : k = 3
  · subst k3
    cases sh
    · exact rt_charW hT hMany n b L t I R _ _ _ w hb hn hM hL hI hR
    · exact rt_charS hT hMany n b L t I R _ _ _ w hb hn hM hL hI hR
  by_cases k4 : k = 4
  · subst k4
    cases sh
    · exact rt_textW hT hMany n b L t I R _ _ _ w hb hn hM hL hI hR
    · exact rt_textS hT hMany n b L t I R _ _ _ w hb hn hM hL hI hR
  by_cases k5 : k = 5
  · subst k5; exact rt_sym hT hMany sh n b L t I R _ _ _ w hb hn hM hL hI hR
  by_cases k6 : k = 6
  · subst k6
    cases hRR : R with
    | nil => subst hRR; exact rt_list hT hMany sh n b L t I [] _ _ _ w hb hn hM hL hI hR rfl
    | cons r R' =>
      subst hRR
      cases hII : I with
      | nil => subst hII; exact rt_listR hT hMany sh n b L t [] (r :: R') _ _ _ w hb hM hI hR rfl ⟨r, R', rfl⟩
      | cons i I' => subst hII; exact rt_listD hT hMany sh n b L t (i :: I') (r :: R') _ _ _ w hb hM hI hR (by simp) ⟨r, R', rfl⟩
  by_cases k7 : k = 7
  · subst k7; exact rt_vec hT hMany sh n b L t I R _ _ _ w hb hn hM hL hI hR
  by_cases k9 : k = 9
  · subst k9; exact rt_proc hT hMany sh n b L t I R _ _ _ w hb hn hM hL hI hR
  by_cases k10 : k = 10
  · subst k10; exact rt_cond hT sh n b L t I R _ _ _ w hb hM hI hR
  · exact rt_void hT hMany sh k k1 k2 k3 k4 k5 k6 k7 k9 k10 n b L t I R _ _ _ w hb hn hM hL hI hR

theorem rtext_all : (h : Nat) → RTextOK h
  | 0 => fun _ d => (show Empty from d).elim
  | h + 1 => rtext_of (rtext_all h)

end Go.Proofs.Yteipogfolnlblaa
