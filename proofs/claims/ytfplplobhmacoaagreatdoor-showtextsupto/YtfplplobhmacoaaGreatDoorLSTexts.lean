/-
  What is proved here: tandemlaw06.ShowTexts.
-/
import Derived.Test.YtfplplobhmacoaaGreatDoorRQ
import Derived.Deep.RegionWith
import Derived.Deep.Cut
namespace Go.Proofs.YtfplplobhmacoaaGreatDoor
open Go Go.RowKit

theorem data_back (s : ByteArray) : (⟨s.data.toList.toArray⟩ : ByteArray) = s := by simp

set_option maxHeartbeats 16000000 in
set_option maxRecDepth 100000 in
theorem showTexts_any (w : World) (s : ByteArray) (b : UInt8) (htab : Tab w) (hs : s.size ≤ 1048576) :
    Calls Tryz.prog 4 #[.string s, .int .u8 (b.toNat : Int)] w fun e w' => e = .returned (.bool true) ∧ Up w w' := by
  obtain ⟨n, hn⟩ : ∃ n, n = b.toNat := ⟨_, rfl⟩
  have hn256 : n < 256 := by rw [hn]; exact b.toNat_lt
  have hnb : (n : Int) % 256 = n := by omega
  have hbn : ((n : Int) % 256).toNat.toUInt8 = b := by rw [hnb, hn]; simp
  obtain ⟨T, hT⟩ : ∃ T : List UInt8, T = 34 :: (tsW s.data.toList ++ [34]) := ⟨_, rfl⟩
  obtain ⟨C, hC⟩ : ∃ C : List UInt8, C = 35 :: 92 :: chW (n : Int) := ⟨_, rfl⟩
  have dW : wr 1 false (4, 0, false, [], s, [], []) = T := by rw [hT]; simp [wr]
  have dS : wr 1 true (4, 0, false, [], s, [], []) = s.data.toList := by simp [wr]
  have xW : wr 1 false (3, (n : Int), false, [], ⟨#[]⟩, [], []) = C := by rw [hC]; simp [wr]
  have xS : wr 1 true (3, (n : Int), false, [], ⟨#[]⟩, [], []) = [b] := by simp only [wr, hbn]; simp
  have hd := fun (W : World) => leafD W 0 4 0 s (by decide)
  have hx := fun (W : World) => leafD W 0 3 (n : Int) ⟨#[]⟩ (by omega)
  have hbd : bk 1 (4, 0, false, [], s, [], []) ≤ 10000000 := by simp [bk]; omega
  have hbx : bk 1 (3, (n : Int), false, [], ⟨#[]⟩, [], []) ≤ 10000000 := by have : (⟨#[]⟩ : ByteArray).size = 0 := rfl; simp [bk, this]
  have zT : (⟨T.toArray⟩ : ByteArray).size = T.length := rfl
  have zC : (⟨C.toArray⟩ : ByteArray).size = C.length := rfl
  obtain ⟨W1, hW1⟩ : ∃ W1, W1 = w.alloc (.cells #[.int .i64 4, .int .i64 0, .bool false, .slice none 0 0, .string s, .slice none 0 0, .slice none 0 0] 32) := ⟨_, rfl⟩
  have u1 : Up w W1 := by rw [hW1]; exact up_alloc _ _
  have z1 : W1.heap.size = w.heap.size + 1 := by rw [hW1]; exact World.size_alloc _ _
  have g1 : W1.heap[w.heap.size]? = some (.cells #[.int .i64 4, .int .i64 0, .bool false, .slice none 0 0, .string s, .slice none 0 0, .slice none 0 0] 32 (0, 0)) := by rw [hW1]; exact heap_alloc_new _ _
  obtain ⟨W2, hW2⟩ : ∃ W2, W2 = W1.alloc (.cells #[.int .i64 3, .int .i64 n, .bool false, .slice none 0 0, .string ⟨#[]⟩, .slice none 0 0, .slice none 0 0] 32) := ⟨_, rfl⟩
  have u2 : Up W1 W2 := by rw [hW2]; exact up_alloc _ _
  have g2 : W2.heap[w.heap.size + 1]? = some (.cells #[.int .i64 3, .int .i64 n, .bool false, .slice none 0 0, .string ⟨#[]⟩, .slice none 0 0, .slice none 0 0] 32 (0, 0)) := by rw [hW2, ← z1]; exact heap_alloc_new _ _
  have g1' := u2.old g1
  have uB := u1.tr u2
  have K1 := fun (W : World) (u : Up W2 W) => display_any W 1 (4, 0, false, [], s, [], []) _ _ _ _ _ _ _ (htab.up (uB.tr u)) hbd (hd W)
  have K2 := fun (W : World) (u : Up W2 W) => display_any W 1 (3, (n : Int), false, [], ⟨#[]⟩, [], []) _ _ _ _ _ _ _ (htab.up (uB.tr u)) hbx (hx W)
  have K3 := fun (W : World) (u : Up W2 W) => write_any W 1 (4, 0, false, [], s, [], []) _ _ _ _ _ _ _ (htab.up (uB.tr u)) hbd (hd W)
  have K4 := fun (W : World) (u : Up W2 W) => write_any W 1 (3, (n : Int), false, [], ⟨#[]⟩, [], []) _ _ _ _ _ _ _ (htab.up (uB.tr u)) hbx (hx W)
  rw [dS, data_back] at K1
  rw [xS] at K2
  rw [dW] at K3
  rw [xW] at K4
  have K5 := fun (W : World) (hL : T.length ≤ 65536) => one_text ⟨T.toArray⟩ s.data.toList W (by rw [zT]; exact hL) (by rw [hT])
  rw [zT] at K5
  simp only [data_back] at K5
  have K6 := fun (W : World) => one_char ⟨C.toArray⟩ n W hn256 (by rw [hC]) (chW_tok n hn256)
  rw [zC] at K6
  have K7 := fun (W : World) (u : Up W2 W) => awake_any W (htab.up (uB.tr u))
  have KV : ∀ (W : World), (convert 37 9 (.slice (some ⟨W.heap.size, 0, none⟩) 1 1)).run Tryz.prog (W.alloc (.cells #[.int .u8 (n : Int)] 5)) = .ok (.string ⟨#[b]⟩) (W.alloc (.cells #[.int .u8 (n : Int)] 5)) := fun W => by
    have := conv_new W [b] 1
    simpa [Lib.byteCells, hn] using this
  have KU : ∀ (W V : World), Up (W.alloc (.cells #[.int .u8 (n : Int)] 5)) V → (convert 37 9 (.slice (some ⟨W.heap.size, 0, none⟩) 1 1)).run Tryz.prog V = .ok (.string ⟨#[b]⟩) V := fun W V u => by
    have h := u.old (heap_alloc_new W (.cells #[.int .u8 (n : Int)] 5))
    have := conv_at V W.heap.size [b] 1 (f := (0, 0)) (by rw [h]; simp [Lib.byteCells, hn])
    simpa using this
  rw [← hn]
  have HW := hide (show W2 = (w.alloc (.cells #[.int .i64 4, .int .i64 0, .bool false, .slice none 0 0, .string s, .slice none 0 0, .slice none 0 0] 32)).alloc (.cells #[.int .i64 3, .int .i64 n, .bool false, .slice none 0 0, .string ⟨#[]⟩, .slice none 0 0, .slice none 0 0] 32) from by rw [hW2, hW1])
  have H1 := hide K1
  have H2 := hide K2
  have H3 := hide K3
  have H4 := hide K4
  have H5 := hide K5
  have H6 := hide K6
  have H7 := hide K7
  have HV := hide KV
  have HVU := hide KU
  have HBD := hide g1'
  have HBX := hide g2
  have HUB := hide uB
  have HU : Hid (Up W2 W2) := hide (Up.refl W2)
  obtain ⟨m0, m1, m2, m3, m4, m5, m6⟩ := cells7 g1'
  obtain ⟨x0, x1, x2, x3, x4, x5, x6⟩ := cells7 g2
  have hTl : T.length ≤ 100000000 := by rw [hT]; have := tsW_le s.data.toList; rw [bytes_len] at this; simp; omega
  have hCl : C.length ≤ 10 := by rw [hC]; have := chW_le (n : Int); simp; omega
  clear K1 K2 K3 K4 K5 K6 K7 KV KU g1 g2 g1' u1 u2 uB z1 hW1 hW2 hT hC dW dS xW xS hd hx hbd hbx htab hbn hn
  clear W1
  go_enter Tryz.func4, Tryz.ntmps4
  go_wp2_with fail
  rw [← HW.out]
  have HD : Hid (Up W2 W2.drew) := hide (up_drew W2)
  go_cut [31] from 20 (fun s31 wc => s31 = .bool false ∧ Hid (Up W2 wc))
  case first =>
    go_region_with
      (first
        | (go_at_call_of 10 s; refine (H1.out _ (Hid.out (by assumption))).mono ?_; rintro e wa ⟨rfl, ua⟩; have HUa : Hid (Up W2 wa) := hide (Up.tr (Hid.out (by assumption)) ua); have HUb : Hid (Up W2 (wa.alloc (.cells #[.int .u8 (n : Int)] 5))) := hide (HUa.out.tr (up_alloc _ _)); clear ua; obtain ⟨m0, m1, m2, m3, m4, m5, m6⟩ := cells7 (HUa.out.old HBD.out); obtain ⟨x0, x1, x2, x3, x4, x5, x6⟩ := cells7 (HUa.out.old HBX.out); obtain ⟨p0, p1, p2, p3, p4, p5, p6⟩ := cells7 (HUb.out.old HBD.out); obtain ⟨q0, q1, q2, q3, q4, q5, q6⟩ := cells7 (HUb.out.old HBX.out); have kv := HV.out wa)
        | (go_at_call_of 10 n; refine (H2.out _ (Hid.out (by assumption))).mono ?_; rintro e wb ⟨rfl, ub⟩; have HUc : Hid (Up W2 wb) := hide (Up.tr (Hid.out (by assumption)) ub); have HUd : Hid (Up W2 (wb.alloc (.cells #[.int .u8 (n : Int)] 5))) := hide (HUc.out.tr (up_alloc _ _)); (first | (have kv := HVU.out _ _ ub; clear ub) | (have kv := HV.out wb; clear ub)); obtain ⟨m0, m1, m2, m3, m4, m5, m6⟩ := cells7 (HUc.out.old HBD.out); obtain ⟨x0, x1, x2, x3, x4, x5, x6⟩ := cells7 (HUc.out.old HBX.out); obtain ⟨p0, p1, p2, p3, p4, p5, p6⟩ := cells7 (HUd.out.old HBD.out); obtain ⟨q0, q1, q2, q3, q4, q5, q6⟩ := cells7 (HUd.out.old HBX.out)))
    all_goals (go_wp2_with fail; go_meet; exact ⟨rfl, by assumption⟩)
  case rest =>
    obtain ⟨rfl, HU⟩ := hcut
    clear m0 m1 m2 m3 m4 m5 m6 x0 x1 x2 x3 x4 x5 x6
    obtain ⟨m0, m1, m2, m3, m4, m5, m6⟩ := cells7 (HU.out.old HBD.out)
    obtain ⟨x0, x1, x2, x3, x4, x5, x6⟩ := cells7 (HU.out.old HBX.out)
    have hCI : (C.length : Int) ≤ 10 := by omega
    by_cases hL : T.length ≤ 65536
    · have hLI : (T.length : Int) ≤ 65536 := by omega
      go_wp2_with (first
        | (go_at_call_of 7 s; refine (H3.out _ HU.out).mono ?_; rintro e wa ⟨rfl, ua⟩; have HU := hide (Up.tr HU.out ua); clear ua m0 m1 m2 m3 m4 m5 m6 x0 x1 x2 x3 x4 x5 x6; obtain ⟨m0, m1, m2, m3, m4, m5, m6⟩ := cells7 (HU.out.old HBD.out); obtain ⟨x0, x1, x2, x3, x4, x5, x6⟩ := cells7 (HU.out.old HBX.out))
        | (go_at_call_of 7 n; refine (H4.out _ HU.out).mono ?_; rintro e wa ⟨rfl, ua⟩; have HU := hide (Up.tr HU.out ua); clear ua m0 m1 m2 m3 m4 m5 m6 x0 x1 x2 x3 x4 x5 x6; obtain ⟨m0, m1, m2, m3, m4, m5, m6⟩ := cells7 (HU.out.old HBD.out); obtain ⟨x0, x1, x2, x3, x4, x5, x6⟩ := cells7 (HU.out.old HBX.out))
        | (go_at_call_of 8 T; refine (H5.out _ hL).mono ?_; rintro e wb ⟨rfl, ub⟩; have ub := ub.tr (up_alloc wb (.cells #[.int .i64 4, .int .i64 0, .bool false, .slice none 0 0, .string s, .slice none 0 0, .slice none 0 0] 32)); have HU := hide (Up.tr HU.out ub); clear ub m0 m1 m2 m3 m4 m5 m6 x0 x1 x2 x3 x4 x5 x6; obtain ⟨m0, m1, m2, m3, m4, m5, m6⟩ := cells7 (HU.out.old HBD.out); obtain ⟨x0, x1, x2, x3, x4, x5, x6⟩ := cells7 (HU.out.old HBX.out))
        | (go_at_call_of 8 C; refine (H6.out _).mono ?_; rintro e wb ⟨rfl, ub⟩; have ub := ub.tr (up_alloc wb (.cells #[.int .i64 3, .int .i64 n, .bool false, .slice none 0 0, .string ⟨#[]⟩, .slice none 0 0, .slice none 0 0] 32)); have HU := hide (Up.tr HU.out ub); clear ub m0 m1 m2 m3 m4 m5 m6 x0 x1 x2 x3 x4 x5 x6; obtain ⟨m0, m1, m2, m3, m4, m5, m6⟩ := cells7 (HU.out.old HBD.out); obtain ⟨x0, x1, x2, x3, x4, x5, x6⟩ := cells7 (HU.out.old HBX.out))
        | (go_at_call 9; refine (same_leaf _ _ _ _).mono ?_; rintro e wa ⟨rfl, ua⟩; have HU := hide (Up.tr HU.out ua); clear ua m0 m1 m2 m3 m4 m5 m6 x0 x1 x2 x3 x4 x5 x6; obtain ⟨m0, m1, m2, m3, m4, m5, m6⟩ := cells7 (HU.out.old HBD.out); obtain ⟨x0, x1, x2, x3, x4, x5, x6⟩ := cells7 (HU.out.old HBX.out))
        | (go_at_call 6; refine (H7.out _ HU.out).mono ?_; rintro e wa ⟨rfl, ua⟩; have HU := hide (Up.tr HU.out ua); clear ua m0 m1 m2 m3 m4 m5 m6 x0 x1 x2 x3 x4 x5 x6; obtain ⟨m0, m1, m2, m3, m4, m5, m6⟩ := cells7 (HU.out.old HBD.out); obtain ⟨x0, x1, x2, x3, x4, x5, x6⟩ := cells7 (HU.out.old HBX.out)))
      go_ret
      exact ⟨rfl, HUB.out.tr HU.out⟩
    · have hLI : ¬ ((T.length : Int) ≤ 65536) := by omega
      go_wp2_with (first
        | (go_at_call_of 7 s; refine (H3.out _ HU.out).mono ?_; rintro e wa ⟨rfl, ua⟩; have HU := hide (Up.tr HU.out ua); clear ua m0 m1 m2 m3 m4 m5 m6 x0 x1 x2 x3 x4 x5 x6; obtain ⟨m0, m1, m2, m3, m4, m5, m6⟩ := cells7 (HU.out.old HBD.out); obtain ⟨x0, x1, x2, x3, x4, x5, x6⟩ := cells7 (HU.out.old HBX.out))
        | (go_at_call_of 7 n; refine (H4.out _ HU.out).mono ?_; rintro e wa ⟨rfl, ua⟩; have HU := hide (Up.tr HU.out ua); clear ua m0 m1 m2 m3 m4 m5 m6 x0 x1 x2 x3 x4 x5 x6; obtain ⟨m0, m1, m2, m3, m4, m5, m6⟩ := cells7 (HU.out.old HBD.out); obtain ⟨x0, x1, x2, x3, x4, x5, x6⟩ := cells7 (HU.out.old HBX.out))
        | (go_at_call_of 8 C; refine (H6.out _).mono ?_; rintro e wb ⟨rfl, ub⟩; have ub := ub.tr (up_alloc wb (.cells #[.int .i64 3, .int .i64 n, .bool false, .slice none 0 0, .string ⟨#[]⟩, .slice none 0 0, .slice none 0 0] 32)); have HU := hide (Up.tr HU.out ub); clear ub m0 m1 m2 m3 m4 m5 m6 x0 x1 x2 x3 x4 x5 x6; obtain ⟨m0, m1, m2, m3, m4, m5, m6⟩ := cells7 (HU.out.old HBD.out); obtain ⟨x0, x1, x2, x3, x4, x5, x6⟩ := cells7 (HU.out.old HBX.out))
        | (go_at_call 9; refine (same_leaf _ _ _ _).mono ?_; rintro e wa ⟨rfl, ua⟩; have HU := hide (Up.tr HU.out ua); clear ua m0 m1 m2 m3 m4 m5 m6 x0 x1 x2 x3 x4 x5 x6; obtain ⟨m0, m1, m2, m3, m4, m5, m6⟩ := cells7 (HU.out.old HBD.out); obtain ⟨x0, x1, x2, x3, x4, x5, x6⟩ := cells7 (HU.out.old HBX.out))
        | (go_at_call 6; refine (H7.out _ HU.out).mono ?_; rintro e wa ⟨rfl, ua⟩; have HU := hide (Up.tr HU.out ua); clear ua m0 m1 m2 m3 m4 m5 m6 x0 x1 x2 x3 x4 x5 x6; obtain ⟨m0, m1, m2, m3, m4, m5, m6⟩ := cells7 (HU.out.old HBD.out); obtain ⟨x0, x1, x2, x3, x4, x5, x6⟩ := cells7 (HU.out.old HBX.out)))
      go_ret
      exact ⟨rfl, HUB.out.tr HU.out⟩


end Go.Proofs.YtfplplobhmacoaaGreatDoor
