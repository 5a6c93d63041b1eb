/- LeaderSlots: no slot is proposed twice under one ballot; a value is chosen once, by a majority. -/
import Derived.Test.YtfnecjogiafekaaSlots15
import Derived.Deep.QuietTactic
import Derived.BigQuiet
namespace Go.Proofs.Ytfnecjogiafekaa
set_option maxRecDepth 1000000
open Go.RowKit
set_option linter.unusedVariables false
set_option linter.unusedSimpArgs false
theorem infoBoolS : (Try.prog.info? 4).map (fun i => (i.zero, i.size, i.bytes)) = some (some (.bool false), 1, 1) := by kernel_rfl
theorem infoU8S : (Try.prog.info? 5).map (fun i => (i.zero, i.size, i.bytes)) = some (some (.int .u8 0), 1, 1) := by kernel_rfl
theorem ne_of_beq_false {a b : Bool} (h : (a == b) = false) : (a != b) = true := by rw [bne, h]; rfl
/-- What lies where the votes' loop stands. -/
structure SlI (w1 wr : World) (g gW gD n m : Nat) (l : List Row) (D : Nat → Bool) (Wh : Nat → List Nat) (B : Nat → Nat) : Prop where
  lds : LdS w1 wr (fun k => k = gW ∨ k = gD) g (slC n l D Wh m) 40000
  who : Blk wr gW 5 (rowF (fun k => .int .u8 (B k : Int)) m)
  done : Blk wr gD 4 (rowF (fun k => .bool (D k)) m)
  bits : ∀ k, k < m → isBits n (B k) (Wh k)
  lo1 : w1.heap.size ≤ gW
  lo2 : w1.heap.size ≤ gD
set_option maxHeartbeats 6400000 in
theorem leaderSlots_walk (w : World) {mi : Int} (wm : (Lit.int .u8 mi).wf = true) {A1 : Option Addr} {c1 m : Nat} {l : List Row} (hn1 : l.length = m) (hs1 : Sl w A1 c1 (l.map Row.val)) (hr1 : ∀ r ∈ l, r.ok w) {A : Option Addr} {c q : Nat} {ys : List UInt8} (hn : ys.length = q) (hs : Sl w A c (bts ys)) :
    Calls Try.prog 5 #[.int .u8 mi, .slice A1 m c1, .slice A q c] w fun e w' => e = .returned (.bool true) ∧ Mods Nil w w' := by
  obtain ⟨i0, hi0, hz0, hz1, hz2⟩ := info_parts infoBoolS
  obtain ⟨i1, hi1, hz11, hz12, hz13⟩ := info_parts infoU8S
  have hm0 := u8_of_wf wm
  obtain ⟨mb, rfl⟩ : ∃ s : Nat, mi = (s : Int) := ⟨mi.toNat, by omega⟩
  obtain ⟨n, hnn⟩ : ∃ n, mb % 5 + 1 = n := ⟨_, rfl⟩
  have hrem : (mb : Int).tmod 5 = ((n - 1 : Nat) : Int) := by rw [Int.tmod_eq_emod_of_nonneg (by omega)]; omega
  have hwr : IntKind.u8.wrap ((n - 1 : Nat) : Int) = ((n - 1 : Nat) : Int) := by rw [IntKind.wrap_u8']; omega
  have hwn : IntKind.i64.wrap ((n - 1 : Nat) : Int) = ((n - 1 : Nat) : Int) := by rw [IntKind.wrap_i64]; omega
  have hwn1 : IntKind.i64.wrap (((n - 1 : Nat) : Int) + 1) = (n : Int) := by rw [IntKind.wrap_i64]; omega
  have hn1' : 1 ≤ n := by omega
  have hn5 : n ≤ 5 := by omega
  have HN1 := Lib.hid hn1
  have HS1 := Lib.hid hs1
  have HR1 := Lib.hid hr1
  have HN := Lib.hid hn
  have HS := Lib.hid hs
  clear wm hm0 hnn hn1 hs1 hr1 hn hs
  obtain ⟨n9, hn9⟩ : ∃ n9, n - 1 = n9 := ⟨_, rfl⟩
  rw [hn9] at hrem hwr hwn hwn1
  clear hn9
  have HB1 : Hid (∀ (V W : World) g, LdS V W (fun _ => False) g { many := n } 0 → Calls Try.prog 12 #[.pointer (some ⟨g, 0, none⟩), .int .u64 7, .int .u64 3] W fun e W' => e = .returned (.int .i64 0) ∧ LdS V W' (fun _ => False) g (slA n 0) 0) := Lib.hid (fun V W b h => (h.begin' (x := 7) (f := 3) (by omega) (by omega) (l' := slA n 0) (E := 0) (by unfold slA; rw [if_pos (Nat.zero_le _)]; rfl) rfl).mono fun e W' ⟨h1, h2, _⟩ => ⟨h1, h2⟩)
  by_cases hbig : 20 < m ∨ 100 < q
  · by_cases h20 : 20 < m
    · have h20I : decide ((20 : Int) < (m : Int)) = true := by simp; omega
      have h20N : decide (20 < m) = true := by simp; omega
      clear hbig h20
      go_enter Try.func5, Try.ntmps5
      go_wp2_with (first
        | (go_at_call 9; refine (awake15_any _).mono ?_; rintro e w1 ⟨rfl, m1⟩; have M1 := Lib.hid m1; clear m1))
      go_ret
      exact ⟨rfl, M1.out⟩
    · have h20I : decide ((20 : Int) < (m : Int)) = false := by simp; omega
      have h20N : decide (20 < m) = false := by simp; omega
      have h100I : decide ((100 : Int) < (q : Int)) = true := by simp; omega
      have h100N : decide (100 < q) = true := by simp; omega
      clear hbig h20
      go_enter Try.func5, Try.ntmps5
      go_wp2_with (first
        | (go_at_call 9; refine (awake15_any _).mono ?_; rintro e w1 ⟨rfl, m1⟩; have M1 := Lib.hid m1; clear m1))
      go_ret
      exact ⟨rfl, M1.out⟩
  have hm20 : m ≤ 20 := by omega
  have hq100 : q ≤ 100 := by omega
  have h20I : decide ((20 : Int) < (m : Int)) = false := by simp; omega
  have h20N : decide (20 < m) = false := by simp; omega
  have h100I : decide ((100 : Int) < (q : Int)) = false := by simp; omega
  have h100N : decide (100 < q) = false := by simp; omega
  clear hbig
  go_enter Try.func5, Try.ntmps5
  go_wp2_with (first
    | (go_at_call 12; refine (HB1.out _ _ _ S2.out).mono ?_; rintro e w3 ⟨rfl, s3⟩; have S3 := Lib.hid s3; clear s3 S2)
    | (go_at_call 10; refine (ldr_new _ (many := (n : Int)) (by omega) (by omega)).mono ?_; rintro e w2 ⟨g, rfl, s2⟩; have S2 := Lib.hid s2; clear s2)
    | (go_at_call 9; refine (awake15_any _).mono ?_; rintro e w1 ⟨rfl, m1⟩; have M1 := Lib.hid m1; clear m1))
  go_loopw [11] (fun x wr => ∃ i : Nat, i ≤ n ∧ x = .int .i64 (i : Int) ∧ Hid (LdS w1 wr (fun _ => False) g (slA n i) (5000 * i))) (fun x _ => n - (intOf x).toNat)
  case atStart => exact ⟨0, Nat.zero_le _, rfl, S3⟩
  case round =>
    obtain ⟨i, hi, rfl, HSA⟩ := hrel
    by_cases hin : i < n
    · have hinI : (i : Int) < (n : Int) := by omega
      obtain ⟨r, hr⟩ := slA_next hn1' hin
      have HR := Lib.hid hr
      clear hr
      go_wp2_with (go_at_call 14; refine (HSA.out.promN (by omega) (node := (i : Int)) (x := 7) (by omega) (by omega) (by omega) (PVs.none_ _ (fun _ => False)) (by omega) (fun q hq => by cases hq) HR.out).mono ?_; rintro e w4 ⟨A4, c4, rfl, s4, _⟩; have S4 := Lib.hid s4; clear s4)
      exact ⟨⟨i + 1, by omega, by go_num, by rw [Nat.mul_succ]; exact S4⟩, by simp [intOf]; omega⟩
    · obtain rfl : n = i := by omega
      have SB : Hid (LdS w1 wr (fun _ => False) g (slC n l (fun _ => false) (fun _ => []) 0) 30000) := Lib.hid (by
        rw [← slC_zero hn1' l (fun _ => false) (fun _ => [])]
        exact HSA.out.mono_T (by omega))
      clear HSA
      go_wp2_with fail
      obtain ⟨wb, hwb⟩ : ∃ x, x = wr := ⟨_, rfl⟩
      rw [← hwb] at SB ⊢
      clear hwb
      go_loopw [12] (fun x wr => ∃ i : Nat, i ≤ m ∧ x = .int .i64 (i : Int) ∧ Hid (LdS w1 wr (fun _ => False) g (slC n l (fun _ => false) (fun _ => []) i) (30000 + i))) (fun x _ => m - (intOf x).toNat)
      case atStart => exact ⟨0, Nat.zero_le _, rfl, SB⟩
      case round =>
        obtain ⟨i, hi, rfl, HSA⟩ := hrel
        by_cases him : i < m
        · have himI : (i : Int) < (m : Int) := by omega
          have hil : i < l.length := by rw [HN1.out]; exact him
          obtain ⟨b2, o2, rfl, hb2, hcs⟩ := HS1.out.at_ (by simp; omega)
          have e1 := hcs i _ (by rw [List.getElem?_map, List.getElem?_eq_getElem hil]; rfl)
          have hrow := HR1.out _ (List.getElem_mem hil)
          have hlk := List.getElem?_eq_getElem hil
          generalize l[i] = r at e1 hrow hlk
          have HLK := Lib.hid hlk
          have hnx := slC_next (n := n) l (by omega : i ≤ 1000) hlk
          obtain ⟨si, hsi⟩ : ∃ si, 3 + i = si := ⟨_, rfl⟩
          rw [hsi] at hnx
          have HNX := Lib.hid hnx
          clear hnx
          obtain ⟨B, cb, vv⟩ := r
          simp only [Row.val] at e1
          have hby : Sl w B cb (bts vv) := hrow
          obtain ⟨k, hk⟩ : ∃ k, vv.length = k := ⟨_, rfl⟩
          rw [hk] at e1
          have HE1 : Hid (∀ V, Mods Nil w V → V.cell? ⟨b2, o2 + i, none⟩ = some (.slice B k cb)) := Lib.hid (fun V hV => (World.cell?_of_block (hV.block b2 hb2 (fun h => h))).trans e1)
          clear e1
          have e1 := HE1.out wr (M1.out.trans HSA.out.m)
          have HK := Lib.hid hk
          have HBY := Lib.hid hby
          clear hil hcs hrow hby hk hlk
          by_cases h40 : 40 < k
          · have k1 : decide ((40 : Int) < (k : Int)) = true := by simp; omega
            have k1N : decide (40 < k) = true := by simp; omega
            go_wp2
            go_ret
            exact ⟨rfl, M1.out.trans HSA.out.m⟩
          have k1 : decide ((40 : Int) < (k : Int)) = false := by simp; omega
          have k1N : decide (40 < k) = false := by simp; omega
          have hwi : IntKind.u64.wrap (i : Int) = (i : Int) := by rw [IntKind.wrap_u64]; omega
          have hwi3 : IntKind.u64.wrap ((i : Int) + 3) = (si : Int) := by rw [IntKind.wrap_u64]; omega
          clear hsi
          go_wp2_with (go_at_call 18; refine (HSA.out.propose2 (by omega) (v := vv) (n := k) HK.out (by omega) (HBY.out.mods (M1.out.trans HSA.out.m) (fun _ _ h => h)) HNX.out.1 HNX.out.2.1 HNX.out.2.2).mono ?_; rintro e w4 ⟨A4, n4, c4, he4, ⟨q4, v4, _⟩, s4, _⟩; obtain rfl : k = n4 := (by rw [← q4]; exact HK.out.symm); replace he4 : e = .returned (.tuple #[.agg #[.int .u64 (si : Int), .int .u64 7, .slice A4 k c4], .int .i64 0]) := he4; subst he4; have S4 := Lib.hid (s4.more (Mods.refl _ _) (Y := fun _ => False) (fun _ h => h.elim)); have V4 := Lib.hid v4; clear v4 s4 q4)
          have S5 := Lib.hid (S4.out.nil ((Mods.refl Nil w4).alloc (.cells #[.int .u64 (si : Int), .int .u64 7, .slice A4 k c4] 49)))
          have V5 := Lib.hid (V4.out.alloc (.cells #[.int .u64 (si : Int), .int .u64 7, .slice A4 k c4] 49))
          have B5 := Blk.new w4 49 #[.int .u64 (si : Int), .int .u64 7, .slice A4 k c4]
          obtain ⟨w5, hw5⟩ : ∃ w5, w4.alloc (.cells #[.int .u64 (si : Int), .int .u64 7, .slice A4 k c4] 49) = w5 := ⟨_, rfl⟩
          obtain ⟨g5, hg5⟩ : ∃ g5, w4.heap.size = g5 := ⟨_, rfl⟩
          rw [hw5] at S5 V5 B5 ⊢
          rw [hg5] at B5 ⊢
          have d0 := B5.cell 0
          have d1 := B5.cell 1
          have d2 := B5.cell 2
          simp at d0 d1 d2
          have e5 := HE1.out w5 (M1.out.trans S5.out.m)
          have hcvA : ∀ j', (convert 34 9 (.slice A4 k c4)).run Try.prog (w5.drewN j') = .ok (.string (strOf vv)) (w5.drewN j') := fun j' => conv15 HK.out (V5.out.drewN j')
          have hcvB : ∀ j', (convert 34 9 (.slice B k cb)).run Try.prog (w5.drewN j') = .ok (.string (strOf vv)) (w5.drewN j') := fun j' => conv15 HK.out ((HBY.out.mods (M1.out.trans S5.out.m) (fun _ _ h => h)).drewN j')
          clear hw5 hg5 B5 e1
          go_quiet (fail)
          go_wp2_with fail
          exact ⟨⟨i + 1, by omega, by go_num, Lib.hid (S5.out.nil ((Mods.refl Nil w5).drewN _))⟩, by simp [intOf]; omega⟩
        · obtain rfl : m = i := by omega
          go_wp2_with (first
            | (at_make; refine wpList_make_row _ rfl _ _ 34 rfl 5 i1 (.int .u8 0) Try.underlying34 hi1 hz11 hz12 rfl .i64 .i64 m rfl rfl (by rw [hz13]; omega) (by omega) ?_; rw [made_rowF _ rfl m]; have BW := Lib.hid (Blk.new wr 5 (rowF (fun _ => .int .u8 0) m)); have MW := Lib.hid ((Mods.refl Nil wr).alloc (.cells (rowF (fun _ => .int .u8 0) m) 5)); obtain ⟨w7, hw7⟩ : ∃ w7, wr.alloc (.cells (rowF (fun _ => .int .u8 0) m) 5) = w7 := ⟨_, rfl⟩; obtain ⟨gW, hgW⟩ : ∃ gW, wr.heap.size = gW := ⟨_, rfl⟩; rw [hw7] at BW MW; rw [hgW] at BW; rw [hw7, hgW]; have HGW := Lib.hid hgW; clear hgW hw7)
            | (at_make; have hx := BW.out; clear hx; refine wpList_make_row _ rfl _ _ 76 rfl 4 i0 (.bool false) Try.underlying76 hi0 hz0 hz1 rfl .i64 .i64 m rfl rfl (by rw [hz2]; omega) (by omega) ?_; rw [made_rowF _ rfl m]; have BD := Lib.hid (Blk.new w7 4 (rowF (fun _ => .bool false) m)); have BW8 := Lib.hid (BW.out.alloc (.cells (rowF (fun _ => .bool false) m) 4)); have MD := Lib.hid ((Mods.refl Nil w7).alloc (.cells (rowF (fun _ => .bool false) m) 4)); obtain ⟨w8, hw8⟩ : ∃ w8, w7.alloc (.cells (rowF (fun _ => .bool false) m) 4) = w8 := ⟨_, rfl⟩; obtain ⟨gD, hgD⟩ : ∃ gD, w7.heap.size = gD := ⟨_, rfl⟩; rw [hw8] at BD MD BW8; rw [hgD] at BD; rw [hw8, hgD]; have HGD := Lib.hid hgD; clear hgD hw8))
          have H8 : Hid (SlI w1 w8 g gW gD n m l (fun _ => false) (fun _ => []) (fun _ => 0)) := Lib.hid (by
            have h1 := HGW.out
            have h2 := HGD.out
            have h3 := BW.out.lt
            have h4 := BD.out.lt
            have h5 := HSA.out.m.size
            have h6 := MW.out.size
            refine ⟨(HSA.out.more (MW.out.trans MD.out) (Y := fun k => k = gW ∨ k = gD) (fun k hk => .inr ?_)).mono_T (by omega), ?_, ?_, fun k _ => isBits_nil n, by omega, by omega⟩
            · rcases hk with rfl | rfl
              · exact ⟨by omega, by have := MD.out.size; omega⟩
              · exact ⟨by omega, h4⟩
            · exact BW8.out
            · exact BD.out)
          go_loopw [17] (fun x wr => ∃ (i : Nat) (D : Nat → Bool) (Wh : Nat → List Nat) (B : Nat → Nat), i ≤ q ∧ x = .int .i64 (i : Int) ∧ Hid (SlI w1 wr g gW gD n m l D Wh B)) (fun x _ => q - (intOf x).toNat)
          case atStart => exact ⟨0, _, _, _, Nat.zero_le _, rfl, H8⟩
          case round =>
            obtain ⟨i, D, Wh, B, hi, rfl, HI⟩ := hrel
            clear H8 HSA BW BD BW8 MW MD HGW HGD
            by_cases hgo : i < q ∧ 0 < m
            · obtain ⟨hiq, hm0⟩ := hgo
              have hiqI : decide ((i : Int) < (q : Int)) = true := by simp; omega
              have hiqJ : (i : Int) < (q : Int) := by omega
              have hm0I : (0 : Int) < (m : Int) := by omega
              have hm0N : decide (0 < m) = true := by simp; omega
              have hiy : i < ys.length := by rw [HN.out]; exact hiq
              obtain ⟨b3, o3, hA, hb3, hc3⟩ := sl_byte15 HS.out hiy
              subst hA
              obtain ⟨y, hy⟩ : ∃ y, ys[i] = y := ⟨_, rfl⟩
              rw [hy] at hc3
              have e3 : wr.cell? ⟨b3, o3 + i, none⟩ = some (.int .u8 (y.toNat : Int)) := (World.cell?_of_block ((M1.out.trans HI.out.lds.m).block b3 hb3 (fun h => h))).trans hc3
              clear hc3 hy hiy hb3
              have hy256 := y.toNat_lt
              obtain ⟨a8, ha8⟩ : ∃ a8, y.toNat / 8 = a8 := ⟨_, rfl⟩
              obtain ⟨c7, hc7⟩ : ∃ c7, y.toNat % 8 = c7 := ⟨_, rfl⟩
              obtain ⟨k, hk⟩ : ∃ k, a8 % m = k := ⟨_, rfl⟩
              obtain ⟨node, hno⟩ : ∃ node, c7 % n = node := ⟨_, rfl⟩
              have hkm : k < m := by rw [← hk]; exact Nat.mod_lt _ hm0
              have hnn : node < n := by rw [← hno]; exact Nat.mod_lt _ (by omega)
              obtain ⟨sk, hsk⟩ : ∃ sk, 3 + k = sk := ⟨_, rfl⟩
              have f1 : (y.toNat : Int) / 8 = (a8 : Int) := by omega
              have f2 : bits .and .u8 (y.toNat : Int) 7 = (c7 : Int) := by
                have h := u8_mask 3 y.toNat (by omega)
                have h2 : y.toNat % 256 = y.toNat := by omega
                rw [h2] at h
                rw [← hc7]
                exact h
              have f3 : (a8 : Int).tmod (m : Int) = (k : Int) := by rw [Int.tmod_eq_emod_of_nonneg (by omega), ← hk]; rfl
              have f4 : (c7 : Int).tmod (n : Int) = (node : Int) := by rw [Int.tmod_eq_emod_of_nonneg (by omega), ← hno]; rfl
              have f5 : IntKind.u64.wrap (k : Int) = (k : Int) := by rw [IntKind.wrap_u64]; omega
              have f6 : IntKind.u64.wrap ((k : Int) + 3) = (sk : Int) := by rw [IntKind.wrap_u64]; omega
              have hw8 := wrap64_nat a8 (by omega)
              have hw7 := wrap64_nat c7 (by omega)
              have HW7 := Lib.hid hw7
              have HW8 := Lib.hid hw8
              clear hw7 hw8
              have hkmI : (k : Int) < (m : Int) := by omega
              have HKM := Lib.hid hkm
              have HNN := Lib.hid hnn
              have ed := HI.out.done.rowcell hkm
              have fd := HI.out.done.frozen k
              have hgd : gD < wr.heap.size := HI.out.done.lt
              cases hD : D k with
              | true =>
                have hv := slC_voteD (n := n) l (Wh := Wh) (m := m) hnn hD
                rw [hsk] at hv
                have HACC : Hid (Calls Try.prog 21 #[.pointer (some ⟨g, 0, none⟩), .int .i64 (node : Int), .int .u64 7, .int .u64 (sk : Int)] wr fun e W' => ∃ A' n' c', e = .returned (.tuple #[.agg #[.int .u64 0, .int .u64 0, .slice A' n' c'], .bool false]) ∧ SlI w1 W' g gW gD n m l D Wh B ∧ W'.cell? ⟨gD, k, none⟩ = some (.bool true)) := Lib.hid ((HI.out.lds.accepted2 (by omega) (node := (node : Int)) (x := 7) (s := sk) (by omega) (by omega) (by omega) (by omega) hv.1 hv.2).mono fun e W' ⟨A', n', c', h1, _, h3, h4⟩ => by
                  have hb := HI.out.done.mods h4 (fun hk => hk.2 (.inr rfl))
                  refine ⟨A', n', c', h1, ⟨h3.more (Mods.refl _ _) (fun k hk => .inl (.inl hk)), HI.out.who.mods h4 (fun hk => hk.2 (.inl rfl)), hb, HI.out.bits, HI.out.lo1, HI.out.lo2⟩, ?_⟩
                  rw [hb.rowcell hkm, hD])
                clear hv ed fd hy256 ha8 hc7 hk hno hsk hkm hnn hD
                have hw7 := HW7.out
                have hw8 := HW8.out
                go_wp2_with (go_at_call 21; refine (HACC.out).mono ?_; rintro e w9 ⟨A9, n9', c9, rfl, h9, z9⟩; have H9 := Lib.hid h9; have y9 := (Lib.hid (World.cell?_of_block (a := ⟨gD, k, none⟩) (((Mods.refl Nil w9).alloc (.cells #[.int .u64 0, .int .u64 0, .slice A9 n9' c9] 49)).block gD h9.done.lt (fun h => h)))).out.trans z9; clear h9 z9)
                clear hw7 hw8
                refine ⟨⟨i + 1, D, Wh, B, by omega, by go_num, Lib.hid ?_⟩, by simp [intOf]; omega⟩
                have hm := (Mods.refl Nil w9).alloc (.cells #[.int .u64 0, .int .u64 0, .slice A9 n9' c9] 49)
                exact ⟨H9.out.lds.nil hm, H9.out.who.mods hm (fun h => h), H9.out.done.mods hm (fun h => h), H9.out.bits, H9.out.lo1, H9.out.lo2⟩
              | false =>
                have hv := slC_vote (n := n) l (Wh := Wh) (m := m) hnn hkm hD
                rw [hsk] at hv
                obtain ⟨cw, hcw⟩ : ∃ cw, (addW (Wh k) node).length = cw := ⟨_, rfl⟩
                obtain ⟨r, hr⟩ : ∃ r, decide (n / 2 < cw) = r := ⟨_, rfl⟩
                have hbt := isBits_add (HI.out.bits k hkm) hnn (by omega)
                obtain ⟨bk, hbk⟩ : ∃ bk, B k = bk := ⟨_, rfl⟩
                obtain ⟨b', hb'⟩ : ∃ b', bk ||| 2 ^ node = b' := ⟨_, rfl⟩
                rw [hbk, hb'] at hbt
                have hcnt := cntB_all hbt
                rw [hcw] at hcnt
                have HBT := Lib.hid hbt
                have HCNT := Lib.hid hcnt
                have hb256 : b' < 256 := hbt.1
                have hbk256 : bk < 256 := by rw [← hbk]; exact (HI.out.bits k hkm).1
                have HR := Lib.hid hr
                have HCW := Lib.hid hcw
                have HBK := Lib.hid hbk
                have HACC : Hid (Calls Try.prog 21 #[.pointer (some ⟨g, 0, none⟩), .int .i64 (node : Int), .int .u64 7, .int .u64 (sk : Int)] wr fun e W' => ∃ (A' : Option Addr) (n' c' vs vb : Nat), e = .returned (.tuple #[.agg #[.int .u64 (vs : Int), .int .u64 (vb : Int), .slice A' n' c'], .bool r]) ∧ (r = true → vs = sk ∧ (valR l k).length = n' ∧ Sl W' A' c' (bts (valR l k)) ∧ (bts (valR l k) ≠ [] → Off (fun q => q = gW) A')) ∧ LdS w1 W' (fun k => k = gW ∨ k = gD) g (slC n l (dNext n D Wh k node) (wNext Wh k node) m) 40000 ∧ Mods (LDM w1 (fun k => k = gW ∨ k = gD)) wr W') := Lib.hid ((HI.out.lds.accepted2 (by omega) (node := (node : Int)) (x := 7) (s := sk) (by omega) (by omega) (by omega) (by omega) hv.1 hv.2).mono fun e W' ⟨A', n', c', h1, h2, h3, h4⟩ => by
                  rw [hcw] at h1 h2
                  by_cases hl : n / 2 < cw
                  · rw [if_pos hl] at h1 h2
                    obtain rfl : r = true := by rw [← hr]; exact decide_eq_true hl
                    exact ⟨A', n', c', sk, 7, h1, fun _ => ⟨rfl, h2.1, h2.2.1, fun hne a ha e => (h2.2.2 hne a ha).2 (.inl e)⟩, h3.more (Mods.refl _ _) (fun k hk => .inl (.inl hk)), h4⟩
                  · rw [if_neg hl] at h1 h2
                    obtain rfl : r = false := by rw [← hr]; exact decide_eq_false hl
                    exact ⟨A', n', c', 0, 0, h1, fun h => (by cases h), h3.more (Mods.refl _ _) (fun k hk => .inl (.inl hk)), h4⟩)
                have HD := Lib.hid hD
                have HB' := Lib.hid hb'
                have hor : bits .or .u8 (bk : Int) (2 ^ min (IntKind.u64.wrap (node : Int)).toNat 8 % 256) = (b' : Int) := by
                  have hp : 2 ^ node < 256 := Nat.pow_lt_pow_right (a := 2) (n := 8) (by omega) (show node < 8 by omega)
                  have h1 : min (IntKind.u64.wrap (node : Int)).toNat 8 = node := by rw [IntKind.wrap_u64]; omega
                  have h3 : (2 : Int) ^ node = ((2 ^ node : Nat) : Int) := by simp
                  rw [h1, h3]
                  generalize 2 ^ node = p at hp hb' ⊢
                  rw [show ((p : Nat) : Int) % 256 = (p : Int) by omega, u8_or_nat _ _ hbk256 hp, hb']
                clear hv ed fd hy256 ha8 hc7 hk hno hsk hkm hnn hD hcw hr hbt hcnt hbk hb'
                have hw7 := HW7.out
                have hw8 := HW8.out
                go_wp2_with (go_at_call 21; refine (HACC.out).mono ?_; rintro e w9 ⟨A9, n9', c9, vs, vb, rfl, v9, s9, m9⟩; have V9 := Lib.hid v9; have S9 := Lib.hid s9; have M9 := Lib.hid m9; have hwb := HI.out.who.mods m9 (fun hk => hk.2 (.inl rfl)); have hdb := HI.out.done.mods m9 (fun hk => hk.2 (.inr rfl)); have HWB := Lib.hid (hwb.alloc (.cells #[.int .u64 (vs : Int), .int .u64 (vb : Int), .slice A9 n9' c9] 49)); have HDB := Lib.hid (hdb.alloc (.cells #[.int .u64 (vs : Int), .int .u64 (vb : Int), .slice A9 n9' c9] 49)); have y9 := HDB.out.rowcell HKM.out; rw [HD.out] at y9; have y8 := HWB.out.rowcell HKM.out; rw [HBK.out] at y8; have y7 := HWB.out.frozen k; clear v9 s9 m9 hwb hdb)
                have hwb2 := HWB.out.rowset k (.int .u8 (b' : Int))
                have hdb2 : Blk ((w9.alloc (.cells #[.int .u64 (vs : Int), .int .u64 (vb : Int), .slice A9 n9' c9] 49)).setCell ⟨gW, k, none⟩ (.int .u8 (b' : Int))) gD 4 (rowF (fun k => .bool (D k)) m) := HDB.out.far (p := ⟨gW, k, none⟩) (fun e => HWB.out.ne_ HDB.out (by decide) e.symm) _
                have hbx2 : Blk ((w9.alloc (.cells #[.int .u64 (vs : Int), .int .u64 (vb : Int), .slice A9 n9' c9] 49)).setCell ⟨gW, k, none⟩ (.int .u8 (b' : Int))) w9.heap.size 49 #[.int .u64 (vs : Int), .int .u64 (vb : Int), .slice A9 n9' c9] := (Blk.new w9 _ _).far (p := ⟨gW, k, none⟩) (fun e => HWB.out.ne_ (Blk.new w9 49 #[.int .u64 (vs : Int), .int .u64 (vb : Int), .slice A9 n9' c9]) (by decide) e.symm) _
                have m11 : Mods (fun q => q = gW) w9 ((w9.alloc (.cells #[.int .u64 (vs : Int), .int .u64 (vb : Int), .slice A9 n9' c9] 49)).setCell ⟨gW, k, none⟩ (.int .u8 (b' : Int))) := Mods.setCell (S := fun q => q = gW) ((Mods.refl _ _).alloc _) (fun _ => rfl) _
                obtain ⟨w11, hw11⟩ : ∃ w11, (w9.alloc (.cells #[.int .u64 (vs : Int), .int .u64 (vb : Int), .slice A9 n9' c9] 49)).setCell ⟨gW, k, none⟩ (.int .u8 (b' : Int)) = w11 := ⟨_, rfl⟩
                obtain ⟨gX, hgX⟩ : ∃ gX, w9.heap.size = gX := ⟨_, rfl⟩
                rw [hw11] at hwb2 hdb2 hbx2 m11 ⊢
                rw [hgX] at hbx2 ⊢
                have HWB2 := Lib.hid hwb2
                have HDB2 := Lib.hid hdb2
                have HBX2 := Lib.hid hbx2
                have M11 := Lib.hid m11
                have S11 := Lib.hid (S9.out.keep m11 (fun q hq => ⟨.inl hq, by subst hq; exact HI.out.lo1⟩))
                have x8 : w11.cell? ⟨gW, k, none⟩ = some (.int .u8 (b' : Int)) := by
                  have h := hwb2.rowcell HKM.out
                  rw [if_pos rfl] at h
                  exact h
                clear hw11 hgX hwb2 hdb2 hbx2 m11 y9 y8 y7 hor hw7 hw8 f2 f3 f4
                go_loopw [22, 23] (fun x y wr => ∃ j : Nat, j ≤ n ∧ x = .int .i64 (cntB b' j : Int) ∧ y = .int .i64 (j : Int) ∧ wr = w11) (fun _ y _ => n - (intOf y).toNat)
                case atStart => exact ⟨0, Nat.zero_le _, rfl, rfl, rfl⟩
                case round =>
                  obtain ⟨j, hj, rfl, rfl, rfl⟩ := hrel
                  by_cases hjn : j < n
                  · have hjnI : (j : Int) < (n : Int) := by omega
                    have hcl := cntB_le b' j
                    obtain ⟨cj, hcj⟩ : ∃ cj, cntB b' j = cj := ⟨_, rfl⟩
                    have hsc : cntB b' (j + 1) = cj + (if b'.testBit j then 1 else 0) := by rw [cntB, hcj]
                    rw [hcj] at hcl
                    have hmj : min (IntKind.u64.wrap (j : Int)).toNat 8 = j := by rw [IntKind.wrap_u64]; omega
                    have hbit : bits .and .u8 ((b' : Int) / 2 ^ j) 1 = (((if b'.testBit j then 1 else 0) : Nat) : Int) := by
                      have h1 : (b' : Int) / 2 ^ j = ((b' / 2 ^ j : Nat) : Int) := by rw [Int.natCast_ediv]; congr 1
                      rw [h1, show (1 : Int) = ((1 : Nat) : Int) from rfl, u8_and_nat _ _ (by have := Nat.div_le_self b' (2 ^ j); omega) (by omega), nat_mask1, bit_one]
                    obtain ⟨z, hz⟩ : ∃ z : Nat, (if b'.testBit j then 1 else 0) = z := ⟨_, rfl⟩
                    have hz1 : z ≤ 1 := by rw [← hz]; split <;> omega
                    rw [hz] at hbit hsc
                    obtain ⟨cz, hcz⟩ : ∃ cz, cj + z = cz := ⟨_, rfl⟩
                    rw [hcz] at hsc
                    have HSC := Lib.hid hsc
                    have hz63 : z < 9223372036854775808 := by omega
                    have hc63 : cz < 9223372036854775808 := by omega
                    have hwz := wrap64_nat z hz63
                    have hwcz : wrap64 ((cj : Int) + (z : Int)) = (cz : Int) := by rw [← Int.natCast_add, hcz]; exact wrap64_nat cz hc63
                    have HWCZ := Lib.hid hwcz
                    clear hcz hz hsc hwcz
                    go_wp2_with fail
                    clear hwz
                    exact ⟨⟨j + 1, by omega, by rw [HSC.out, HWCZ.out], by go_num, trivial⟩, by simp [intOf]; omega⟩
                  · obtain rfl : n = j := by omega
                    rw [HCNT.out]
                    obtain ⟨hn2, hh2⟩ : ∃ h2, n / 2 = h2 := ⟨_, rfl⟩
                    have hnq : (n : Int) / 2 = (hn2 : Int) := by omega
                    have hnq2 : (n : Int).tdiv 2 = (hn2 : Int) := by rw [Int.tdiv_eq_ediv_of_nonneg (by omega)]; exact hnq
                    have z0 := HBX2.out.cell 0
                    have z2 := HBX2.out.cell 2
                    simp at z0 z2
                    have z5 := HDB2.out.rowcell HKM.out
                    have z6 := HDB2.out.frozen k
                    rw [HD.out] at z5
                    have HFIN : Hid (∀ V, Mods Nil wr V → Blk V gD 4 (rowF (fun k => .bool (D k)) m) → SlI w1 (V.setCell ⟨gD, k, none⟩ (.bool r)) g gW gD n m l (dNext n D Wh k node) (wNext Wh k node) (fun j => if j = k then b' else B j)) := Lib.hid (fun V hV hd => by
                      have mS : Mods (fun q => q = gD) V (V.setCell ⟨gD, k, none⟩ (.bool r)) := Mods.setCell (S := fun q => q = gD) (Mods.refl _ _) (fun _ => rfl) _
                      refine ⟨(S11.out.nil hV).keep mS (fun q hq => ⟨.inr hq, by subst hq; exact HI.out.lo2⟩), ?_, ?_, fun j hj => ?_, HI.out.lo1, HI.out.lo2⟩
                      · have h := (HWB2.out.mods hV (fun h => h)).mods mS (fun e => HWB2.out.ne_ HDB2.out (by decide) e)
                        rw [show rowF (fun j => Value.int .u8 ((if j = k then b' else B j : Nat) : Int)) m = rowF (fun j => if j = k then Value.int .u8 (b' : Int) else .int .u8 (B j : Int)) m from rowF_congr (fun j _ => by split <;> rfl)]
                        exact h
                      · have h := hd.rowset k (.bool r)
                        rw [show rowF (fun j => Value.bool (dNext n D Wh k node j)) m = rowF (fun j => if j = k then Value.bool r else .bool (D j)) m from rowF_congr (fun j _ => by unfold dNext; rw [HCW.out, hh2, ← HR.out, hh2]; split <;> rfl)]
                        exact h
                      · unfold wNext
                        by_cases hjk : j = k
                        · rw [if_pos hjk, if_pos hjk]; exact HBT.out
                        · rw [if_neg hjk, if_neg hjk]; exact HI.out.bits j hj)
                    have hrr := HR.out
                    rw [hh2] at hrr
                    cases r with
                    | true =>
                      have hcl : hn2 < cw := by simpa using hrr
                      have hclI : decide ((hn2 : Int) < (cw : Int)) = true := by simp; omega
                      have hclN : decide (hn2 < cw) = true := by simp; omega
                      obtain ⟨hvs, hvl, hvs2, hvo⟩ := V9.out rfl
                      have hvs3 := hvs2.mods' M11.out hvo
                      have hkl : k < l.length := by rw [HN1.out]; exact HKM.out
                      obtain ⟨b2, o2, rfl, hb2, hcs⟩ := HS1.out.at_ (by simp; omega)
                      have e1 := hcs k _ (by rw [List.getElem?_map, List.getElem?_eq_getElem hkl]; rfl)
                      have hrow := HR1.out _ (List.getElem_mem hkl)
                      have hlk := List.getElem?_eq_getElem hkl
                      generalize l[k] = rk at e1 hrow hlk
                      rw [valR_at hlk] at hvl hvs3
                      obtain ⟨Bk, ck, vk⟩ := rk
                      simp only [Row.val] at e1
                      simp only at hvl hvs3
                      have hby : Sl w Bk ck (bts vk) := hrow
                      rw [hvl] at e1
                      have mw : Mods Nil w wr := M1.out.trans S11.out.m
                      have e5 := (World.cell?_of_block (a := ⟨b2, o2 + k, none⟩) (mw.block b2 hb2 (fun h => h))).trans e1
                      have hcvA : ∀ j', (convert 34 9 (.slice A9 n9' c9)).run Try.prog (wr.drewN j') = .ok (.string (strOf vk)) (wr.drewN j') := fun j' => conv15 hvl (hvs3.drewN j')
                      have hcvB : ∀ j', (convert 34 9 (.slice Bk n9' ck)).run Try.prog (wr.drewN j') = .ok (.string (strOf vk)) (wr.drewN j') := fun j' => conv15 hvl ((hby.mods mw (fun _ _ h => h)).drewN j')
                      subst hvs
                      clear hrr hh2 e1 hcs hkl hrow hlk hvs2 hvo hvs3 hby mw hvl
                      go_wp2_with fail
                      go_quiet (fail)
                      go_wp2_with fail
                      exact ⟨⟨i + 1, _, _, _, by omega, by go_num, Lib.hid (HFIN.out _ ((Mods.refl Nil _).drewN _) (HDB2.out.drewN _))⟩, by simp [intOf]; omega⟩
                    | false =>
                      have hcl : ¬ hn2 < cw := by simpa using hrr
                      have hclI : decide ((hn2 : Int) < (cw : Int)) = false := by simp; omega
                      have hclN : decide (hn2 < cw) = false := by simp; omega
                      clear hrr hh2
                      go_wp2_with fail
                      go_quiet (fail)
                      go_wp2_with fail
                      exact ⟨⟨i + 1, _, _, _, by omega, by go_num, Lib.hid (HFIN.out _ ((Mods.refl Nil _).drewN _) (HDB2.out.drewN _))⟩, by simp [intOf]; omega⟩
            · have hend : (decide ((i : Int) < (q : Int)) = false ∧ decide (i < q) = false) ∨ (decide ((i : Int) < (q : Int)) = true ∧ decide (i < q) = true ∧ decide ((0 : Int) < (m : Int)) = false ∧ decide (0 < m) = false) := by
                by_cases h1 : i < q
                · exact .inr ⟨by simp; omega, by simp; omega, by simp; omega, by simp; omega⟩
                · exact .inl ⟨by simp; omega, by simp; omega⟩
              have HOP : Hid (∀ V, Mods Nil wr V → Calls Try.prog 27 #[.pointer (some ⟨g, 0, none⟩)] V fun e W' => ∃ A' c', e = .returned (.slice A' (cntD D m) c') ∧ Mods Nil V W') := Lib.hid (fun V hV => ((HI.out.lds.nil hV).open_ (by omega)).mono fun e W' ⟨A', n', c', L', h1, h2, h3, _, h5⟩ => by
                obtain rfl : n' = cntD D m := by
                  rw [← h3.len]
                  have h := congrArg List.length h2
                  rw [List.length_map] at h
                  rw [h]
                  show ((slO l D Wh m).map POp.v).length = _
                  rw [List.length_map, slO_len]
                exact ⟨A', c', h1, h5⟩)
              obtain ⟨cd, hcd⟩ : ∃ cd, cntD D m = cd := ⟨_, rfl⟩
              have HCD := Lib.hid hcd
              clear hcd
              rcases hend with ⟨h1, h2⟩ | ⟨h1, h2, h3, h4⟩
              all_goals
                go_wp2_with fail
                obtain ⟨wc, hwc⟩ : ∃ x, x = wr := ⟨_, rfl⟩
                rw [← hwc] at HI HOP ⊢
                clear hwc
                go_loopw [24, 25] (fun x y wr => ∃ k : Nat, k ≤ m ∧ x = .int .i64 (cntD D k : Int) ∧ y = .int .i64 (k : Int) ∧ wr = wc) (fun _ y _ => m - (intOf y).toNat)
                case atStart => exact ⟨0, Nat.zero_le _, rfl, rfl, rfl⟩
                case round =>
                  obtain ⟨k, hk, rfl, rfl, rfl⟩ := hrel
                  by_cases hkm : k < m
                  · have hkmI : (k : Int) < (m : Int) := by omega
                    have ed := HI.out.done.rowcell hkm
                    have hcl := cntD_le D k
                    have hsn : cntD D (k + 1) = cntD D k + if D k then 0 else 1 := rfl
                    obtain ⟨ck, hck⟩ : ∃ ck, cntD D k = ck := ⟨_, rfl⟩
                    rw [hck] at hsn hcl ⊢
                    have HSN := Lib.hid hsn
                    clear hsn hck
                    cases hD : D k with
                    | true =>
                      rw [hD] at ed HSN
                      go_wp2_with fail
                      exact ⟨⟨k + 1, by omega, by rw [HSN.out]; rfl, by go_num, trivial⟩, by simp [intOf]; omega⟩
                    | false =>
                      rw [hD] at ed HSN
                      go_wp2_with fail
                      exact ⟨⟨k + 1, by omega, by rw [HSN.out]; go_num, by go_num, trivial⟩, by simp [intOf]; omega⟩
                  · obtain rfl : m = k := by omega
                    rw [HCD.out]
                    go_wp2_with (go_at_call 27; refine (HOP.out wr (Mods.refl _ _)).mono ?_; rintro e w6 ⟨A6, c6, he6, m6⟩; rw [HCD.out] at he6; subst he6; have M6 := Lib.hid m6; clear m6)
                    go_ret
                    exact ⟨rfl, M1.out.trans (HI.out.lds.m.trans M6.out)⟩
end Go.Proofs.Ytfnecjogiafekaa
