/- AcceptorPlays' walk; printed by wip/tools/gen13/plays.py. -/
import Derived.Test.YthkejoabppocoaaPlays13
import Derived.Deep.QuietTactic
import Derived.BigQuiet
import Derived.Deep.RegionHeld
namespace Go.Proofs.Ythkejoabppocoaa
set_option maxRecDepth 1000000
open Go.RowKit
set_option linter.unusedVariables false
set_option linter.unusedSimpArgs false

set_option maxHeartbeats 25600000 in
theorem acceptorPlays_walk (w : World) {A : Option Addr} {n c : Nat} {ls : List (List Fv)} (h : Acts w A n c [.int .i64, .int .u64, .int .u64, .bytes] ls) :
    Calls Try.prog 3 #[.slice A n c] w fun e w' => e = .returned (.bool true) ∧ Mods Nil w w' := by
  have HS := Lib.hid h
  clear h
  go_enter Try.func3, Try.ntmps3
  go_wp2_with (first
    | (go_at_call 9; refine (awake13_any _).mono ?_; rintro e w1 ⟨rfl, m1⟩; have M1 := Lib.hid m1; clear m1)
    | (go_at_call 10; refine (acc_new _).mono ?_; rintro e w2 ⟨b, rfl, s2⟩; have S2 := Lib.hid s2; clear s2))
  obtain ⟨W0, hW0⟩ : ∃ W0, w1 = W0 := ⟨_, rfl⟩
  rw [hW0] at M1 S2
  have S3 := Lib.hid (S2.out.more ((Mods.refl Nil w2).alloc (.cells #[.int .u64 0, .int .u64 0, .slice none 0 0] 29)) (Y := fun k => k = w2.heap.size) (fun k hk => .inr ⟨by omega, by simp; omega⟩))
  have B3 := Lib.hid (Blk.new w2 29 #[.int .u64 0, .int .u64 0, .slice none 0 0])
  obtain ⟨g5, hg5⟩ : ∃ g5, w2.heap.size = g5 := ⟨_, rfl⟩
  have HG5 : Hid (W0.heap.size ≤ g5) := Lib.hid (by rw [← hg5]; exact S2.out.m.size)
  rw [hg5] at S3 B3
  rw [hg5]
  go_loopw [6] (fun x wr => ∃ (i : Nat) (a : PAc) (A' : Option Addr) (c' n' : Nat) (X : Nat → Prop), i ≤ n ∧ i ≤ 40 ∧ x = .int .i64 (i : Int) ∧ AccS W0 wr X b a i ∧ PR wr X g5 a A' n' c') (fun x _ => 40 - (intOf x).toNat)
  case atStart => exact ⟨0, {}, none, 0, 0, fun k => k = g5, Nat.zero_le _, Nat.zero_le _, rfl, S3.out, ⟨B3.out, RVs.none_ _, rfl, fun x hx => by cases hx⟩⟩
  case round =>
    clear S2 S3 B3
    obtain ⟨i, a, A5, c5, n5, X, hi, hi40, rfl, hsa, hpr⟩ := hrel
    have HSA := Lib.hid hsa
    have HPR := Lib.hid hpr
    clear hsa hpr
    by_cases hgo : i < n ∧ i < 40
    · obtain ⟨hlt, hlt40⟩ := hgo
      have hltI : decide ((i : Int) < (n : Int)) = true := by simp; omega
      have hltN : decide (i < n) = true := by simp; omega
      have hltL : (i : Int) < (n : Int) := by omega
      have hlt4 : decide ((i : Int) < 40) = true := by simp; omega
      have hlt4N : decide (i < 40) = true := by simp; omega
      obtain ⟨b1, o1, kd, s, bal, B, cb, xs, q, rfl, hb1, ⟨x0, x1, x2, x3⟩, hq, hby, hs64, hbal⟩ := act13_on HS.out (M1.out.trans HSA.out.m) hlt
      obtain ⟨gx, hgx⟩ : ∃ gx, wr.heap.size = gx := ⟨_, rfl⟩
      obtain ⟨W1, hW1⟩ : ∃ W, wr.alloc (.cells #[.int .i64 kd, .int .u64 (s : Int), .int .u64 (bal : Int), .slice B q cb] 32) = W := ⟨_, rfl⟩
      have m1w : Mods Nil wr W1 := by rw [← hW1]; exact (Mods.refl Nil wr).alloc _
      have BX : Hid (Blk W1 gx 32 #[.int .i64 kd, .int .u64 (s : Int), .int .u64 (bal : Int), .slice B q cb]) := Lib.hid (by rw [← hW1, ← hgx]; exact Blk.new wr _ _)
      have hsz1 : W1.heap.size = gx + 1 := by rw [← hW1, World.size_alloc, hgx]
      obtain ⟨X1, hX1⟩ : ∃ X1 : Nat → Prop, (fun k => X k ∨ k = gx) = X1 := ⟨_, rfl⟩
      have HX1 : Hid (∀ k, X1 k ↔ (X k ∨ k = gx)) := Lib.hid (fun k => by rw [← hX1])
      have S1 := Lib.hid (HSA.out.more m1w (Y := X1) (fun k hk => by
        rcases (HX1.out k).1 hk with h | h
        · exact .inl h
        · exact .inr ⟨by omega, by omega⟩))
      have P1 := Lib.hid ((HPR.out.nil m1w).sub (X' := X1) (fun k hk => (HX1.out k).2 (.inl hk)))
      have HXX : Hid (X1 gx) := Lib.hid ((HX1.out _).2 (.inr rfl))
      have HWV : Hid (∀ V, Mods Nil W0 V → Sl V B cb (bts xs)) := Lib.hid (fun V hV => hby.mods (M1.out.trans hV) (fun _ _ h => h))
      obtain ⟨y0, y1, y2, y3⟩ : (W1.cell? ⟨gx, 0, none⟩ = some (.int .i64 kd)) ∧ (W1.cell? ⟨gx, 1, none⟩ = some (.int .u64 (s : Int))) ∧ (W1.cell? ⟨gx, 2, none⟩ = some (.int .u64 (bal : Int))) ∧ (W1.cell? ⟨gx, 3, none⟩ = some (.slice B q cb)) := ⟨BX.out.cell 0, BX.out.cell 1, BX.out.cell 2, BX.out.cell 3⟩
      have HQ := Lib.hid hq
      have HBAL := Lib.hid hbal
      have HS64 := Lib.hid hs64
      have hn5 : n5 ≤ 40 := by have h1 := HPR.out.r.len; have h2 := HSA.out.len; omega
      clear hq hby hb1 m1w hX1 hsz1
      by_cases h60 : 60 < q
      · have h60I : decide ((60 : Int) < (q : Int)) = true := by simp; omega
        have h60N : decide (60 < q) = true := by simp; omega
        go_wp2
        go_ret
        exact ⟨rfl, M1.out.trans S1.out.m⟩
      have h60I : decide ((60 : Int) < (q : Int)) = false := by simp; omega
      have h60N : decide (60 < q) = false := by simp; omega
      have HGX := Lib.hid hgx
      obtain ⟨p0, hp0⟩ : ∃ x, a.prom = x := ⟨_, rfl⟩
      obtain ⟨l0, hl0⟩ : ∃ x, a.low = x := ⟨_, rfl⟩
      have HPL := Lib.hid (And.intro hp0 hl0)
      have HBOX : Hid (∀ V, PR V X1 g5 a A5 n5 c5 → (V.cell? ⟨g5, 0, none⟩ = some (.int .u64 (p0 : Int)) ∧ V.cell? ⟨g5, 1, none⟩ = some (.int .u64 (l0 : Int)) ∧ V.cell? ⟨g5, 2, none⟩ = some (.slice A5 n5 c5))) := Lib.hid (fun V hV => by have h := hV.box; unfold acC at h; rw [HPL.out.1, HPL.out.2] at h; exact h.three)
      have HXB : Hid (∀ V, Mods (AM W0 X1) W1 V → (V.cell? ⟨gx, 0, none⟩ = some (.int .i64 kd) ∧ V.cell? ⟨gx, 1, none⟩ = some (.int .u64 (s : Int)) ∧ V.cell? ⟨gx, 2, none⟩ = some (.int .u64 (bal : Int)) ∧ V.cell? ⟨gx, 3, none⟩ = some (.slice B q cb))) := Lib.hid (fun V hV => by have h := BX.out.mods hV (fun hk => hk.2 HXX.out); exact ⟨h.cell 0, h.cell 1, h.cell 2, h.cell 3⟩)
      have HGL : Hid (g5 < W1.heap.size) := Lib.hid P1.out.box.lt
      obtain ⟨u, hu⟩ : ∃ u, bits .and .i64 kd 3 = u := ⟨_, rfl⟩
      obtain ⟨wo, hwo⟩ : ∃ x, x = wr := ⟨_, rfl⟩
      subst hwo
      clear hp0 hl0
      have HNE : Hid (gx ≠ g5) := Lib.hid (by have := HPR.out.box.lt; have := HGX.out; omega)
      by_cases hu0 : u = 0
      · subst hu0
        as_aux_lemma =>
          obtain ⟨a9, ha9⟩ : ∃ a9, a.prepare bal = a9 := ⟨_, rfl⟩
          obtain ⟨E, hE⟩ : ∃ E, a.prepE bal = E := ⟨_, rfl⟩
          obtain ⟨TL, hTL⟩ : ∃ TL, a.told bal s = TL := ⟨_, rfl⟩
          have h9L : a9.L = a.L := by rw [← ha9]; unfold PAc.prepare; split <;> rfl
          have htl : TL.length ≤ 40 := by
            rw [← hTL]
            unfold PAc.told
            have h1 := fromV_le s a.L
            have h2 := HSA.out.len
            split
            · simp
            · omega
          have HC := Lib.hid (S1.out.prep (bal := bal) (f := s) (by omega) HBAL.out HS64.out)
          unfold PrepT at HC
          rw [ha9, hE, hTL] at HC
          have HR : Hid (∀ V, PR V X1 g5 a A5 n5 c5 → Calls Try.prog 12 #[.agg #[.int .u64 (p0 : Int), .int .u64 (l0 : Int), .slice A5 n5 c5], .int .u64 (bal : Int), .int .u64 (s : Int)] V fun e W' => ∃ A' c' n', e = .returned (.tuple #[.agg #[.int .u64 (a9.prom : Int), .int .u64 (a9.low : Int), .slice A5 n5 c5], .slice A' n' c', .int .i64 (E : Int)]) ∧ RVs W' A' c' n' TL ∧ Mods Nil V W') := Lib.hid (fun V hV => by
            have h := r13prep_any V hV.r (by omega) bal s
            unfold RPrep acC at h
            rw [ha9, hE, hTL, HPL.out.1, HPL.out.2] at h
            exact h)
          have H9L := Lib.hid h9L
          have HTL := Lib.hid htl
          clear ha9 hE hTL h9L htl
          go_wp2_with (first
            | (go_at_call 13; refine (r13same_any _ R6.out R7.out (by have := HM23.out; omega) (by have := HM23.out; omega)).mono ?_; rintro e w8 ⟨rr, rfl, hrr, m8⟩; obtain rfl : rr = true := hrr.2 rfl; have S8 := Lib.hid (S7.out.nil m8); have P8 := Lib.hid (P7.out.nil m8); have Z8 := Lib.hid ((World.cell?_of_block (a := ⟨gx, 1, none⟩) (m8.block gx HGX7.out (fun h => h))).trans Z7.out); have HGXL : Hid (gx < w8.heap.size) := Lib.hid (Nat.lt_of_lt_of_le HGX7.out m8.size); have zz1 := Z8.out; clear hrr m8)
            | (go_at_call 14; refine (votes13_any _ V5.out (by have := HM23.out; omega)).mono ?_; rintro e w7 ⟨A7, c7, rfl, r7, -, m7⟩; rw [L2'.out] at r7; have R6 := Lib.hid r7; have R7 := Lib.hid (R5.out.nil m7); have S7 := Lib.hid (S5.out.nil m7); have P7 := Lib.hid (P5.out.nil m7); have Z7 := Lib.hid ((World.cell?_of_block (a := ⟨gx, 1, none⟩) (m7.block gx HGX5.out (fun h => h))).trans Z5.out); have HGX7 : Hid (gx < w7.heap.size) := Lib.hid (Nat.lt_of_lt_of_le HGX5.out m7.size); clear r7 m7)
            | (go_at_call 12; refine (HR.out _ P2.out).mono ?_; rintro e w3 ⟨A3, c3, m3, rfl, r3, mm3⟩; have R3 := Lib.hid r3; have M3 := Lib.hid mm3; obtain ⟨w4, hw4⟩ : ∃ w4, w3.alloc (.cells #[.int .u64 (a9.prom : Int), .int .u64 (a9.low : Int), .slice A5 n5 c5] 29) = w4 := ⟨_, rfl⟩; have m34 : Mods Nil w3 w4 := (by rw [← hw4]; exact (Mods.refl Nil w3).alloc _); have hbw : Blk w4 w3.heap.size 29 #[.int .u64 (a9.prom : Int), .int .u64 (a9.low : Int), .slice A5 n5 c5] := (by rw [← hw4]; exact Blk.new w3 _ _); obtain ⟨e0, e1, e2⟩ := hbw.three; have P4 := Lib.hid (P2.out.nil (mm3.trans m34)); have S4 := Lib.hid (S2.out.nil (mm3.trans m34)); have V4 := Lib.hid (V2.out.nil (mm3.trans m34)); have R4 := Lib.hid (r3.nil m34); have HM23 : Hid (m2 ≤ 40 ∧ m3 ≤ 40) := Lib.hid (by have h1 := congrArg List.length L2'.out; rw [List.length_map, V2.out.len] at h1; have h2 := r3.len; have := HTL.out; omega); have z1 := (World.cell?_of_block (a := ⟨gx, 1, none⟩) ((mm3.trans m34).block gx HGX2.out (fun h => h))).trans Z2.out; have Z4 := Lib.hid z1; have HGX4 : Hid (gx < w4.heap.size) := Lib.hid (Nat.lt_of_lt_of_le HGX2.out (mm3.trans m34).size); obtain ⟨k0, k1, k2⟩ := HBOX.out _ P4.out; clear r3 mm3 m34 hbw)
            | (go_at_call 11; refine (HC.out).mono ?_; rintro e w2 ⟨A2, c2, m2, L2, rfl, l2, v2, s2, mm2⟩; obtain ⟨z0, z1, z2, z3⟩ := HXB.out w2 mm2; have P2 := Lib.hid (P1.out.mods mm2); have S2 := Lib.hid s2; have V2 := Lib.hid v2; have L2' := Lib.hid l2; have Z2 := Lib.hid z1; have HGX2 : Hid (gx < w2.heap.size) := Lib.hid (Nat.lt_of_lt_of_le BX.out.lt mm2.size); obtain ⟨k0, k1, k2⟩ := HBOX.out _ P2.out; have HW12 := Lib.hid mm2.size; clear l2 v2 s2 mm2)
            | (refine wpList_store_mk rfl 29 (.tmp 5) (.tmp 79) rfl rfl g5 rfl 29 #[.int .u64 (p0 : Int), .int .u64 (l0 : Int), .slice A5 n5 c5] #[.int .u64 (a9.prom : Int), .int .u64 (a9.low : Int), .slice A5 n5 c5] rfl (by have h := P4.out.box; unfold acC at h; rw [HPL.out.1, HPL.out.2] at h; exact h) rfl (by simp [Value.oneCell']) ac_info (by simp [Value.cells]) ?_; intro w5 b5 m5; have S5 := Lib.hid (S4.out.keep m5 (fun q hq => by subst hq; exact ⟨.inl P1.out.xg, HG5.out⟩)); have P5 : Hid (PR w5 (XN X1 W1 w2) g5 a9 A5 n5 c5) := Lib.hid ((P4.out.sub (fun k hk => .inl hk)).put (by have h := P4.out.r; rw [← H9L.out] at h; exact h) (fun x hx => .inl (P1.out.xa x hx)) b5 m5); have V5 := Lib.hid (V4.out.mods m5 (fun q hq hd => by subst hq; have := HGL.out; omega)); have R5 := Lib.hid (R4.out.mods m5 (fun x hx e => by obtain ⟨cs, hc⟩ := R4.out.ty x hx; exact hc.ne_ P4.out.box (by decide) e)); have HGX5 : Hid (gx < w5.heap.size) := Lib.hid (Nat.lt_of_lt_of_le HGX4.out m5.size); have Z5 := Lib.hid ((World.cell?_of_block (a := ⟨gx, 1, none⟩) (m5.block gx HGX4.out (fun e => HNE.out e))).trans Z4.out); clear b5 m5))
          have S8' := Lib.hid (S8.out.mono_T (T' := i + 1) (by omega))
          have hn5 : n5 ≤ 41 := by have h1 := P8.out.r.len; have h2 := S8'.out.len; omega
          have HN8 := Lib.hid P8.out.r.len
          have HRISE := Lib.hid S8'.out.rise
          obtain ⟨p8, hp8⟩ : ∃ x, a9.prom = x := ⟨_, rfl⟩
          obtain ⟨l8, hl8⟩ : ∃ x, a9.low = x := ⟨_, rfl⟩
          have HPL8 := Lib.hid (And.intro hp8 hl8)
          have HB8 : Hid (∀ V, Mods Nil w8 V → (V.cell? ⟨g5, 0, none⟩ = some (.int .u64 (p8 : Int)) ∧ V.cell? ⟨g5, 1, none⟩ = some (.int .u64 (l8 : Int)) ∧ V.cell? ⟨g5, 2, none⟩ = some (.slice A5 n5 c5))) := Lib.hid (fun V hV => by have h := (P8.out.nil hV).box; unfold acC at h; rw [HPL8.out.1, HPL8.out.2] at h; exact h.three)
          have HZ8 : Hid (∀ V, Mods Nil w8 V → V.cell? ⟨gx, 1, none⟩ = some (.int .u64 (s : Int))) := Lib.hid (fun V hV => (World.cell?_of_block (a := ⟨gx, 1, none⟩) (hV.block gx HGXL.out (fun h => h))).trans Z8.out)
          clear hp8 hl8
          refine (S8'.out.voted (by omega) HS64.out).mono ?_
          rintro e w9 ⟨qv, rv, rfl, hq1, hq2, hq3, s9, m9⟩
          have M9 := Lib.hid m9
          have S9 := Lib.hid s9
          have Q1 := Lib.hid hq1
          have Q2 := Lib.hid hq2
          have Q3 := Lib.hid hq3
          clear hq1 hq2 hq3 s9 m9
          obtain ⟨vs, hvs⟩ : ∃ x, qv.slot = x := ⟨_, rfl⟩
          obtain ⟨vb, hvb⟩ : ∃ x, qv.bal = x := ⟨_, rfl⟩
          obtain ⟨vv, hvv⟩ : ∃ x, qv.val = x := ⟨_, rfl⟩
          obtain ⟨vn, hvn⟩ : ∃ x, vv.length = x := ⟨_, rfl⟩
          rw [hvs, hvb, hvv, hvn]
          rw [hvv] at Q1
          have HVN := Lib.hid hvn
          have HVP : Hid (qv.plain = ⟨vs, vb, vv⟩) := Lib.hid (by unfold VtP.plain; rw [hvs, hvb, hvv])
          obtain ⟨VA, hVA⟩ : ∃ x, qv.A = x := ⟨_, rfl⟩
          obtain ⟨vc, hvc⟩ : ∃ x, qv.c = x := ⟨_, rfl⟩
          rw [hVA, hvc] at Q1 ⊢
          obtain ⟨gv, hgv⟩ : ∃ gv, w9.heap.size = gv := ⟨_, rfl⟩
          obtain ⟨W10, hW10⟩ : ∃ W, w9.alloc (.cells #[.int .u64 (vs : Int), .int .u64 (vb : Int), .slice VA vn vc] 43) = W := ⟨_, rfl⟩
          have BV : Hid (Blk W10 gv 43 #[.int .u64 (vs : Int), .int .u64 (vb : Int), .slice VA vn vc]) := Lib.hid (by rw [← hW10, ← hgv]; exact Blk.new w9 _ _)
          have m910 : Mods Nil w9 W10 := by rw [← hW10]; exact (Mods.refl Nil w9).alloc _
          have M10 := Lib.hid (M9.out.trans m910)
          have S10 := Lib.hid (S9.out.nil m910)
          have QS := Lib.hid (Q1.out.mods m910 (fun _ _ h => h))
          have P10 := Lib.hid (P8.out.nil M10.out)
          clear hvs hvb hvv hvn hVA hvc m910 Q1
          go_wp2
          go_loopw [17, 18] (fun hd x wr => ∃ k, k ≤ n5 ∧ x = .int .i64 (k : Int) ∧ hd = .bool (lookV (a9.L.take k) s).isSome ∧ Mods Nil W10 wr) (fun _ x _ => n5 - (intOf x).toNat)
          case atStart => exact ⟨0, Nat.zero_le _, rfl, by simp [lookV], Mods.refl _ _⟩
          case round =>
            obtain ⟨k, hk, rfl, rfl, hm11⟩ := hrel
            have M11 := Lib.hid hm11
            clear hm11
            obtain ⟨h0, h1, h2⟩ := HB8.out wr (M10.out.trans M11.out)
            have h3 := HZ8.out wr (M10.out.trans M11.out)
            have bv := BV.out.mods M11.out (fun h => h)
            obtain ⟨v0, v1, v2⟩ : wr.cell? ⟨gv, 0, none⟩ = some (.int .u64 (vs : Int)) ∧ wr.cell? ⟨gv, 1, none⟩ = some (.int .u64 (vb : Int)) ∧ wr.cell? ⟨gv, 2, none⟩ = some (.slice VA vn vc) := bv.three
            clear bv
            by_cases hkn : k < n5
            · have hknI : (k : Int) < (n5 : Int) := by omega
              have hkL : k < a9.L.length := by rw [HN8.out]; exact hkn
              obtain ⟨x, hx⟩ : ∃ x, a9.L[k]? = some x := ⟨_, List.getElem?_eq_getElem hkL⟩
              obtain ⟨b8, o8, hA8, hb8, -⟩ := (P10.out.nil M11.out).r.at_ hkn
              have hP := (P10.out.nil M11.out).r
              rw [hA8] at hP
              obtain ⟨c0, c1, c2⟩ := hP.cells hx
              rw [hA8] at h2
              have hsn : a9.L.take (k + 1) = a9.L.take k ++ [x] := by rw [List.take_add_one, hx]; rfl
              have hlk := lookV_snoc (a9.L.take k) x s
              rw [← hsn] at hlk
              have hmem := List.mem_of_getElem? hx
              clear hP hsn hkL
              by_cases hxs : x.slot = s
              · have hqx : qv.plain = x := Q3.out x (by rw [← hxs]; exact lookV_of HRISE.out hmem)
                rw [HVP.out] at hqx
                subst hqx
                simp only at c0 c1 c2 hxs hlk
                subst hxs
                have hcv : ∀ j, (convert 30 9 (.slice VA vn vc)).run Try.prog (wr.drewN j) = .ok (.string (strOf vv)) (wr.drewN j) := fun j => conv13 HVN.out ((QS.out.mods M11.out (fun _ _ h => h)).drewN j)
                have hst := strOf_toList vv
                have HLK := Lib.hid (show (lookV (a9.L.take (k + 1)) vs).isSome = true by rw [hlk]; simp)
                clear hlk hmem hx hb8
                go_wp2
                go_quiet (fail)
                go_wp2
                go_quiet (fail)
                go_wp2
                exact ⟨⟨k + 1, by omega, by go_num, by rw [HLK.out], M11.out.drewN _⟩, by simp [intOf]; omega⟩
              · have hxI : ((x.slot : Int) == (s : Int)) = false := by rw [beq_eq_false_iff_ne]; omega
                have hxN : (x.slot == s) = false := by rw [beq_eq_false_iff_ne]; exact hxs
                obtain ⟨xs0, hxs0⟩ : ∃ y, x.slot = y := ⟨_, rfl⟩
                rw [hxs0] at c0 hxI hxN
                have HLK := Lib.hid (show (lookV (a9.L.take (k + 1)) s).isSome = (lookV (a9.L.take k) s).isSome by rw [hlk]; simp [hxs])
                clear hlk hmem hx hb8 hxs hxs0
                go_wp2
                go_quiet (fail)
                go_wp2
                exact ⟨⟨k + 1, by omega, by go_num, by rw [HLK.out], M11.out.drewN _⟩, by simp [intOf]; omega⟩
            · obtain rfl : k = n5 := by omega
              have HT : Hid ((lookV (a9.L.take k) s).isSome = rv) := Lib.hid (by rw [List.take_of_length_le (by rw [HN8.out]; exact Nat.le_refl _)]; exact Q2.out.symm)
              rw [HT.out]
              have S11 := Lib.hid (S10.out.nil M11.out)
              have P11 := Lib.hid (P10.out.nil M11.out)
              have HPM : Hid (∀ V, Mods Nil wr V → Calls Try.prog 20 #[.pointer (some ⟨b, 0, none⟩)] V fun e W' => e = .returned (.int .u64 (p8 : Int)) ∧ Mods Nil V W') := Lib.hid (fun V hV => by have h := (S11.out.nil hV).promised; rw [HPL8.out.1] at h; exact h)
              have HLM : Hid (∀ V, Mods Nil wr V → Calls Try.prog 21 #[.pointer (some ⟨b, 0, none⟩)] V fun e W' => e = .returned (.int .u64 (l8 : Int)) ∧ Mods Nil V W') := Lib.hid (fun V hV => by have h := (S11.out.nil hV).low_; rw [HPL8.out.2] at h; exact h)
              have t0 : ∀ V, Mods Nil wr V → V.cell? ⟨g5, 0, none⟩ = some (.int .u64 (p8 : Int)) := fun V hV => (HB8.out V (M10.out.trans (M11.out.trans hV))).1
              have t1 : ∀ V, Mods Nil wr V → V.cell? ⟨g5, 1, none⟩ = some (.int .u64 (l8 : Int)) := fun V hV => (HB8.out V (M10.out.trans (M11.out.trans hV))).2.1
              have hrr : (rv != rv) = false := by simp
              clear h0 h1 h3 v0 v1 v2 HB8 HZ8
              go_wp2
              go_region_held (fun W => Mods Nil wr W) (first | assumption | exact (Mods.refl Nil wr).drew) (first
                | (go_at_call 21; have hx := hz1'; clear hx; refine (HLM.out _ hz1').mono ?_; rintro e z2 ⟨rfl, y2⟩; have hz2' : Mods Nil wr z2 := Mods.trans hz1' y2; clear y2)
                | (go_at_call 20; refine (HPM.out _ (Mods.refl Nil wr).drew).mono ?_; rintro e z1 ⟨rfl, y1⟩; have hz1' : Mods Nil wr z1 := Mods.trans (Mods.refl Nil wr).drew y1; clear y1))
              all_goals
                go_wp2
                exact ⟨⟨i + 1, a9, A5, c5, k, (XN X1 W1 w2), by omega, by omega, by go_num, S11.out.nil (by assumption), P11.out.nil (by assumption)⟩, by simp [intOf]; omega⟩
      have hu0I : (u == 0) = false := by rw [beq_eq_false_iff_ne]; exact hu0
      by_cases hu1 : u = 1
      · subst hu1
        as_aux_lemma =>
          obtain ⟨a9, ha9⟩ : ∃ a9, a.accept ⟨s, bal, xs⟩ = a9 := ⟨_, rfl⟩
          obtain ⟨E, hE⟩ : ∃ E, a.accE ⟨s, bal, xs⟩ = E := ⟨_, rfl⟩
          have HC := Lib.hid (S1.out.acc (by omega) (v := ⟨s, bal, xs⟩) (n := q) (c := cb) (A := B) HS64.out HBAL.out HQ.out (by omega) (HWV.out _ S1.out.m))
          rw [ha9, hE] at HC
          simp only at HC
          have HR : Hid (∀ V, PR V X1 g5 a A5 n5 c5 → Calls Try.prog 16 #[.agg #[.int .u64 (p0 : Int), .int .u64 (l0 : Int), .slice A5 n5 c5], .agg #[.int .u64 (s : Int), .int .u64 (bal : Int), .string (strOf xs)]] V fun e W' => ∃ A' c' n', e = .returned (.tuple #[.agg #[.int .u64 (a9.prom : Int), .int .u64 (a9.low : Int), .slice A' n' c'], .int .i64 (E : Int)]) ∧ RVs W' A' c' n' a9.L ∧ (∀ x, A' = some x → A5 = some x ∨ V.heap.size ≤ x.block) ∧ Mods Nil V W') := Lib.hid (fun V hV => by
            have h := r13acc_any V hV.r (by omega) HSA.out.rise ⟨s, bal, xs⟩
            unfold RAcc acC at h
            rw [ha9, hE, HPL.out.1, HPL.out.2] at h
            exact h)
          clear ha9 hE
          go_wp2_with (first
            | (go_at_call 16; refine (HR.out _ P2.out).mono ?_; rintro e w3 ⟨A3, c3, n3, rfl, r3, ha3, mm3⟩; have R3 := Lib.hid r3; have HA3 := Lib.hid ha3; have M3 := Lib.hid mm3; have P3 := Lib.hid (P2.out.nil mm3); have S3 := Lib.hid (S2.out.more mm3 (Y := XN X1 w2 w3) (fun k hk => hk)); have z1 := (World.cell?_of_block (a := ⟨gx, 1, none⟩) (mm3.block gx HGX2.out (fun h => h))).trans Z2.out; have Z3 := Lib.hid z1; have HGX3 : Hid (gx < w3.heap.size) := Lib.hid (Nat.lt_of_lt_of_le HGX2.out mm3.size); clear r3 ha3 mm3 k0 k1 k2)
            | (go_at_call 15; refine (HC.out).mono ?_; rintro e w2 ⟨rfl, s2, mm2⟩; obtain ⟨z0, z1, z2, z3⟩ := HXB.out w2 mm2; have P2 := Lib.hid (P1.out.mods mm2); have S2 := Lib.hid s2; have Z2 := Lib.hid z1; have HGX2 : Hid (gx < w2.heap.size) := Lib.hid (Nat.lt_of_lt_of_le BX.out.lt mm2.size); obtain ⟨k0, k1, k2⟩ := HBOX.out _ P2.out; have hcv := conv13 HQ.out (HWV.out w2 s2.m); clear s2 mm2)
            | (refine wpList_store_mk rfl 29 (.tmp 5) (.tmp 110) rfl rfl g5 rfl 29 #[.int .u64 (p0 : Int), .int .u64 (l0 : Int), .slice A5 n5 c5] #[.int .u64 (a9.prom : Int), .int .u64 (a9.low : Int), .slice A3 n3 c3] rfl (by have h := P3.out.box; unfold acC at h; rw [HPL.out.1, HPL.out.2] at h; exact h) rfl (by simp [Value.oneCell']) ac_info (by simp [Value.cells]) ?_; intro w8 b8 m8; have S8 := Lib.hid (S3.out.keep m8 (fun q hq => by subst hq; exact ⟨.inl P1.out.xg, HG5.out⟩)); have P8 : Hid (PR w8 (XN X1 w2 w3) g5 a9 A3 n3 c3) := Lib.hid ((P3.out.sub (fun k hk => .inl hk)).put R3.out (fun x hx => by rcases HA3.out x hx with h | h; exact .inl (P1.out.xa x h); exact .inr ⟨h, R3.out.lt hx⟩) b8 m8); have HGXL : Hid (gx < w8.heap.size) := Lib.hid (Nat.lt_of_lt_of_le HGX3.out m8.size); have Z8 := Lib.hid ((World.cell?_of_block (a := ⟨gx, 1, none⟩) (m8.block gx HGX3.out (fun e => HNE.out e))).trans Z3.out); have z1 := Z8.out; clear b8 m8))
          have hn3 : n3 ≤ 41 := by have h1 := P8.out.r.len; have h2 := S8.out.len; omega
          have HN8 := Lib.hid P8.out.r.len
          have HRISE := Lib.hid S8.out.rise
          obtain ⟨p8, hp8⟩ : ∃ x, a9.prom = x := ⟨_, rfl⟩
          obtain ⟨l8, hl8⟩ : ∃ x, a9.low = x := ⟨_, rfl⟩
          have HPL8 := Lib.hid (And.intro hp8 hl8)
          have HB8 : Hid (∀ V, Mods Nil w8 V → (V.cell? ⟨g5, 0, none⟩ = some (.int .u64 (p8 : Int)) ∧ V.cell? ⟨g5, 1, none⟩ = some (.int .u64 (l8 : Int)) ∧ V.cell? ⟨g5, 2, none⟩ = some (.slice A3 n3 c3))) := Lib.hid (fun V hV => by have h := (P8.out.nil hV).box; unfold acC at h; rw [HPL8.out.1, HPL8.out.2] at h; exact h.three)
          have HZ8 : Hid (∀ V, Mods Nil w8 V → V.cell? ⟨gx, 1, none⟩ = some (.int .u64 (s : Int))) := Lib.hid (fun V hV => (World.cell?_of_block (a := ⟨gx, 1, none⟩) (hV.block gx HGXL.out (fun h => h))).trans Z8.out)
          clear hp8 hl8
          refine (S8.out.voted (by omega) HS64.out).mono ?_
          rintro e w9 ⟨qv, rv, rfl, hq1, hq2, hq3, s9, m9⟩
          have M9 := Lib.hid m9
          have S9 := Lib.hid s9
          have Q1 := Lib.hid hq1
          have Q2 := Lib.hid hq2
          have Q3 := Lib.hid hq3
          clear hq1 hq2 hq3 s9 m9
          obtain ⟨vs, hvs⟩ : ∃ x, qv.slot = x := ⟨_, rfl⟩
          obtain ⟨vb, hvb⟩ : ∃ x, qv.bal = x := ⟨_, rfl⟩
          obtain ⟨vv, hvv⟩ : ∃ x, qv.val = x := ⟨_, rfl⟩
          obtain ⟨vn, hvn⟩ : ∃ x, vv.length = x := ⟨_, rfl⟩
          rw [hvs, hvb, hvv, hvn]
          rw [hvv] at Q1
          have HVN := Lib.hid hvn
          have HVP : Hid (qv.plain = ⟨vs, vb, vv⟩) := Lib.hid (by unfold VtP.plain; rw [hvs, hvb, hvv])
          obtain ⟨VA, hVA⟩ : ∃ x, qv.A = x := ⟨_, rfl⟩
          obtain ⟨vc, hvc⟩ : ∃ x, qv.c = x := ⟨_, rfl⟩
          rw [hVA, hvc] at Q1 ⊢
          obtain ⟨gv, hgv⟩ : ∃ gv, w9.heap.size = gv := ⟨_, rfl⟩
          obtain ⟨W10, hW10⟩ : ∃ W, w9.alloc (.cells #[.int .u64 (vs : Int), .int .u64 (vb : Int), .slice VA vn vc] 43) = W := ⟨_, rfl⟩
          have BV : Hid (Blk W10 gv 43 #[.int .u64 (vs : Int), .int .u64 (vb : Int), .slice VA vn vc]) := Lib.hid (by rw [← hW10, ← hgv]; exact Blk.new w9 _ _)
          have m910 : Mods Nil w9 W10 := by rw [← hW10]; exact (Mods.refl Nil w9).alloc _
          have M10 := Lib.hid (M9.out.trans m910)
          have S10 := Lib.hid (S9.out.nil m910)
          have QS := Lib.hid (Q1.out.mods m910 (fun _ _ h => h))
          have P10 := Lib.hid (P8.out.nil M10.out)
          clear hvs hvb hvv hvn hVA hvc m910 Q1
          go_wp2
          go_loopw [17, 18] (fun hd x wr => ∃ k, k ≤ n3 ∧ x = .int .i64 (k : Int) ∧ hd = .bool (lookV (a9.L.take k) s).isSome ∧ Mods Nil W10 wr) (fun _ x _ => n3 - (intOf x).toNat)
          case atStart => exact ⟨0, Nat.zero_le _, rfl, by simp [lookV], Mods.refl _ _⟩
          case round =>
            obtain ⟨k, hk, rfl, rfl, hm11⟩ := hrel
            have M11 := Lib.hid hm11
            clear hm11
            obtain ⟨h0, h1, h2⟩ := HB8.out wr (M10.out.trans M11.out)
            have h3 := HZ8.out wr (M10.out.trans M11.out)
            have bv := BV.out.mods M11.out (fun h => h)
            obtain ⟨v0, v1, v2⟩ : wr.cell? ⟨gv, 0, none⟩ = some (.int .u64 (vs : Int)) ∧ wr.cell? ⟨gv, 1, none⟩ = some (.int .u64 (vb : Int)) ∧ wr.cell? ⟨gv, 2, none⟩ = some (.slice VA vn vc) := bv.three
            clear bv
            by_cases hkn : k < n3
            · have hknI : (k : Int) < (n3 : Int) := by omega
              have hkL : k < a9.L.length := by rw [HN8.out]; exact hkn
              obtain ⟨x, hx⟩ : ∃ x, a9.L[k]? = some x := ⟨_, List.getElem?_eq_getElem hkL⟩
              obtain ⟨b8, o8, hA8, hb8, -⟩ := (P10.out.nil M11.out).r.at_ hkn
              have hP := (P10.out.nil M11.out).r
              rw [hA8] at hP
              obtain ⟨c0, c1, c2⟩ := hP.cells hx
              rw [hA8] at h2
              have hsn : a9.L.take (k + 1) = a9.L.take k ++ [x] := by rw [List.take_add_one, hx]; rfl
              have hlk := lookV_snoc (a9.L.take k) x s
              rw [← hsn] at hlk
              have hmem := List.mem_of_getElem? hx
              clear hP hsn hkL
              by_cases hxs : x.slot = s
              · have hqx : qv.plain = x := Q3.out x (by rw [← hxs]; exact lookV_of HRISE.out hmem)
                rw [HVP.out] at hqx
                subst hqx
                simp only at c0 c1 c2 hxs hlk
                subst hxs
                have hcv : ∀ j, (convert 30 9 (.slice VA vn vc)).run Try.prog (wr.drewN j) = .ok (.string (strOf vv)) (wr.drewN j) := fun j => conv13 HVN.out ((QS.out.mods M11.out (fun _ _ h => h)).drewN j)
                have hst := strOf_toList vv
                have HLK := Lib.hid (show (lookV (a9.L.take (k + 1)) vs).isSome = true by rw [hlk]; simp)
                clear hlk hmem hx hb8
                go_wp2
                go_quiet (fail)
                go_wp2
                go_quiet (fail)
                go_wp2
                exact ⟨⟨k + 1, by omega, by go_num, by rw [HLK.out], M11.out.drewN _⟩, by simp [intOf]; omega⟩
              · have hxI : ((x.slot : Int) == (s : Int)) = false := by rw [beq_eq_false_iff_ne]; omega
                have hxN : (x.slot == s) = false := by rw [beq_eq_false_iff_ne]; exact hxs
                obtain ⟨xs0, hxs0⟩ : ∃ y, x.slot = y := ⟨_, rfl⟩
                rw [hxs0] at c0 hxI hxN
                have HLK := Lib.hid (show (lookV (a9.L.take (k + 1)) s).isSome = (lookV (a9.L.take k) s).isSome by rw [hlk]; simp [hxs])
                clear hlk hmem hx hb8 hxs hxs0
                go_wp2
                go_quiet (fail)
                go_wp2
                exact ⟨⟨k + 1, by omega, by go_num, by rw [HLK.out], M11.out.drewN _⟩, by simp [intOf]; omega⟩
            · obtain rfl : k = n3 := by omega
              have HT : Hid ((lookV (a9.L.take k) s).isSome = rv) := Lib.hid (by rw [List.take_of_length_le (by rw [HN8.out]; exact Nat.le_refl _)]; exact Q2.out.symm)
              rw [HT.out]
              have S11 := Lib.hid (S10.out.nil M11.out)
              have P11 := Lib.hid (P10.out.nil M11.out)
              have HPM : Hid (∀ V, Mods Nil wr V → Calls Try.prog 20 #[.pointer (some ⟨b, 0, none⟩)] V fun e W' => e = .returned (.int .u64 (p8 : Int)) ∧ Mods Nil V W') := Lib.hid (fun V hV => by have h := (S11.out.nil hV).promised; rw [HPL8.out.1] at h; exact h)
              have HLM : Hid (∀ V, Mods Nil wr V → Calls Try.prog 21 #[.pointer (some ⟨b, 0, none⟩)] V fun e W' => e = .returned (.int .u64 (l8 : Int)) ∧ Mods Nil V W') := Lib.hid (fun V hV => by have h := (S11.out.nil hV).low_; rw [HPL8.out.2] at h; exact h)
              have t0 : ∀ V, Mods Nil wr V → V.cell? ⟨g5, 0, none⟩ = some (.int .u64 (p8 : Int)) := fun V hV => (HB8.out V (M10.out.trans (M11.out.trans hV))).1
              have t1 : ∀ V, Mods Nil wr V → V.cell? ⟨g5, 1, none⟩ = some (.int .u64 (l8 : Int)) := fun V hV => (HB8.out V (M10.out.trans (M11.out.trans hV))).2.1
              have hrr : (rv != rv) = false := by simp
              clear h0 h1 h3 v0 v1 v2 HB8 HZ8
              go_wp2
              go_region_held (fun W => Mods Nil wr W) (first | assumption | exact (Mods.refl Nil wr).drew) (first
                | (go_at_call 21; have hx := hz1'; clear hx; refine (HLM.out _ hz1').mono ?_; rintro e z2 ⟨rfl, y2⟩; have hz2' : Mods Nil wr z2 := Mods.trans hz1' y2; clear y2)
                | (go_at_call 20; refine (HPM.out _ (Mods.refl Nil wr).drew).mono ?_; rintro e z1 ⟨rfl, y1⟩; have hz1' : Mods Nil wr z1 := Mods.trans (Mods.refl Nil wr).drew y1; clear y1))
              all_goals
                go_wp2
                exact ⟨⟨i + 1, a9, A3, c3, k, (XN X1 w2 w3), by omega, by omega, by go_num, S11.out.nil (by assumption), P11.out.nil (by assumption)⟩, by simp [intOf]; omega⟩
      have hu1I : (u == 1) = false := by rw [beq_eq_false_iff_ne]; exact hu1
      by_cases hu2 : u = 2
      · subst hu2
        as_aux_lemma =>
          obtain ⟨a9, ha9⟩ : ∃ a9, a.accept ⟨s, bal, xs⟩ = a9 := ⟨_, rfl⟩
          obtain ⟨E, hE⟩ : ∃ E, a.accE ⟨s, bal, xs⟩ = E := ⟨_, rfl⟩
          have HC := Lib.hid (S1.out.acc (by omega) (v := ⟨s, bal, xs⟩) (n := q) (c := cb) (A := B) HS64.out HBAL.out HQ.out (by omega) (HWV.out _ S1.out.m))
          rw [ha9, hE] at HC
          simp only at HC
          have HR : Hid (∀ V, PR V X1 g5 a A5 n5 c5 → Calls Try.prog 16 #[.agg #[.int .u64 (p0 : Int), .int .u64 (l0 : Int), .slice A5 n5 c5], .agg #[.int .u64 (s : Int), .int .u64 (bal : Int), .string (strOf xs)]] V fun e W' => ∃ A' c' n', e = .returned (.tuple #[.agg #[.int .u64 (a9.prom : Int), .int .u64 (a9.low : Int), .slice A' n' c'], .int .i64 (E : Int)]) ∧ RVs W' A' c' n' a9.L ∧ (∀ x, A' = some x → A5 = some x ∨ V.heap.size ≤ x.block) ∧ Mods Nil V W') := Lib.hid (fun V hV => by
            have h := r13acc_any V hV.r (by omega) HSA.out.rise ⟨s, bal, xs⟩
            unfold RAcc acC at h
            rw [ha9, hE, HPL.out.1, HPL.out.2] at h
            exact h)
          clear ha9 hE
          go_wp2_with (first
            | (go_at_call 16; refine (HR.out _ P2.out).mono ?_; rintro e w3 ⟨A3, c3, n3, rfl, r3, ha3, mm3⟩; have R3 := Lib.hid r3; have HA3 := Lib.hid ha3; have M3 := Lib.hid mm3; have P3 := Lib.hid (P2.out.nil mm3); have S3 := Lib.hid (S2.out.more mm3 (Y := XN X1 w2 w3) (fun k hk => hk)); have z1 := (World.cell?_of_block (a := ⟨gx, 1, none⟩) (mm3.block gx HGX2.out (fun h => h))).trans Z2.out; have Z3 := Lib.hid z1; have HGX3 : Hid (gx < w3.heap.size) := Lib.hid (Nat.lt_of_lt_of_le HGX2.out mm3.size); clear r3 ha3 mm3 k0 k1 k2)
            | (go_at_call 15; refine (HC.out).mono ?_; rintro e w2 ⟨rfl, s2, mm2⟩; obtain ⟨z0, z1, z2, z3⟩ := HXB.out w2 mm2; have P2 := Lib.hid (P1.out.mods mm2); have S2 := Lib.hid s2; have Z2 := Lib.hid z1; have HGX2 : Hid (gx < w2.heap.size) := Lib.hid (Nat.lt_of_lt_of_le BX.out.lt mm2.size); obtain ⟨k0, k1, k2⟩ := HBOX.out _ P2.out; have hcv := conv13 HQ.out (HWV.out w2 s2.m); clear s2 mm2)
            | (refine wpList_store_mk rfl 29 (.tmp 5) (.tmp 110) rfl rfl g5 rfl 29 #[.int .u64 (p0 : Int), .int .u64 (l0 : Int), .slice A5 n5 c5] #[.int .u64 (a9.prom : Int), .int .u64 (a9.low : Int), .slice A3 n3 c3] rfl (by have h := P3.out.box; unfold acC at h; rw [HPL.out.1, HPL.out.2] at h; exact h) rfl (by simp [Value.oneCell']) ac_info (by simp [Value.cells]) ?_; intro w8 b8 m8; have S8 := Lib.hid (S3.out.keep m8 (fun q hq => by subst hq; exact ⟨.inl P1.out.xg, HG5.out⟩)); have P8 : Hid (PR w8 (XN X1 w2 w3) g5 a9 A3 n3 c3) := Lib.hid ((P3.out.sub (fun k hk => .inl hk)).put R3.out (fun x hx => by rcases HA3.out x hx with h | h; exact .inl (P1.out.xa x h); exact .inr ⟨h, R3.out.lt hx⟩) b8 m8); have HGXL : Hid (gx < w8.heap.size) := Lib.hid (Nat.lt_of_lt_of_le HGX3.out m8.size); have Z8 := Lib.hid ((World.cell?_of_block (a := ⟨gx, 1, none⟩) (m8.block gx HGX3.out (fun e => HNE.out e))).trans Z3.out); have z1 := Z8.out; clear b8 m8))
          have hn3 : n3 ≤ 41 := by have h1 := P8.out.r.len; have h2 := S8.out.len; omega
          have HN8 := Lib.hid P8.out.r.len
          have HRISE := Lib.hid S8.out.rise
          obtain ⟨p8, hp8⟩ : ∃ x, a9.prom = x := ⟨_, rfl⟩
          obtain ⟨l8, hl8⟩ : ∃ x, a9.low = x := ⟨_, rfl⟩
          have HPL8 := Lib.hid (And.intro hp8 hl8)
          have HB8 : Hid (∀ V, Mods Nil w8 V → (V.cell? ⟨g5, 0, none⟩ = some (.int .u64 (p8 : Int)) ∧ V.cell? ⟨g5, 1, none⟩ = some (.int .u64 (l8 : Int)) ∧ V.cell? ⟨g5, 2, none⟩ = some (.slice A3 n3 c3))) := Lib.hid (fun V hV => by have h := (P8.out.nil hV).box; unfold acC at h; rw [HPL8.out.1, HPL8.out.2] at h; exact h.three)
          have HZ8 : Hid (∀ V, Mods Nil w8 V → V.cell? ⟨gx, 1, none⟩ = some (.int .u64 (s : Int))) := Lib.hid (fun V hV => (World.cell?_of_block (a := ⟨gx, 1, none⟩) (hV.block gx HGXL.out (fun h => h))).trans Z8.out)
          clear hp8 hl8
          refine (S8.out.voted (by omega) HS64.out).mono ?_
          rintro e w9 ⟨qv, rv, rfl, hq1, hq2, hq3, s9, m9⟩
          have M9 := Lib.hid m9
          have S9 := Lib.hid s9
          have Q1 := Lib.hid hq1
          have Q2 := Lib.hid hq2
          have Q3 := Lib.hid hq3
          clear hq1 hq2 hq3 s9 m9
          obtain ⟨vs, hvs⟩ : ∃ x, qv.slot = x := ⟨_, rfl⟩
          obtain ⟨vb, hvb⟩ : ∃ x, qv.bal = x := ⟨_, rfl⟩
          obtain ⟨vv, hvv⟩ : ∃ x, qv.val = x := ⟨_, rfl⟩
          obtain ⟨vn, hvn⟩ : ∃ x, vv.length = x := ⟨_, rfl⟩
          rw [hvs, hvb, hvv, hvn]
          rw [hvv] at Q1
          have HVN := Lib.hid hvn
          have HVP : Hid (qv.plain = ⟨vs, vb, vv⟩) := Lib.hid (by unfold VtP.plain; rw [hvs, hvb, hvv])
          obtain ⟨VA, hVA⟩ : ∃ x, qv.A = x := ⟨_, rfl⟩
          obtain ⟨vc, hvc⟩ : ∃ x, qv.c = x := ⟨_, rfl⟩
          rw [hVA, hvc] at Q1 ⊢
          obtain ⟨gv, hgv⟩ : ∃ gv, w9.heap.size = gv := ⟨_, rfl⟩
          obtain ⟨W10, hW10⟩ : ∃ W, w9.alloc (.cells #[.int .u64 (vs : Int), .int .u64 (vb : Int), .slice VA vn vc] 43) = W := ⟨_, rfl⟩
          have BV : Hid (Blk W10 gv 43 #[.int .u64 (vs : Int), .int .u64 (vb : Int), .slice VA vn vc]) := Lib.hid (by rw [← hW10, ← hgv]; exact Blk.new w9 _ _)
          have m910 : Mods Nil w9 W10 := by rw [← hW10]; exact (Mods.refl Nil w9).alloc _
          have M10 := Lib.hid (M9.out.trans m910)
          have S10 := Lib.hid (S9.out.nil m910)
          have QS := Lib.hid (Q1.out.mods m910 (fun _ _ h => h))
          have P10 := Lib.hid (P8.out.nil M10.out)
          clear hvs hvb hvv hvn hVA hvc m910 Q1
          go_wp2
          go_loopw [17, 18] (fun hd x wr => ∃ k, k ≤ n3 ∧ x = .int .i64 (k : Int) ∧ hd = .bool (lookV (a9.L.take k) s).isSome ∧ Mods Nil W10 wr) (fun _ x _ => n3 - (intOf x).toNat)
          case atStart => exact ⟨0, Nat.zero_le _, rfl, by simp [lookV], Mods.refl _ _⟩
          case round =>
            obtain ⟨k, hk, rfl, rfl, hm11⟩ := hrel
            have M11 := Lib.hid hm11
            clear hm11
            obtain ⟨h0, h1, h2⟩ := HB8.out wr (M10.out.trans M11.out)
            have h3 := HZ8.out wr (M10.out.trans M11.out)
            have bv := BV.out.mods M11.out (fun h => h)
            obtain ⟨v0, v1, v2⟩ : wr.cell? ⟨gv, 0, none⟩ = some (.int .u64 (vs : Int)) ∧ wr.cell? ⟨gv, 1, none⟩ = some (.int .u64 (vb : Int)) ∧ wr.cell? ⟨gv, 2, none⟩ = some (.slice VA vn vc) := bv.three
            clear bv
            by_cases hkn : k < n3
            · have hknI : (k : Int) < (n3 : Int) := by omega
              have hkL : k < a9.L.length := by rw [HN8.out]; exact hkn
              obtain ⟨x, hx⟩ : ∃ x, a9.L[k]? = some x := ⟨_, List.getElem?_eq_getElem hkL⟩
              obtain ⟨b8, o8, hA8, hb8, -⟩ := (P10.out.nil M11.out).r.at_ hkn
              have hP := (P10.out.nil M11.out).r
              rw [hA8] at hP
              obtain ⟨c0, c1, c2⟩ := hP.cells hx
              rw [hA8] at h2
              have hsn : a9.L.take (k + 1) = a9.L.take k ++ [x] := by rw [List.take_add_one, hx]; rfl
              have hlk := lookV_snoc (a9.L.take k) x s
              rw [← hsn] at hlk
              have hmem := List.mem_of_getElem? hx
              clear hP hsn hkL
              by_cases hxs : x.slot = s
              · have hqx : qv.plain = x := Q3.out x (by rw [← hxs]; exact lookV_of HRISE.out hmem)
                rw [HVP.out] at hqx
                subst hqx
                simp only at c0 c1 c2 hxs hlk
                subst hxs
                have hcv : ∀ j, (convert 30 9 (.slice VA vn vc)).run Try.prog (wr.drewN j) = .ok (.string (strOf vv)) (wr.drewN j) := fun j => conv13 HVN.out ((QS.out.mods M11.out (fun _ _ h => h)).drewN j)
                have hst := strOf_toList vv
                have HLK := Lib.hid (show (lookV (a9.L.take (k + 1)) vs).isSome = true by rw [hlk]; simp)
                clear hlk hmem hx hb8
                go_wp2
                go_quiet (fail)
                go_wp2
                go_quiet (fail)
                go_wp2
                exact ⟨⟨k + 1, by omega, by go_num, by rw [HLK.out], M11.out.drewN _⟩, by simp [intOf]; omega⟩
              · have hxI : ((x.slot : Int) == (s : Int)) = false := by rw [beq_eq_false_iff_ne]; omega
                have hxN : (x.slot == s) = false := by rw [beq_eq_false_iff_ne]; exact hxs
                obtain ⟨xs0, hxs0⟩ : ∃ y, x.slot = y := ⟨_, rfl⟩
                rw [hxs0] at c0 hxI hxN
                have HLK := Lib.hid (show (lookV (a9.L.take (k + 1)) s).isSome = (lookV (a9.L.take k) s).isSome by rw [hlk]; simp [hxs])
                clear hlk hmem hx hb8 hxs hxs0
                go_wp2
                go_quiet (fail)
                go_wp2
                exact ⟨⟨k + 1, by omega, by go_num, by rw [HLK.out], M11.out.drewN _⟩, by simp [intOf]; omega⟩
            · obtain rfl : k = n3 := by omega
              have HT : Hid ((lookV (a9.L.take k) s).isSome = rv) := Lib.hid (by rw [List.take_of_length_le (by rw [HN8.out]; exact Nat.le_refl _)]; exact Q2.out.symm)
              rw [HT.out]
              have S11 := Lib.hid (S10.out.nil M11.out)
              have P11 := Lib.hid (P10.out.nil M11.out)
              have HPM : Hid (∀ V, Mods Nil wr V → Calls Try.prog 20 #[.pointer (some ⟨b, 0, none⟩)] V fun e W' => e = .returned (.int .u64 (p8 : Int)) ∧ Mods Nil V W') := Lib.hid (fun V hV => by have h := (S11.out.nil hV).promised; rw [HPL8.out.1] at h; exact h)
              have HLM : Hid (∀ V, Mods Nil wr V → Calls Try.prog 21 #[.pointer (some ⟨b, 0, none⟩)] V fun e W' => e = .returned (.int .u64 (l8 : Int)) ∧ Mods Nil V W') := Lib.hid (fun V hV => by have h := (S11.out.nil hV).low_; rw [HPL8.out.2] at h; exact h)
              have t0 : ∀ V, Mods Nil wr V → V.cell? ⟨g5, 0, none⟩ = some (.int .u64 (p8 : Int)) := fun V hV => (HB8.out V (M10.out.trans (M11.out.trans hV))).1
              have t1 : ∀ V, Mods Nil wr V → V.cell? ⟨g5, 1, none⟩ = some (.int .u64 (l8 : Int)) := fun V hV => (HB8.out V (M10.out.trans (M11.out.trans hV))).2.1
              have hrr : (rv != rv) = false := by simp
              clear h0 h1 h3 v0 v1 v2 HB8 HZ8
              go_wp2
              go_region_held (fun W => Mods Nil wr W) (first | assumption | exact (Mods.refl Nil wr).drew) (first
                | (go_at_call 21; have hx := hz1'; clear hx; refine (HLM.out _ hz1').mono ?_; rintro e z2 ⟨rfl, y2⟩; have hz2' : Mods Nil wr z2 := Mods.trans hz1' y2; clear y2)
                | (go_at_call 20; refine (HPM.out _ (Mods.refl Nil wr).drew).mono ?_; rintro e z1 ⟨rfl, y1⟩; have hz1' : Mods Nil wr z1 := Mods.trans (Mods.refl Nil wr).drew y1; clear y1))
              all_goals
                go_wp2
                exact ⟨⟨i + 1, a9, A3, c3, k, (XN X1 w2 w3), by omega, by omega, by go_num, S11.out.nil (by assumption), P11.out.nil (by assumption)⟩, by simp [intOf]; omega⟩
      have hu2I : (u == 2) = false := by rw [beq_eq_false_iff_ne]; exact hu2
      as_aux_lemma =>
        obtain ⟨a9, ha9⟩ : ∃ a9, a.forget s = a9 := ⟨_, rfl⟩
        have HC := Lib.hid (S1.out.forg (s := s) (by omega) HS64.out)
        rw [ha9] at HC
        have HR : Hid (∀ V, PR V X1 g5 a A5 n5 c5 → Calls Try.prog 18 #[.agg #[.int .u64 (p0 : Int), .int .u64 (l0 : Int), .slice A5 n5 c5], .int .u64 (s : Int)] V fun e W' => ∃ A' c' n', e = .returned (.agg #[.int .u64 (a9.prom : Int), .int .u64 (a9.low : Int), .slice A' n' c']) ∧ RVs W' A' c' n' a9.L ∧ (∀ x, A' = some x → A5 = some x ∨ V.heap.size ≤ x.block) ∧ Mods Nil V W') := Lib.hid (fun V hV => by
          have h := r13forg_any V hV.r (by omega) s
          unfold RForg acC at h
          rw [ha9, HPL.out.1, HPL.out.2] at h
          exact h)
        clear ha9
        go_wp2_with (first
          | (go_at_call 18; refine (HR.out _ P2.out).mono ?_; rintro e w3 ⟨A3, c3, n3, rfl, r3, ha3, mm3⟩; have R3 := Lib.hid r3; have HA3 := Lib.hid ha3; have M3 := Lib.hid mm3; have P3 := Lib.hid (P2.out.nil mm3); have S3 := Lib.hid (S2.out.more mm3 (Y := XN X1 w2 w3) (fun k hk => hk)); have z1 := (World.cell?_of_block (a := ⟨gx, 1, none⟩) (mm3.block gx HGX2.out (fun h => h))).trans Z2.out; have Z3 := Lib.hid z1; have HGX3 : Hid (gx < w3.heap.size) := Lib.hid (Nat.lt_of_lt_of_le HGX2.out mm3.size); clear r3 ha3 mm3 k0 k1 k2)
          | (go_at_call 17; refine (HC.out).mono ?_; rintro e w2 ⟨rfl, s2, mm2⟩; obtain ⟨z0, z1, z2, z3⟩ := HXB.out w2 mm2; have P2 := Lib.hid (P1.out.mods mm2); have S2 := Lib.hid s2; have Z2 := Lib.hid z1; have HGX2 : Hid (gx < w2.heap.size) := Lib.hid (Nat.lt_of_lt_of_le BX.out.lt mm2.size); obtain ⟨k0, k1, k2⟩ := HBOX.out _ P2.out; clear s2 mm2)
          | (refine wpList_store_mk rfl 29 (.tmp 5) (.tmp 57) rfl rfl g5 rfl 29 #[.int .u64 (p0 : Int), .int .u64 (l0 : Int), .slice A5 n5 c5] #[.int .u64 (a9.prom : Int), .int .u64 (a9.low : Int), .slice A3 n3 c3] rfl (by have h := P3.out.box; unfold acC at h; rw [HPL.out.1, HPL.out.2] at h; exact h) rfl (by simp [Value.oneCell']) ac_info (by simp [Value.cells]) ?_; intro w8 b8 m8; have S8 := Lib.hid (S3.out.keep m8 (fun q hq => by subst hq; exact ⟨.inl P1.out.xg, HG5.out⟩)); have P8 : Hid (PR w8 (XN X1 w2 w3) g5 a9 A3 n3 c3) := Lib.hid ((P3.out.sub (fun k hk => .inl hk)).put R3.out (fun x hx => by rcases HA3.out x hx with h | h; exact .inl (P1.out.xa x h); exact .inr ⟨h, R3.out.lt hx⟩) b8 m8); have HGXL : Hid (gx < w8.heap.size) := Lib.hid (Nat.lt_of_lt_of_le HGX3.out m8.size); have Z8 := Lib.hid ((World.cell?_of_block (a := ⟨gx, 1, none⟩) (m8.block gx HGX3.out (fun e => HNE.out e))).trans Z3.out); have z1 := Z8.out; clear b8 m8))
        have S8' := Lib.hid (S8.out.mono_T (T' := i + 1) (by omega))
        have hn3 : n3 ≤ 41 := by have h1 := P8.out.r.len; have h2 := S8'.out.len; omega
        have HN8 := Lib.hid P8.out.r.len
        have HRISE := Lib.hid S8'.out.rise
        obtain ⟨p8, hp8⟩ : ∃ x, a9.prom = x := ⟨_, rfl⟩
        obtain ⟨l8, hl8⟩ : ∃ x, a9.low = x := ⟨_, rfl⟩
        have HPL8 := Lib.hid (And.intro hp8 hl8)
        have HB8 : Hid (∀ V, Mods Nil w8 V → (V.cell? ⟨g5, 0, none⟩ = some (.int .u64 (p8 : Int)) ∧ V.cell? ⟨g5, 1, none⟩ = some (.int .u64 (l8 : Int)) ∧ V.cell? ⟨g5, 2, none⟩ = some (.slice A3 n3 c3))) := Lib.hid (fun V hV => by have h := (P8.out.nil hV).box; unfold acC at h; rw [HPL8.out.1, HPL8.out.2] at h; exact h.three)
        have HZ8 : Hid (∀ V, Mods Nil w8 V → V.cell? ⟨gx, 1, none⟩ = some (.int .u64 (s : Int))) := Lib.hid (fun V hV => (World.cell?_of_block (a := ⟨gx, 1, none⟩) (hV.block gx HGXL.out (fun h => h))).trans Z8.out)
        clear hp8 hl8
        refine (S8'.out.voted (by omega) HS64.out).mono ?_
        rintro e w9 ⟨qv, rv, rfl, hq1, hq2, hq3, s9, m9⟩
        have M9 := Lib.hid m9
        have S9 := Lib.hid s9
        have Q1 := Lib.hid hq1
        have Q2 := Lib.hid hq2
        have Q3 := Lib.hid hq3
        clear hq1 hq2 hq3 s9 m9
        obtain ⟨vs, hvs⟩ : ∃ x, qv.slot = x := ⟨_, rfl⟩
        obtain ⟨vb, hvb⟩ : ∃ x, qv.bal = x := ⟨_, rfl⟩
        obtain ⟨vv, hvv⟩ : ∃ x, qv.val = x := ⟨_, rfl⟩
        obtain ⟨vn, hvn⟩ : ∃ x, vv.length = x := ⟨_, rfl⟩
        rw [hvs, hvb, hvv, hvn]
        rw [hvv] at Q1
        have HVN := Lib.hid hvn
        have HVP : Hid (qv.plain = ⟨vs, vb, vv⟩) := Lib.hid (by unfold VtP.plain; rw [hvs, hvb, hvv])
        obtain ⟨VA, hVA⟩ : ∃ x, qv.A = x := ⟨_, rfl⟩
        obtain ⟨vc, hvc⟩ : ∃ x, qv.c = x := ⟨_, rfl⟩
        rw [hVA, hvc] at Q1 ⊢
        obtain ⟨gv, hgv⟩ : ∃ gv, w9.heap.size = gv := ⟨_, rfl⟩
        obtain ⟨W10, hW10⟩ : ∃ W, w9.alloc (.cells #[.int .u64 (vs : Int), .int .u64 (vb : Int), .slice VA vn vc] 43) = W := ⟨_, rfl⟩
        have BV : Hid (Blk W10 gv 43 #[.int .u64 (vs : Int), .int .u64 (vb : Int), .slice VA vn vc]) := Lib.hid (by rw [← hW10, ← hgv]; exact Blk.new w9 _ _)
        have m910 : Mods Nil w9 W10 := by rw [← hW10]; exact (Mods.refl Nil w9).alloc _
        have M10 := Lib.hid (M9.out.trans m910)
        have S10 := Lib.hid (S9.out.nil m910)
        have QS := Lib.hid (Q1.out.mods m910 (fun _ _ h => h))
        have P10 := Lib.hid (P8.out.nil M10.out)
        clear hvs hvb hvv hvn hVA hvc m910 Q1
        go_wp2
        go_loopw [17, 18] (fun hd x wr => ∃ k, k ≤ n3 ∧ x = .int .i64 (k : Int) ∧ hd = .bool (lookV (a9.L.take k) s).isSome ∧ Mods Nil W10 wr) (fun _ x _ => n3 - (intOf x).toNat)
        case atStart => exact ⟨0, Nat.zero_le _, rfl, by simp [lookV], Mods.refl _ _⟩
        case round =>
          obtain ⟨k, hk, rfl, rfl, hm11⟩ := hrel
          have M11 := Lib.hid hm11
          clear hm11
          obtain ⟨h0, h1, h2⟩ := HB8.out wr (M10.out.trans M11.out)
          have h3 := HZ8.out wr (M10.out.trans M11.out)
          have bv := BV.out.mods M11.out (fun h => h)
          obtain ⟨v0, v1, v2⟩ : wr.cell? ⟨gv, 0, none⟩ = some (.int .u64 (vs : Int)) ∧ wr.cell? ⟨gv, 1, none⟩ = some (.int .u64 (vb : Int)) ∧ wr.cell? ⟨gv, 2, none⟩ = some (.slice VA vn vc) := bv.three
          clear bv
          by_cases hkn : k < n3
          · have hknI : (k : Int) < (n3 : Int) := by omega
            have hkL : k < a9.L.length := by rw [HN8.out]; exact hkn
            obtain ⟨x, hx⟩ : ∃ x, a9.L[k]? = some x := ⟨_, List.getElem?_eq_getElem hkL⟩
            obtain ⟨b8, o8, hA8, hb8, -⟩ := (P10.out.nil M11.out).r.at_ hkn
            have hP := (P10.out.nil M11.out).r
            rw [hA8] at hP
            obtain ⟨c0, c1, c2⟩ := hP.cells hx
            rw [hA8] at h2
            have hsn : a9.L.take (k + 1) = a9.L.take k ++ [x] := by rw [List.take_add_one, hx]; rfl
            have hlk := lookV_snoc (a9.L.take k) x s
            rw [← hsn] at hlk
            have hmem := List.mem_of_getElem? hx
            clear hP hsn hkL
            by_cases hxs : x.slot = s
            · have hqx : qv.plain = x := Q3.out x (by rw [← hxs]; exact lookV_of HRISE.out hmem)
              rw [HVP.out] at hqx
              subst hqx
              simp only at c0 c1 c2 hxs hlk
              subst hxs
              have hcv : ∀ j, (convert 30 9 (.slice VA vn vc)).run Try.prog (wr.drewN j) = .ok (.string (strOf vv)) (wr.drewN j) := fun j => conv13 HVN.out ((QS.out.mods M11.out (fun _ _ h => h)).drewN j)
              have hst := strOf_toList vv
              have HLK := Lib.hid (show (lookV (a9.L.take (k + 1)) vs).isSome = true by rw [hlk]; simp)
              clear hlk hmem hx hb8
              go_wp2
              go_quiet (fail)
              go_wp2
              go_quiet (fail)
              go_wp2
              exact ⟨⟨k + 1, by omega, by go_num, by rw [HLK.out], M11.out.drewN _⟩, by simp [intOf]; omega⟩
            · have hxI : ((x.slot : Int) == (s : Int)) = false := by rw [beq_eq_false_iff_ne]; omega
              have hxN : (x.slot == s) = false := by rw [beq_eq_false_iff_ne]; exact hxs
              obtain ⟨xs0, hxs0⟩ : ∃ y, x.slot = y := ⟨_, rfl⟩
              rw [hxs0] at c0 hxI hxN
              have HLK := Lib.hid (show (lookV (a9.L.take (k + 1)) s).isSome = (lookV (a9.L.take k) s).isSome by rw [hlk]; simp [hxs])
              clear hlk hmem hx hb8 hxs hxs0
              go_wp2
              go_quiet (fail)
              go_wp2
              exact ⟨⟨k + 1, by omega, by go_num, by rw [HLK.out], M11.out.drewN _⟩, by simp [intOf]; omega⟩
          · obtain rfl : k = n3 := by omega
            have HT : Hid ((lookV (a9.L.take k) s).isSome = rv) := Lib.hid (by rw [List.take_of_length_le (by rw [HN8.out]; exact Nat.le_refl _)]; exact Q2.out.symm)
            rw [HT.out]
            have S11 := Lib.hid (S10.out.nil M11.out)
            have P11 := Lib.hid (P10.out.nil M11.out)
            have HPM : Hid (∀ V, Mods Nil wr V → Calls Try.prog 20 #[.pointer (some ⟨b, 0, none⟩)] V fun e W' => e = .returned (.int .u64 (p8 : Int)) ∧ Mods Nil V W') := Lib.hid (fun V hV => by have h := (S11.out.nil hV).promised; rw [HPL8.out.1] at h; exact h)
            have HLM : Hid (∀ V, Mods Nil wr V → Calls Try.prog 21 #[.pointer (some ⟨b, 0, none⟩)] V fun e W' => e = .returned (.int .u64 (l8 : Int)) ∧ Mods Nil V W') := Lib.hid (fun V hV => by have h := (S11.out.nil hV).low_; rw [HPL8.out.2] at h; exact h)
            have t0 : ∀ V, Mods Nil wr V → V.cell? ⟨g5, 0, none⟩ = some (.int .u64 (p8 : Int)) := fun V hV => (HB8.out V (M10.out.trans (M11.out.trans hV))).1
            have t1 : ∀ V, Mods Nil wr V → V.cell? ⟨g5, 1, none⟩ = some (.int .u64 (l8 : Int)) := fun V hV => (HB8.out V (M10.out.trans (M11.out.trans hV))).2.1
            have hrr : (rv != rv) = false := by simp
            clear h0 h1 h3 v0 v1 v2 HB8 HZ8
            go_wp2
            go_region_held (fun W => Mods Nil wr W) (first | assumption | exact (Mods.refl Nil wr).drew) (first
              | (go_at_call 21; have hx := hz1'; clear hx; refine (HLM.out _ hz1').mono ?_; rintro e z2 ⟨rfl, y2⟩; have hz2' : Mods Nil wr z2 := Mods.trans hz1' y2; clear y2)
              | (go_at_call 20; refine (HPM.out _ (Mods.refl Nil wr).drew).mono ?_; rintro e z1 ⟨rfl, y1⟩; have hz1' : Mods Nil wr z1 := Mods.trans (Mods.refl Nil wr).drew y1; clear y1))
            all_goals
              go_wp2
              exact ⟨⟨i + 1, a9, A3, c3, k, (XN X1 w2 w3), by omega, by omega, by go_num, S11.out.nil (by assumption), P11.out.nil (by assumption)⟩, by simp [intOf]; omega⟩
    · by_cases hlt : i < n
      · have hi4 : decide ((i : Int) < 40) = false := by simp; omega
        have hi4N : decide (i < 40) = false := by simp; omega
        have hltI : decide ((i : Int) < (n : Int)) = true := by simp; omega
        have hltN : decide (i < n) = true := by simp; omega
        clear hgo hlt
        have SN := Lib.hid HSA.out.m
        go_wp2_with (first
          | (go_at_call 21; refine (acc_low_nil _).mono ?_; rintro e z6 ⟨rfl, y6⟩; have M7 := Lib.hid (M6.out.trans y6); clear y6)
          | (go_at_call 20; refine (acc_prom_nil _).mono ?_; rintro e z5 ⟨rfl, y5⟩; have M6 := Lib.hid (M5.out.trans y5); clear y5)
          | (go_at_call 15; refine (acc_acc_nil _).mono ?_; rintro e z4 ⟨rfl, y4⟩; have M5 := Lib.hid (M4.out.trans y4); clear y4)
          | (go_at_call 19; refine (acc_voted_nil _ _).mono ?_; rintro e z3 ⟨q1, q2, q3, q4, q5, rfl, y3⟩; have M4 := Lib.hid ((M3.out.trans y3).alloc (.cells #[.int .u64 q1, .int .u64 q2, .slice q3 q4 q5] 43)); clear y3)
          | (go_at_call 11; refine (acc_prep_nil _ _ _).mono ?_; rintro e z2 ⟨v2, rfl, y2⟩; have M3 := Lib.hid (M2.out.trans y2); clear y2)
          | (go_at_call 17; refine (acc_forg_nil _ _).mono ?_; rintro e z1 ⟨rfl, y1⟩; have M2 := Lib.hid ((M1.out.trans SN.out).trans y1); clear y1))
        go_ret
        exact ⟨rfl, M7.out⟩
      · have hltI : decide ((i : Int) < (n : Int)) = false := by simp; omega
        have hltN : decide (i < n) = false := by simp; omega
        clear hgo hlt
        have SN := Lib.hid HSA.out.m
        go_wp2_with (first
          | (go_at_call 21; refine (acc_low_nil _).mono ?_; rintro e z6 ⟨rfl, y6⟩; have M7 := Lib.hid (M6.out.trans y6); clear y6)
          | (go_at_call 20; refine (acc_prom_nil _).mono ?_; rintro e z5 ⟨rfl, y5⟩; have M6 := Lib.hid (M5.out.trans y5); clear y5)
          | (go_at_call 15; refine (acc_acc_nil _).mono ?_; rintro e z4 ⟨rfl, y4⟩; have M5 := Lib.hid (M4.out.trans y4); clear y4)
          | (go_at_call 19; refine (acc_voted_nil _ _).mono ?_; rintro e z3 ⟨q1, q2, q3, q4, q5, rfl, y3⟩; have M4 := Lib.hid ((M3.out.trans y3).alloc (.cells #[.int .u64 q1, .int .u64 q2, .slice q3 q4 q5] 43)); clear y3)
          | (go_at_call 11; refine (acc_prep_nil _ _ _).mono ?_; rintro e z2 ⟨v2, rfl, y2⟩; have M3 := Lib.hid (M2.out.trans y2); clear y2)
          | (go_at_call 17; refine (acc_forg_nil _ _).mono ?_; rintro e z1 ⟨rfl, y1⟩; have M2 := Lib.hid ((M1.out.trans SN.out).trans y1); clear y1))
        go_ret
        exact ⟨rfl, M7.out⟩
end Go.Proofs.Ythkejoabppocoaa
