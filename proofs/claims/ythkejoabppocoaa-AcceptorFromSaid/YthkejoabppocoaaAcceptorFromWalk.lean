/- AcceptorFrom's walk. -/
import Derived.Test.YthkejoabppocoaaHelp13
import Derived.Test.YthkejoabppocoaaOpen
import Derived.Deep.QuietTactic
import Derived.BigQuiet
namespace Go.Proofs.Ythkejoabppocoaa
set_option maxRecDepth 1000000
open Go.RowKit
set_option linter.unusedVariables false
set_option linter.unusedSimpArgs false

/-- What 'last' has at a slot. -/
def lastV (l : List PVt) (k : Nat) : Value := match lookV l k with | some v => .int .i64 ((v.bal + 1 : Nat) : Int) | none => .int .i64 0
theorem lastV_ins (v : PVt) {l : List PVt} (h : riseV l) (k : Nat) : lastV (insV v l) k = if k = v.slot then .int .i64 ((v.bal + 1 : Nat) : Int) else lastV l k := by
  unfold lastV
  rw [lookV_ins v h k]
  by_cases hk : k = v.slot
  · rw [if_pos hk, if_pos hk]
  · rw [if_neg hk, if_neg hk]
/-- What the votes of this law look like. -/
structure FromP (a : PAc) (i : Nat) : Prop where
  prom : a.prom ≤ i
  low : a.low = 0
  vs : ∀ v ∈ a.L, v.slot < 16 ∧ v.bal < i ∧ v.val = [UInt8.ofNat v.bal]
theorem FromP.next {a : PAc} {i k : Nat} (h : FromP a i) (hk : k < 16) : a.accept ⟨k, i, [UInt8.ofNat i]⟩ = { prom := i, low := 0, L := insV ⟨k, i, [UInt8.ofNat i]⟩ a.L } ∧ FromP { prom := i, low := 0, L := insV ⟨k, i, [UInt8.ofNat i]⟩ a.L } (i + 1) := by
  have hp := h.prom
  have hl := h.low
  have h1 := (accept_ok (a := a) (v := ⟨k, i, [UInt8.ofNat i]⟩) (by simp; omega) (by simp; omega)).1
  rw [hl] at h1
  refine ⟨h1, by simp, rfl, fun v hv => ?_⟩
  rcases insV_mem hv with rfl | hv
  · exact ⟨hk, by simp, rfl⟩
  · obtain ⟨a1, a2, a3⟩ := h.vs v hv
    exact ⟨a1, by omega, a3⟩

set_option maxHeartbeats 6400000 in
theorem acceptorFrom_walk (w : World) {A : Option Addr} {c n : Nat} {xs : List UInt8} (hn : xs.length = n) (hs : Sl w A c (bts xs)) {fi : Int} (wf : (Lit.int .u8 fi).wf = true) {xi : Int} (wx : (Lit.int .u8 xi).wf = true) :
    Calls Try.prog 7 #[.slice A n c, .int .u8 fi, .int .u8 xi] w fun e w' => e = .returned (.bool true) ∧ Mods Nil w w' := by
  obtain ⟨i0, hi0, hz0, hz1, hz2⟩ := info_parts infoInt13
  have hf0 := u8_of_wf wf
  obtain ⟨f, rfl⟩ : ∃ f : UInt8, fi = (f.toNat : Int) := ⟨UInt8.ofNat fi.toNat, by simp; omega⟩
  obtain ⟨ff, hff⟩ : ∃ ff, f.toNat % 16 = ff := ⟨_, rfl⟩
  have hfand : bits .and .u8 (f.toNat : Int) 15 = (ff : Int) := by rw [u8_and15', hff]
  have hff16 : ff < 16 := by omega
  clear wf wx hf0 hff
  have HS := Lib.hid hs
  have HN := Lib.hid hn
  clear hs hn
  by_cases h30 : 30 < n
  · have h30I : decide ((30 : Int) < (n : Int)) = true := by simp; omega
    have h30N : decide (30 < n) = true := by simp; omega
    go_enter Try.func7, Try.ntmps7
    go_wp2_with (go_at_call 9; refine (awake13_any _).mono ?_; rintro e w1 ⟨rfl, m1⟩; have M1 := Lib.hid m1; clear m1)
    go_ret
    exact ⟨rfl, M1.out⟩
  have h30I : decide ((30 : Int) < (n : Int)) = false := by simp; omega
  have h30N : decide (30 < n) = false := by simp; omega
  go_enter Try.func7, Try.ntmps7
  go_wp2_with (first
    | (go_at_call 9; refine (awake13_any _).mono ?_; rintro e w1 ⟨rfl, m1⟩; have M1 := Lib.hid m1; clear m1)
    | (go_at_call 10; refine (acc_new _).mono ?_; rintro e w2 ⟨b, rfl, s2⟩; have S2 := Lib.hid s2; clear s2)
    | (at_make; go_loud (refine wpList_make_row _ rfl _ _ 64 rfl 3 i0 (.int .i64 0) Try.underlying64 hi0 hz0 hz1 rfl .i64 .i64 16 rfl rfl (by rw [hz2]; omega) (by omega) ?_); rw [made_rowF _ rfl 16]; have B3 := Lib.hid (Blk.new w2 3 (rowF (fun _ => .int .i64 0) 16)); have S3 := Lib.hid (S2.out.more ((Mods.refl Nil w2).alloc (.cells (rowF (fun _ => .int .i64 0) 16) 3)) (Y := fun k => k = w2.heap.size) (fun k hk => .inr ⟨by omega, by simp; omega⟩)); obtain ⟨w3, hw3⟩ : ∃ w3, w2.alloc (.cells (rowF (fun _ => .int .i64 0) 16) 3) = w3 := ⟨_, rfl⟩; obtain ⟨g, hg⟩ : ∃ g, w2.heap.size = g := ⟨_, rfl⟩; rw [hw3, hg] at S3 B3; rw [hw3, hg]; clear hw3))
  obtain ⟨W0, hW0⟩ : ∃ W0, w1 = W0 := ⟨_, rfl⟩
  have HGW : Hid (W0.heap.size ≤ g) := Lib.hid (by rw [← hW0, ← hg]; exact S2.out.m.size)
  rw [hW0] at M1 S2 S3
  have HL0 : Hid (∀ k, lastV [] k = .int .i64 0) := Lib.hid (fun k => rfl)
  go_loopw [10] (fun x wr => ∃ (i : Nat) (a : PAc), i ≤ n ∧ x = .int .i64 (i : Int) ∧ FromP a i ∧ AccS W0 wr (fun k => k = g) b a i ∧ Blk wr g 3 (rowF (lastV a.L) 16)) (fun x _ => n - (intOf x).toNat)
  case atStart => exact ⟨0, {}, Nat.zero_le _, rfl, ⟨Nat.le_refl _, rfl, fun v hv => by cases hv⟩, S3.out, B3.out⟩
  case round =>
    obtain ⟨i, a, hi, rfl, hp, hsa, hba⟩ := hrel
    have HP := Lib.hid hp
    have HSA := Lib.hid hsa
    have HBA := Lib.hid hba
    clear hp hsa hba
    by_cases hlt : i < n
    · have hltI : (i : Int) < (n : Int) := by omega
      obtain ⟨b1, o1, rfl, hb1, hcell⟩ := sl_byte13 (HS.out.mods (M1.out.trans HSA.out.m) (fun _ _ h => h)) (j := i) (by rw [HN.out]; exact hlt)
      obtain ⟨v, hv⟩ : ∃ v, xs[i]'(by rw [HN.out]; exact hlt) = v := ⟨_, rfl⟩
      rw [hv] at hcell
      obtain ⟨k, hk⟩ : ∃ k, v.toNat % 16 = k := ⟨_, rfl⟩
      have hand : bits .and .u8 (v.toNat : Int) 15 = (k : Int) := by rw [u8_and15', hk]
      have hk16 : k < 16 := by omega
      have hk16I : (k : Int) < 16 := by omega
      have hwi8 : IntKind.u8.wrap (i : Int) = (i : Int) := by rw [IntKind.wrap_u8']; omega
      have hwi : IntKind.u64.wrap (i : Int) = (i : Int) := by rw [IntKind.wrap_u64]; omega
      have hwk : IntKind.u64.wrap (k : Int) = (k : Int) := by rw [IntKind.wrap_u64]; omega
      obtain ⟨hacc, hnext⟩ := HP.out.next hk16
      obtain ⟨a', ha'⟩ : ∃ a' : PAc, { prom := i, low := 0, L := insV ⟨k, i, [UInt8.ofNat i]⟩ a.L } = a' := ⟨_, rfl⟩
      have HA' := Lib.hid ha'
      rw [ha'] at hacc hnext
      have haE := (accept_ok (a := a) (v := ⟨k, i, [UInt8.ofNat i]⟩) (by have := HP.out.prom; simp; omega) (by rw [HP.out.low]; simp)).2
      have HNEXT := Lib.hid hnext
      have hgl : g < wr.heap.size := HBA.out.lt
      obtain ⟨G, hG⟩ : ∃ G, wr.heap.size = G := ⟨_, rfl⟩
      have S1 := Lib.hid (HSA.out.more ((Mods.refl Nil wr).alloc (.cells #[.int .u8 (i : Int)] 5)) (Y := fun q => q = g ∨ q = G) (fun q hq => by
        rcases hq with rfl | rfl
        · exact .inl rfl
        · exact .inr ⟨by omega, by simp; omega⟩))
      have C1 := Lib.hid (Blk.new wr 5 #[.int .u8 (i : Int)])
      have R1 := Lib.hid (HBA.out.alloc (.cells #[.int .u8 (i : Int)] 5))
      have HACC : Hid (Calls Try.prog 15 #[.pointer (some ⟨b, 0, none⟩), .agg #[.int .u64 (k : Int), .int .u64 (i : Int), .slice (some ⟨G, 0, none⟩) 1 1]] (wr.alloc (.cells #[.int .u8 (i : Int)] 5)) fun e W' => e = .returned (.int .i64 0) ∧ AccS W0 W' (fun q => q = g ∨ q = G) b a' (i + 1) ∧ Mods (AM W0 (fun q => q = g ∨ q = G)) (wr.alloc (.cells #[.int .u8 (i : Int)] 5)) W') := Lib.hid (by
        have h := S1.out.acc (v := ⟨k, i, [UInt8.ofNat i]⟩) (n := 1) (c := 1) (A := some ⟨G, 0, none⟩) (by omega) (by simp; omega) (by simp; omega) rfl (by omega) (by rw [← hG]; exact one_byte13 wr 5 (by omega))
        rw [hacc, haE] at h
        exact h)
      have HG0 := Lib.hid HGW.out
      have HW0 := Lib.hid (show W0.heap.size ≤ wr.heap.size from HSA.out.m.size)
      clear hv hk hacc hnext haE ha'
      rw [hG] at C1
      go_wp2_with (go_at_call 15; go_loud (refine (HACC.out).mono ?_); rintro e w4 ⟨rfl, s4, m4⟩; have S4 := Lib.hid s4; have hr4 := R1.out.mods m4 (fun h => h.2 (.inl rfl)); have hc4 := C1.out.mods m4 (fun h => h.2 (.inr rfl)); have R4 := Lib.hid hr4; have C4 := Lib.hid hc4; have c40 := hc4.cell 0; have f40 := hc4.frozen 0; have hz : ∀ z, (w4.setCell ⟨G, 0, none⟩ z).cell? ⟨g, k, none⟩ = some (lastV a.L k) := (fun z => (hr4.far (by show g ≠ G; omega) z).rowcell hk16); have hy : ∀ z, (w4.setCell ⟨G, 0, none⟩ z).frozen? ⟨g, k, none⟩ = false := (fun z => (hr4.far (by show g ≠ G; omega) z).frozen k); clear s4 m4 hr4 hc4)
      obtain ⟨z, hz0⟩ : ∃ z, Value.int .u8 (bits .xor .u8 (i : Int) xi) = z := ⟨_, rfl⟩
      rw [hz0]
      have hm5 : Mods (fun q => q = g ∨ q = G) w4 ((w4.setCell ⟨G, 0, none⟩ z).setCell ⟨g, k, none⟩ (.int .i64 ((i : Int) + 1))) :=
        Mods.setCell (S := fun q => q = g ∨ q = G) (p := ⟨g, k, none⟩) (Mods.setCell (S := fun q => q = g ∨ q = G) (p := ⟨G, 0, none⟩) (Mods.refl _ _) (fun _ => .inr rfl) z) (fun _ => .inl rfl) _
      have hs5 := S4.out.keep hm5 (fun q hq => ⟨hq, by rcases hq with rfl | rfl; exact HG0.out; have := HW0.out; omega⟩)
      refine ⟨⟨i + 1, a', by omega, by go_num, HNEXT.out, hs5.more (Mods.refl _ _) (fun q hq => .inl (.inl hq)), ?_⟩, by simp [intOf]; omega⟩
      have hr5 := (R4.out.far (p := ⟨G, 0, none⟩) (by show g ≠ G; omega) z).rowset k (.int .i64 ((i : Int) + 1))
      have he : rowF (fun j => if j = k then Value.int .i64 ((i : Int) + 1) else lastV a.L j) 16 = rowF (lastV a'.L) 16 := rowF_congr (fun j _ => by
        rw [← HA'.out, lastV_ins _ HSA.out.rise]
        simp)
      rw [he] at hr5
      exact hr5
    · obtain rfl : i = n := by omega
      have hS0 := HP.out
      have hlowz := hS0.low
      have hprom := hS0.prom
      obtain ⟨E1, hE1⟩ : ∃ E1, fromV ff a.L = E1 := ⟨_, rfl⟩
      obtain ⟨m, hm⟩ : ∃ m, E1.length = m := ⟨_, rfl⟩
      have HE1 := Lib.hid hE1
      have HM := Lib.hid hm
      have hm30 : m ≤ 30 := by have h1 := fromV_le ff a.L; have h2 := HSA.out.len; rw [hE1, hm] at h1; omega
      have hp1 : a.prepE 99 = 0 ∧ a.told 99 ff = E1 ∧ (a.prepare 99) = { a with prom := 99 } ∧ PAc.prepE { a with prom := 99 } 99 = 0 ∧ PAc.told { a with prom := 99 } 99 ff = E1 := by
        unfold PAc.prepE PAc.told PAc.prepare
        rw [if_neg (by omega), if_neg (by omega), if_neg (by omega), hE1]
        simp
      have HP1 : Hid (Calls Try.prog 11 #[.pointer (some ⟨b, 0, none⟩), .int .u64 99, .int .u64 (ff : Int)] wr fun e W' => ∃ A c L, e = .returned (.tuple #[.slice A m c, .int .i64 0]) ∧ L.map VtP.plain = E1 ∧ PVs W' (XN (fun _ => False) wr W') A c m L ∧ AccS W0 W' (XN (fun q => q = g) wr W') b { a with prom := 99 } i ∧ Mods (AM W0 (fun q => q = g)) wr W') := Lib.hid ((HSA.out.prep (bal := 99) (f := ff) (by omega) (by omega) (by omega)).mono fun e W' ⟨A, c, n, L, h1, h2, h3, h4, h5⟩ => by
        rw [hp1.1] at h1
        rw [hp1.2.1] at h2
        rw [hp1.2.2.1] at h4
        obtain rfl : n = m := by rw [← h3.len, ← hm, ← h2]; simp
        exact ⟨A, c, L, h1, h2, h3.sub (fun k hk => .inr hk), h4, h5⟩)
      have HP2 : Hid (∀ V, AccS W0 V (XN (fun q => q = g) wr V) b { a with prom := 99 } i → Calls Try.prog 11 #[.pointer (some ⟨b, 0, none⟩), .int .u64 99, .int .u64 (ff : Int)] V fun e W' => ∃ A c L, e = .returned (.tuple #[.slice A m c, .int .i64 0]) ∧ Mods (AM W0 (XN (fun q => q = g) wr V)) V W' ∧ Mods Nil W0 W') := Lib.hid (fun V hV => (hV.prep (bal := 99) (f := ff) (by omega) (by omega) (by omega)).mono fun e W' ⟨A, c, n, L, h1, h2, h3, h4, h5⟩ => by
        rw [hp1.2.2.2.1] at h1
        rw [hp1.2.2.2.2] at h2
        obtain rfl : n = m := by rw [← h3.len, ← hm, ← h2]; simp
        exact ⟨A, c, L, h1, h5, hV.am h5⟩)
      have hwf : IntKind.u64.wrap (ff : Int) = (ff : Int) := by rw [IntKind.wrap_u64]; omega
      have HWF2 : Hid (wrap64 (ff : Int) = (ff : Int)) := Lib.hid (by unfold wrap64; omega)
      have HP3 : Hid (∀ v ∈ a.L, v.slot < 16 ∧ v.bal < i ∧ v.val = [UInt8.ofNat v.bal]) := Lib.hid hS0.vs
      have HRISE := Lib.hid HSA.out.rise
      clear hS0 hlowz hprom hE1 hm hp1
      have hwf2 := HWF2.out
      go_wp2_with (first
        | (go_at_call 11; have hx := S4.out; clear hx; refine (HP2.out _ S4.out).mono ?_; rintro e w5 ⟨A5, c5, L5, rfl, m5, n5⟩; have M5 := Lib.hid n5; have V5 := Lib.hid (V4.out.mods m5 (fun k hk hd => hk.2 (by rcases hd with h | h; exact h.elim; exact .inr h))); have R5 := Lib.hid (R4.out.mods m5 (fun hk => hk.2 (.inl rfl))); clear m5 n5 S4 V4 R4)
        | (go_at_call 11; refine (HP1.out).mono ?_; rintro e w4 ⟨A4, c4, L4, rfl, l4, v4, s4, m4⟩; have L4' := Lib.hid l4; have V4 := Lib.hid v4; have S4 := Lib.hid s4; have R4 := Lib.hid (HBA.out.mods m4 (fun hk => hk.2 rfl)); clear l4 v4 s4 m4))
      have HLL := Lib.hid (show L4.length = m by have := congrArg List.length L4'.out; rw [List.length_map, HM.out] at this; exact this)
      go_loopw [18, 19] (fun x y wr' => ∃ (k p : Nat), ff ≤ k ∧ k ≤ 16 ∧ cntV E1 k = p ∧ x = .int .i64 (p : Int) ∧ y = .int .i64 (k : Int) ∧ Mods Nil w5 wr') (fun _ y _ => 16 - (intOf y).toNat)
      case atStart => exact ⟨ff, 0, Nat.le_refl _, by omega, by rw [← HE1.out]; exact cntV_low (fun v hv => (fromV_mem hv).2), rfl, rfl, Mods.refl _ _⟩
      case round =>
        obtain ⟨k, p, hk1, hk2, hcp, rfl, rfl, hm6⟩ := hrel
        have HCP := Lib.hid hcp
        have M6 := Lib.hid hm6
        clear hcp hm6
        by_cases h16 : k < 16
        · have h16I : (k : Int) < 16 := by omega
          have hrc := (R5.out.mods M6.out (fun h => h)).rowcell h16
          have hlk : lookV E1 k = lookV a.L k := by rw [← HE1.out, lookV_from HRISE.out, if_pos hk1]
          cases hl : lookV a.L k with
          | none =>
            have hr0 : lastV a.L k = .int .i64 0 := by unfold lastV; rw [hl]
            rw [hr0] at hrc
            have HC2 := Lib.hid (show cntV E1 (k + 1) = p by rw [← HCP.out]; exact cntV_none (by rw [hlk, hl]))
            clear hlk hl hr0
            go_wp2
            exact ⟨⟨k + 1, p, by omega, by omega, HC2.out, rfl, by go_num, M6.out⟩, by simp [intOf]; omega⟩
          | some v =>
            have hr0 : lastV a.L k = .int .i64 ((v.bal + 1 : Nat) : Int) := by unfold lastV; rw [hl]
            rw [hr0] at hrc
            obtain ⟨hv1, hv2⟩ := cntV_some (by rw [← HE1.out]; exact HRISE.out.from ff) (hlk.trans hl)
            obtain ⟨hva, hvs⟩ := lookV_some hl
            obtain ⟨-, hvb, hvv⟩ := HP3.out v hva
            obtain ⟨s, d, vv⟩ := v
            simp only at hvs hvb hvv hrc hv1
            subst hvs
            subst hvv
            rw [HCP.out] at hv1 hv2
            have hpm : p < m := by rw [← HM.out]; exact (List.getElem?_eq_some_iff.1 hv1).1
            obtain ⟨q, hq⟩ : ∃ q, L4[p]? = some q := ⟨_, List.getElem?_eq_getElem (by rw [HLL.out]; exact hpm)⟩
            have hqp : q.plain = ⟨s, d, [UInt8.ofNat d]⟩ := by
              rw [← L4'.out, List.getElem?_map, hq] at hv1
              simpa using hv1
            obtain ⟨b2, o2, hA4, hb2, e0, e1, e2⟩ := (V5.out.nil M6.out).cells hq
            have hby := ((V5.out.nil M6.out).bys q (List.mem_of_getElem? hq)).1
            obtain ⟨qs, qb, B, cb, qv⟩ := q
            simp only [VtP.plain, PVt.mk.injEq] at hqp
            obtain ⟨rfl, rfl, rfl⟩ := hqp
            simp only at e0 e1 e2 hby
            obtain ⟨b3, o3, rfl, hb3, e3⟩ := sl_byte13 hby (j := 0) (by simp)
            have hdd : (UInt8.ofNat qb).toNat = qb := by simp; omega
            simp only [List.getElem_cons_zero, hdd, Nat.add_zero] at e3
            simp only [List.length_cons, List.length_nil, Nat.zero_add] at e2
            subst hA4
            have hpmI : decide ((m : Int) ≤ (p : Int)) = false := by simp; omega
            have hpmN : decide (m ≤ p) = false := by simp; omega
            have hpmL : (p : Int) < (m : Int) := by omega
            obtain ⟨D, hD⟩ : ∃ D, qb + 1 = D := ⟨_, rfl⟩
            rw [hD] at hrc
            have k1 : IntKind.u64.wrap (D : Int) = (D : Int) := by rw [IntKind.wrap_u64]; omega
            have k2 : IntKind.u64.wrap ((D : Int) - 1) = (qb : Int) := by rw [IntKind.wrap_u64]; omega
            have k3 : IntKind.i64.wrap ((D : Int) - 1) = (qb : Int) := by rw [IntKind.wrap_i64]; omega
            have k4 : IntKind.u8.wrap (qb : Int) = (qb : Int) := by rw [IntKind.wrap_u8']; omega
            have k5 : IntKind.u64.wrap (qs : Int) = (qs : Int) := by rw [IntKind.wrap_u64]; omega
            have k6 : (D : Int) - 1 = (qb : Int) := by omega
            have k8 : IntKind.u64.wrap (qb : Int) = (qb : Int) := by rw [IntKind.wrap_u64]; omega
            have k9 : IntKind.i64.wrap (qb : Int) = (qb : Int) := by rw [IntKind.wrap_i64]; omega
            have k7 : ((D : Int) == 0) = false := by rw [beq_eq_false_iff_ne]; omega
            have HV2 := Lib.hid hv2
            clear hlk hl hr0 hv1 hv2 hva hvb hq hby hdd hD hpm
            go_wp2
            go_quiet (fail)
            go_wp2
            exact ⟨⟨qs + 1, p + 1, by omega, by omega, HV2.out, by go_num, by go_num, M6.out.drewN _⟩, by simp [intOf]; omega⟩
        · obtain rfl : k = 16 := by omega
          have hpm : p = m := by rw [← HCP.out, ← HM.out]; exact cntV_all (fun v hv => by rw [← HE1.out] at hv; exact (HP3.out v (fromV_mem hv).1).1)
          subst hpm
          go_wp2
          go_ret
          exact ⟨rfl, M1.out.trans (M5.out.trans M6.out)⟩
end Go.Proofs.Ythkejoabppocoaa
