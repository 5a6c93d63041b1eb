/- LeaderHoles: slots between, for which nobody voted, are proposed without bytes. -/
import Derived.Test.YtfnecjogiafekaaHoles15
import Derived.Test.YtfnecjogiafekaaRowF
import Derived.Deep.QuietTactic
import Derived.BigQuiet
namespace Go.Proofs.Ytfnecjogiafekaa
set_option maxRecDepth 1000000
open Go.RowKit
set_option linter.unusedVariables false
set_option linter.unusedSimpArgs false
theorem infoBool15 : (Try.prog.info? 4).map (fun i => (i.zero, i.size, i.bytes)) = some (some (.bool false), 1, 1) := by kernel_rfl
theorem endV_hvt (first : Nat) (l : List PVt) (k : Nat) : endV first (l ++ [hvt k]) = if endV first l ≤ k then k + 1 else endV first l := by
  have h1 := endV_ge first l
  rw [endV_snoc]
  show (if first ≤ k then max (endV first l) (k + 1) else endV first l) = _
  split <;> split <;> omega
/-- What lies where the first loop stands. -/
structure HoI (w3 wr : World) (g : Nat) (v : Value) (l : List VtP) (ys : List UInt8) : Prop where
  row : OwnV15 w3.heap.size wr v l
  pl : l.map VtP.plain = hvs ys
  has : Blk wr g 4 (rowF (fun k => .bool (hasS ys k)) 32)
  m : Mods Nil w3 wr
theorem HoI.val {w3 wr : World} {g : Nat} {v : Value} {l : List VtP} {ys : List UInt8} (h : HoI w3 wr g v l ys) : ∀ q ∈ l, q.val.length ≤ 100000 := fun q hq => by
  have : q.plain ∈ hvs ys := by rw [← h.pl]; exact List.mem_map.2 ⟨q, hq, rfl⟩
  have h2 := congrArg PVt.val (hvs_mem this).1
  have h3 : q.val.length = 2 := by
    show q.plain.val.length = 2
    rw [h2]; rfl
  omega
set_option maxHeartbeats 6400000 in
theorem leaderHoles_walk (w : World) {A : Option Addr} {c n : Nat} {xs : List UInt8} (hn : xs.length = n) (hs : Sl w A c (bts xs)) {fi : Int} (wf : (Lit.int .u8 fi).wf = true) {li : Int} (wl : (Lit.int .u8 li).wf = true) :
    Calls Try.prog 6 #[.slice A n c, .int .u8 fi, .int .u8 li] w fun e w' => e = .returned (.bool true) ∧ Mods Nil w w' := by
  obtain ⟨i0, hi0, hz0, hz1, hz2⟩ := info_parts infoBool15
  have hf0 := u8_of_wf wf
  have hl0 := u8_of_wf wl
  obtain ⟨fb, rfl⟩ : ∃ f : UInt8, fi = (f.toNat : Int) := ⟨UInt8.ofNat fi.toNat, by simp; omega⟩
  obtain ⟨lb, rfl⟩ : ∃ f : UInt8, li = (f.toNat : Int) := ⟨UInt8.ofNat li.toNat, by simp; omega⟩
  obtain ⟨f, hff⟩ : ∃ ff, fb.toNat % 16 = ff := ⟨_, rfl⟩
  obtain ⟨lw, hll⟩ : ∃ ff, lb.toNat % 16 = ff := ⟨_, rfl⟩
  have hfand : bits .and .u8 (fb.toNat : Int) 15 = (f : Int) := by rw [u8_and15v, hff]
  have hland : bits .and .u8 (lb.toNat : Int) 15 = (lw : Int) := by rw [u8_and15v, hll]
  have hf15 : f ≤ 15 := by omega
  have hl15 : lw ≤ 15 := by omega
  have hwf : IntKind.u64.wrap (f : Int) = (f : Int) := by rw [IntKind.wrap_u64]; omega
  have hwl : IntKind.u64.wrap (lw : Int) = (lw : Int) := by rw [IntKind.wrap_u64]; omega
  have HS := Lib.hid hs
  have HN := Lib.hid hn
  clear wf wl hf0 hl0 hff hll hs hn
  have HB1 : Hid (∀ (V W : World) g, LdS V W (fun _ => False) g { many := 1 } 0 → Calls Try.prog 12 #[.pointer (some ⟨g, 0, none⟩), .int .u64 9, .int .u64 (f : Int)] W fun e W' => e = .returned (.int .i64 0) ∧ LdS V W' (fun _ => False) g (ho1 f) 0) := Lib.hid (fun V W b h => (h.begin' (x := 9) (f := f) (by omega) (by omega) (l' := ho1 f) (E := 0) rfl rfl).mono fun e W' ⟨h1, h2, _⟩ => ⟨h1, h2⟩)
  by_cases h20 : 20 < n
  · have h20I : (20 : Int) < (n : Int) := by omega
    go_enter Try.func6, Try.ntmps6
    go_wp2_with (first
      | (go_at_call 9; refine (awake15_any _).mono ?_; rintro e w1 ⟨rfl, m1⟩; have M1 := Lib.hid m1; clear m1))
    go_ret
    exact ⟨rfl, M1.out⟩
  have h20I : ¬ (20 : Int) < (n : Int) := by omega
  obtain ⟨fr, hfr⟩ : ∃ fr, max f lw = fr := ⟨_, rfl⟩
  have HFR := Lib.hid hfr
  have hfr15 : fr ≤ 15 := by omega
  have HPR : Hid (∀ (V W : World) (X D : Nat → Prop) b (A : Option Addr) (c n : Nat) (L : List VtP) (ys : List UInt8), LdS V W X b (ho1 f) 0 → PVs W D A c n L → L.map VtP.plain = hvs ys → n ≤ 100 → (∀ q ∈ L, q.val.length ≤ 100000) → Calls Try.prog 14 #[.pointer (some ⟨b, 0, none⟩), .int .i64 0, .int .u64 9, .int .u64 (lw : Int), .slice A n c] W fun e W' => ∃ A' c' m L' l', e = .returned (.tuple #[.slice A' m c', .bool true]) ∧ L'.map VtP.plain = propsTo fr 9 (noteVs [] (hvs ys)) m ∧ PVs W' (NEW W W') A' c' m L' ∧ m = endV fr (hvs ys) - fr ∧ (l'.stage = 2 ∧ l'.next = endV fr (hvs ys)) ∧ LdS V W' X b l' 5000 ∧ Mods (LDM V X) W W') := Lib.hid (fun V W X D b A c n L ys h hv hpl hn hq => by
    obtain ⟨l', e1, e2, _, e3, e4, e5⟩ := ho_prom hf15 hl15 ys
    rw [← hpl] at e1 e4 e5
    refine (h.promise2 (by omega) (node := 0) (x := 9) (low := lw) (by omega) (by omega) (by omega) (by omega) hv (by omega) hq e1 e4 e5 rfl).mono ?_
    rintro e W' ⟨A', m, c', L', h1, h2, h3, h4, h5⟩
    rw [hfr] at h2 e3
    rw [hpl] at h2
    have hm : m = endV fr (hvs ys) - fr := by rw [← h3.len]; have := congrArg List.length h2; rw [List.length_map, propsTo_len] at this; exact this
    exact ⟨A', c', m, L', l', h1, by rw [h2, hm], h3, hm, ⟨e2, e3⟩, h4.mono_T (by omega), h5⟩)
  have key : ∀ (X : Calls Try.prog 6 #[.slice A n c, .int .u8 (fb.toNat : Int), .int .u8 (lb.toNat : Int)] w fun e w' => e = .returned (.bool true) ∧ Mods Nil w w'), Calls Try.prog 6 #[.slice A n c, .int .u8 (fb.toNat : Int), .int .u8 (lb.toNat : Int)] w fun e w' => e = .returned (.bool true) ∧ Mods Nil w w' := fun X => X
  by_cases hlf : f < lw
  all_goals
    first
    | (have hlfI : (f : Int) < (lw : Int) := by omega
       have hlfN : decide (f < lw) = true := by simp; omega
       obtain rfl : fr = lw := by omega)
    | (have hlfI : ¬ (f : Int) < (lw : Int) := by omega
       have hlfN : decide (f < lw) = false := by simp; omega
       obtain rfl : fr = f := by omega)
  all_goals
    clear hfr hlf key
    go_enter Try.func6, Try.ntmps6
    go_wp2_with (first
      | (at_make; refine wpList_make_row _ rfl _ _ 76 rfl 4 i0 (.bool false) Try.underlying76 hi0 hz0 hz1 rfl .i64 .i64 32 rfl rfl (by rw [hz2]; omega) (by omega) ?_; rw [made_rowF _ rfl 32]; have B4 := Lib.hid (Blk.new w3 4 (rowF (fun _ => .bool false) 32)); have M4 := Lib.hid ((Mods.refl Nil w3).alloc (.cells (rowF (fun _ => .bool false) 32) 4)); obtain ⟨w4, hw4⟩ : ∃ w4, w3.alloc (.cells (rowF (fun _ => .bool false) 32) 4) = w4 := ⟨_, rfl⟩; obtain ⟨g, hg⟩ : ∃ g, w3.heap.size = g := ⟨_, rfl⟩; rw [hw4] at B4 M4; rw [hg] at B4; rw [hw4, hg]; have HG := Lib.hid hg; clear hg hw4)
      | (go_at_call 12; refine (HB1.out _ _ _ S2.out).mono ?_; rintro e w3 ⟨rfl, s3⟩; have S3 := Lib.hid s3; clear s3 S2)
      | (go_at_call 10; refine (ldr_new _ (many := 1) (by omega) (by omega)).mono ?_; rintro e w2 ⟨b, rfl, s2⟩; have S2 := Lib.hid s2; clear s2)
      | (go_at_call 9; refine (awake15_any _).mono ?_; rintro e w1 ⟨rfl, m1⟩; have M1 := Lib.hid m1; clear m1))
    have HG3 : Hid (w3.heap.size ≤ g ∧ g < w4.heap.size) := Lib.hid ⟨by rw [← HG.out]; exact Nat.le_refl _, B4.out.lt⟩
    go_loopw [10, 13, 14] (fun v e y wr => ∃ (i E : Nat) (l : List VtP), i ≤ n ∧ y = .int .i64 (i : Int) ∧ e = .int .u64 (E : Int) ∧ l.length = i ∧ endV fr (hvs (xs.take i)) = E ∧ Hid (HoI w3 wr g v l (xs.take i))) (fun _ _ y _ => n - (intOf y).toNat)
    case atStart => exact ⟨0, fr, [], Nat.zero_le _, rfl, rfl, rfl, rfl, Lib.hid ⟨OwnV15.none_ _ _, rfl, B4.out, M4.out⟩⟩
    case round =>
      obtain ⟨i, E, l, hi, rfl, rfl, hl, hE, HI⟩ := hrel
      have HL := Lib.hid hl
      have hE32 : E ≤ 32 := by rw [← hE]; exact hv_endle hfr15 _
      have hEf : fr ≤ E := by rw [← hE]; exact endV_ge _ _
      have HE := Lib.hid hE
      clear hl hE
      by_cases hlt : i < n
      · have hltI : (i : Int) < (n : Int) := by omega
        have hix : i < xs.length := by rw [HN.out]; exact hlt
        obtain ⟨bb, oo, hA, hbl, hc⟩ := sl_byte15 HS.out hix
        subst hA
        obtain ⟨z, hz⟩ : ∃ z, xs[i] = z := ⟨_, rfl⟩
        rw [hz] at hc
        have HTK : Hid (xs.take (i + 1) = xs.take i ++ [z]) := Lib.hid (by rw [List.take_succ_eq_append_getElem hix, hz])
        have hc2 : wr.cell? ⟨bb, oo + i, none⟩ = some (.int .u8 (z.toNat : Int)) := (World.cell?_of_block ((M1.out.trans (S3.out.m.trans HI.out.m)).block bb hbl (fun h => h))).trans hc
        obtain ⟨k, hk⟩ : ∃ k, z.toNat % 32 = k := ⟨_, rfl⟩
        have hzand : bits .and .u8 (z.toNat : Int) 31 = (k : Int) := by rw [u8_and31v, hk]
        have hk32 : k < 32 := by omega
        have hk32I : (k : Int) < 32 := by omega
        have hwk : IntKind.u64.wrap (k : Int) = (k : Int) := by rw [IntKind.wrap_u64]; omega
        have hwk8 : IntKind.u8.wrap (k : Int) = (k : Int) := by rw [IntKind.wrap_u8']; omega
        have hwk1 : IntKind.u64.wrap ((k : Int) + 1) = ((k + 1 : Nat) : Int) := by rw [IntKind.wrap_u64]; omega
        have HK := Lib.hid hk
        have HNB : Hid (Sl (wr.alloc (.cells #[.int .u8 (k : Int), .int .u8 1] 5)) (some ⟨wr.heap.size, 0, none⟩) 2 (bts [UInt8.ofNat k, 1])) := Lib.hid (by
          have h := new_bytes15 wr [UInt8.ofNat k, 1] (n := 2) rfl (by omega)
          have e : (bts [UInt8.ofNat k, 1]).toArray = #[.int .u8 (k : Int), .int .u8 1] := by
            have h1 : (UInt8.ofNat k).toNat = k := by simp; omega
            simp [bts, h1]
          rw [e] at h
          exact h)
        have HSN : Hid (endV fr (hvs (xs.take i ++ [z])) = if E ≤ k then k + 1 else E) := Lib.hid (by rw [hvs_snoc, hk, endV_hvt, HE.out])
        clear hc hz hix hbl hk
        have HBA : Hid (∀ v' w4', w4'.ownsRow w3.heap.size 49 3 v' (i + 1) (pvc (l ++ [⟨k, 2, some ⟨wr.heap.size, 0, none⟩, 2, [UInt8.ofNat k, 1]⟩])) → Mods (fun q => u10.ownBlock = some q) (wr.alloc (.cells #[.int .u8 (k : Int), .int .u8 1] 5)) w4' → Blk w4' g 4 (rowF (fun q => .bool (hasS (xs.take i) q)) 32) ∧ HoI w3 (w4'.setCell ⟨g, k, none⟩ (.bool true)) g v' (l ++ [⟨k, 2, some ⟨wr.heap.size, 0, none⟩, 2, [UInt8.ofNat k, 1]⟩]) (xs.take (i + 1))) := Lib.hid (fun v' w4' ho hm => by
          have mA : Mods Nil wr (wr.alloc (.cells #[.int .u8 (k : Int), .int .u8 1] 5)) := (Mods.refl _ _).alloc _
          have rA := HI.out.row.nil mA
          have b4 := (HI.out.has.mods mA (fun h => h)).mods hm (fun e => own_blk_ne rA.own (HI.out.has.mods mA (fun h => h)) (by decide) e)
          have mS : Mods (fun q => q = g) w4' (w4'.setCell ⟨g, k, none⟩ (.bool true)) := Mods.setCell (S := fun q => q = g) (Mods.refl _ _) (fun _ => rfl) _
          refine ⟨b4, ?_, ?_, ?_, ?_⟩
          · refine (rA.push ⟨HNB.out, fun _ a ha => ?_, by show k < _; omega, by show 2 < 18446744073709551616; omega⟩ (by rw [HL.out]; exact ho) hm).mods mS (fun q hq e => ?_) (fun q _ ⟨cs, hb⟩ e => ?_)
            · injection ha with ha
              subst ha
              exact ⟨HI.out.m.size, _, Blk.new wr 5 #[.int .u8 (k : Int), .int .u8 1]⟩
            · subst e
              exact own_blk_ne ho b4 (by decide) hq
            · subst e
              exact hb.ne_ b4 (by decide) rfl
          · rw [List.map_append, HI.out.pl, HTK.out, hvs_snoc, HK.out]
            rfl
          · have h5 := b4.rowset k (.bool true)
            rw [HTK.out]
            rw [show rowF (fun q => Value.bool (hasS (xs.take i ++ [z]) q)) 32 = rowF (fun j => if j = k then Value.bool true else Value.bool (hasS (xs.take i) j)) 32 from rowF_congr (fun j _ => by
              rw [hasS_snoc, HK.out]
              by_cases hj : j = k
              · rw [if_pos hj, if_pos hj]
              · rw [if_neg hj, if_neg hj])]
            exact h5
          · exact ((HI.out.m.trans mA).nil_trans hm (fun q h => (rA.own.lt q h).1)).nil_trans mS (fun q h => by subst h; exact HG3.out.1))
        by_cases hke : E ≤ k
        all_goals
          first
          | (have hkeI : (E : Int) ≤ (k : Int) := by omega
             rw [if_pos hke] at HSN)
          | (have hkeI : ¬ (E : Int) ≤ (k : Int) := by omega
             rw [if_neg hke] at HSN)
        all_goals
          clear hke
          go_wp2_with (at_builtin; refine push_pv rfl _ _ rfl (W := wr.alloc (.cells #[.int .u8 (k : Int), .int .u8 1] 5)) (m := i) (l := l) ⟨k, 2, some ⟨wr.heap.size, 0, none⟩, 2, [UInt8.ofNat k, 1]⟩ (n := 2) rfl rfl (by have := (HI.out.row.nil ((Mods.refl Nil wr).alloc (.cells #[.int .u8 (k : Int), .int .u8 1] 5))).own; rw [HL.out] at this; exact this) (by show Value.slice (some ⟨wr.heap.size + 1, 0, none⟩) 1 1 = .slice (some ⟨(wr.alloc (.cells #[.int .u8 (k : Int), .int .u8 1] 5)).heap.size, 0, none⟩) 1 1; simp) (by omega) (by have := HI.out.m.size; simp; omega) ?_; intro v' w5 ho5 m5; obtain ⟨b5, h5⟩ := HBA.out v' w5 ho5 m5; have c5 := b5.rowcell hk32; have f5 := b5.frozen k; have H5 := Lib.hid h5; clear ho5 m5 b5 h5)
          refine ⟨⟨i + 1, _, l ++ [⟨k, 2, some ⟨wr.heap.size, 0, none⟩, 2, [UInt8.ofNat k, 1]⟩], by omega, by go_num, rfl, by simp [HL.out], by rw [HTK.out]; exact HSN.out, H5⟩, by simp [intOf]; omega⟩
      · obtain rfl : n = i := by omega
        obtain ⟨A6, c6, rfl, p6⟩ := HI.out.row.pvs (D := NEW w3 wr) (fun k h1 h2 => ⟨h1, h2⟩)
        rw [HL.out] at p6 ⊢
        have P6 := Lib.hid p6
        have S6 := Lib.hid (S3.out.more HI.out.m (Y := NEW w3 wr) (fun k hk => .inr hk))
        clear p6
        go_wp2_with (first
          | (go_at_call 14; refine (HPR.out _ _ _ _ _ _ _ _ l (xs.take n) S6.out P6.out HI.out.pl (by omega) HI.out.val).mono ?_; rintro e w7 ⟨A7, c7, m7, L7, l7, rfl, hpl7, p7, hm7, ⟨hs7, hn7⟩, s7, mm7⟩; rw [HE.out] at hm7 hn7; have HPL7 := Lib.hid hpl7; have P7 := Lib.hid p7; have S7 := Lib.hid s7; have HS7 := Lib.hid hs7; have HN7 := Lib.hid hn7; have B7 := Lib.hid (HI.out.has.mods mm7 (fun hk => hk.2 ⟨HG3.out.1, HI.out.has.lt⟩)); have hwm : IntKind.u64.wrap (m7 : Int) = (m7 : Int) := by { rw [IntKind.wrap_u64]; omega }; have hsub : IntKind.u64.wrap ((E : Int) - (fr : Int)) = (m7 : Int) := by { rw [IntKind.wrap_u64]; omega }; have hm7e : fr + m7 = E := (by omega); clear hpl7 p7 s7 hs7 hn7 mm7 hm7 S6 P6))
        go_loopw [18] (fun x wr' => ∃ j : Nat, j ≤ m7 ∧ x = .int .i64 (j : Int) ∧ Hid (Mods Nil w7 wr')) (fun x _ => m7 - (intOf x).toNat)
        case atStart => exact ⟨0, Nat.zero_le _, rfl, Lib.hid (Mods.refl _ _)⟩
        case round =>
          obtain ⟨j, hj, rfl, HM⟩ := hrel
          by_cases hjm : j < m7
          · have hjmI : (j : Int) < (m7 : Int) := by omega
            obtain ⟨k, hk⟩ : ∃ k, fr + j = k := ⟨_, rfl⟩
            have hk32 : k < 32 := by omega
            have hk32I : (k : Int) < 32 := by omega
            have hwj : IntKind.u64.wrap (j : Int) = (j : Int) := by rw [IntKind.wrap_u64]; omega
            have hwfj : IntKind.u64.wrap ((fr : Int) + (j : Int)) = (k : Int) := by rw [IntKind.wrap_u64]; omega
            have hwk8 : IntKind.u8.wrap (k : Int) = (k : Int) := by rw [IntKind.wrap_u8']; omega
            have hjL : j < L7.length := by rw [P7.out.len]; exact hjm
            obtain ⟨q, hq⟩ : ∃ q, L7[j]? = some q := ⟨_, List.getElem?_eq_getElem hjL⟩
            have hqp : q.plain = ⟨k, 9, if hasS (xs.take n) k then [UInt8.ofNat k, 1] else []⟩ := by
              have h1 : (L7.map VtP.plain)[j]? = some q.plain := by rw [List.getElem?_map, hq]; rfl
              rw [HPL7.out] at h1
              unfold propsTo at h1
              rw [List.getElem?_map, List.getElem?_range hjm, Option.map_some, hk, propV_hvt] at h1
              injection h1 with h1
              exact h1.symm
            obtain ⟨b7, o7, rfl, hb7, z0, z1, z2⟩ := (P7.out.nil HM.out).cells hq
            have hqb := ((P7.out.nil HM.out).bys q (List.mem_of_getElem? hq)).1
            obtain ⟨s, bl, B, cb, vv⟩ := q
            obtain ⟨rfl, rfl, rfl⟩ : s = k ∧ bl = 9 ∧ vv = (if hasS (xs.take n) k then [UInt8.ofNat k, 1] else []) := by
              simp only [VtP.plain, PVt.mk.injEq] at hqp
              exact hqp
            have ch := ((B7.out.mods HM.out (fun h => h)).rowcell hk32)
            simp only at z0 z1 z2 hqb ch
            have HKK := Lib.hid hk
            clear hk hqp hq hjL
            cases hb : hasS (xs.take n) s with
            | true =>
              rw [hb] at z2 hqb ch
              simp only [if_pos] at z2 hqb
              obtain ⟨bB, oB, rfl, hbB, hcB⟩ := hqb.at_ (by simp)
              have y0 := hcB 0 (.int .u8 (s : Int)) (by
                have h1 : (UInt8.ofNat s).toNat = s := by simp; omega
                simp [bts, h1])
              rw [Nat.add_zero] at y0
              have hln : ([UInt8.ofNat s, 1] : List UInt8).length = 2 := rfl
              rw [hln] at z2
              clear hqb hcB hln hb
              go_wp2_with fail
              go_quiet (fail)
              go_wp2_with fail
              exact ⟨⟨j + 1, by omega, by go_num, Lib.hid (HM.out.drewN _)⟩, by simp [intOf]; omega⟩
            | false =>
              rw [hb] at z2 hqb ch
              have hln : (if false = true then [UInt8.ofNat s, 1] else ([] : List UInt8)).length = 0 := rfl
              rw [hln] at z2
              clear hqb hln hb
              go_wp2_with fail
              go_quiet (fail)
              go_wp2_with fail
              exact ⟨⟨j + 1, by omega, by go_num, Lib.hid (HM.out.drewN _)⟩, by simp [intOf]; omega⟩
          · obtain rfl : m7 = j := by omega
            have S8 := Lib.hid (S7.out.nil HM.out)
            go_wp2_with (first
              | (go_at_call 18; refine (S8.out.propose2 (by omega) (v := []) (n := 0) (c := 0) (A := none) rfl (by omega) (Sl.none_ _) rfl (propose_ok HS7.out (by rw [HN7.out]; omega) []).2.1 (propose_ok HS7.out (by rw [HN7.out]; omega) []).2.2).mono ?_; rintro e w9 ⟨A9, n9, c9, he9, _, s9, _⟩; replace he9 : e = .returned (.tuple #[.agg #[.int .u64 (l7.next : Int), .int .u64 (l7.bal : Int), .slice A9 n9 c9], .int .i64 0]) := he9; rw [HN7.out] at he9; subst he9; have S9 := Lib.hid s9; clear s9 S8))
            go_ret
            exact ⟨rfl, M1.out.trans (S9.out.m.alloc _)⟩
end Go.Proofs.Ytfnecjogiafekaa
