/- Texts laid as one: Sgm13, Sgm14, Sgm15, Sgm16, Sgm17. -/
import Derived.Test.YtdllgmhipenidaaSgmA
import Derived.Test.YtdllgmhipenidaaSgmB
import Derived.Test.YtdllgmhipenidaaSegP
import Derived.Test.YtdllgmhipenidaaSgmC
import Derived.WalkMore

section
/- Package segment: scan. -/
namespace Go.Proofs.Ytdllgmhipenidaa
set_option maxRecDepth 100000
open Go.RowKit
set_option linter.unusedVariables false

/-- A region's blocks, as they are read. -/
def segL (d : PD) (a n : Nat) : List (List UInt8) := (List.range n).map fun i => d.lat (a + i)
theorem segL_length (d : PD) (a n : Nat) : (segL d a n).length = n := by simp [segL]
theorem segL_get {d : PD} {a n i : Nat} (h : i < n) : (segL d a n).getD i [] = d.lat (a + i) := by
  simp [segL, List.getD_eq_getElem?_getD, h]
theorem segL_take (d : PD) (a n j : Nat) (h : j < n) : (segL d a n).take (j + 1) = (segL d a n).take j ++ [d.lat (a + j)] := by
  rw [List.take_succ_eq_append_getElem (by rw [segL_length]; exact h)]
  congr 2
  simp [segL]
theorem stampP_snoc (l : List (List UInt8)) (b : List UInt8) : stampP (l ++ [b]) = max (max (stampP l) (numP b 0)) (numP b 60) := by
  unfold stampP
  rw [List.foldl_append]
  rfl
theorem stampP_lt (l : List (List UInt8)) : stampP l < 4294967296 := by
  have : stampP l ≤ 4294967295 := stampP_le (fun b hb => ⟨by have := numP_lt b 0; omega, by have := numP_lt b 60; omega⟩)
  omega
/-- What is known of so many blocks. -/
def KnownF (l : List (List UInt8)) (f : Int → Option Value) : Prop := (∀ x : Int, x < 0 ∨ (l.length : Int) ≤ x → f x = none) ∧ ∀ i : Nat, i < l.length → f (i : Int) = if rightQ (l.getD i []) then some (aggB (l.getD i [])) else none
theorem KnownF.nil : KnownF [] (fun _ => none) := ⟨fun _ _ => rfl, fun i h => by simp at h⟩
theorem KnownF.skip {l : List (List UInt8)} {f : Int → Option Value} (h : KnownF l f) {b : List UInt8} (hb : rightQ b = false) : KnownF (l ++ [b]) f := by
  refine ⟨fun x hx => h.1 x (by simp at hx; omega), fun i hi => ?_⟩
  simp at hi
  by_cases e : i = l.length
  · subst e
    rw [h.1 _ (.inr (by omega))]
    simp [hb]
  · rw [h.2 i (by omega)]
    simp [List.getD_eq_getElem?_getD, List.getElem?_append_left (show i < l.length by omega)]
theorem KnownF.more {l : List (List UInt8)} {f : Int → Option Value} (h : KnownF l f) {b : List UInt8} (hb : rightQ b = true) : KnownF (l ++ [b]) (upd f (l.length : Int) (some (aggB b))) := by
  refine ⟨fun x hx => ?_, fun i hi => ?_⟩
  · simp at hx
    unfold upd
    rw [if_neg (by omega)]
    exact h.1 x (by omega)
  · simp at hi
    unfold upd
    by_cases e : i = l.length
    · subst e
      simp [hb]
    · rw [if_neg (by omega), h.2 i (by omega)]
      simp [List.getD_eq_getElem?_getD, List.getElem?_append_left (show i < l.length by omega)]
theorem PD.Ok.read_lat {d : PD} {i : Int} (h : d.at_ i = 0) : d.read i = (d.lat i.toNat, 0) := by
  unfold PD.read PD.lat
  rw [if_neg (by simp [h])]
set_option maxHeartbeats 6400000 in
theorem sscan_up {w : World} {base db : Nat} {d : PD} (h : DiskAt w base db d) {a n : Nat} (hn : a + n ≤ d.L.length) (hL : d.L.length ≤ 65536) (hup : d.down = false) :
    Calls Try.prog 65 #[.pointer (some ⟨db, 0, none⟩), .int .i64 (a : Int), .int .i64 (n : Int)] w fun e w' => e = .returned (.tuple #[.map (some w.heap.size), .int .u32 (stampP (segL d a n) : Nat), .int .i64 0]) ∧ (∃ cnt f, IMap Try.prog 3 w' w.heap.size cnt f ∧ KnownF (segL d a n) f) ∧ Mods Nil w w' := by
  have H := Lib.hid h
  have HNL := Lib.hid hn
  have HL := Lib.hid hL
  have HOK : Hid d.Ok := by obtain ⟨_, _, _, h⟩ := h; exact Lib.hid h.ok
  have hmm := @run_makeMap Try.prog
  have hnI : (n : Int) ≤ 65536 := by omega
  clear h hn hL
  go_enter Try.func65, Try.ntmps65
  go_wp2_with fail
  go_loopw [10, 17] (fun g x wr => ∃ (j cnt gr : Nat) (f : Int → Option Value), j ≤ n ∧ x = .int .i64 (j : Int) ∧ g = .int .u32 (gr : Int) ∧ stampP ((segL d a n).take j) = gr ∧ cnt ≤ j ∧ IMap Try.prog 3 wr w.heap.size cnt f ∧ KnownF ((segL d a n).take j) f ∧ Mods Nil w wr) (fun _ x _ => n - (intOf x).toNat)
  case atStart => exact ⟨0, 0, 0, fun _ => none, Nat.zero_le _, rfl, rfl, rfl, Nat.le_refl _, IMap.made w _ _, KnownF.nil, (Mods.refl Nil w).alloc _⟩
  case round =>
    obtain ⟨j, cnt, gr, f, hj, rfl, rfl, hgr, hcnt, hI, hK, hmo⟩ := hrel
    have HGR := Lib.hid hgr
    have HC := Lib.hid hcnt
    have HI := Lib.hid hI
    have HK := Lib.hid hK
    have HM := Lib.hid hmo
    clear hgr hcnt hI hK hmo
    by_cases hlt : j < n
    · have hltI : (j : Int) < (n : Int) := by omega
      obtain ⟨p, hp⟩ : ∃ p, a + j = p := ⟨_, rfl⟩
      have hpI : (a : Int) + (j : Int) = (p : Int) := by omega
      have hw2 : IntKind.i64.wrap (p : Int) = (p : Int) := by rw [IntKind.wrap_i64]; have := HNL.out; have := HL.out; omega
      have hw3 : IntKind.i64.wrap ((j : Int) + 1) = (j : Int) + 1 := by rw [IntKind.wrap_i64]; omega
      obtain ⟨b, hb⟩ : ∃ b, d.lat p = b := ⟨_, rfl⟩
      have hat : d.at_ (p : Int) = 0 := by unfold PD.at_; rw [hup, if_neg (by simp), if_neg (by have := HNL.out; omega)]
      have hbl : b.length = 64 := by rw [← hb]; exact HOK.out.lat (by have := HNL.out; omega)
      have HRD : Hid (Calls Try.prog 87 #[.pointer (some ⟨db, 0, none⟩), .int .i64 (p : Int)] wr fun e w' => ∃ A c m, e = .returned (.tuple #[.slice A m c, .int .i64 0]) ∧ m = 64 ∧ Sl w' A c (bts b) ∧ Mods Nil wr w') := Lib.hid (((dread_any (H.out.nil HM.out) (p : Int))).mono (fun e w' ⟨A, c, m, h1, h2, h3, h4⟩ => by
        rw [PD.Ok.read_lat hat] at h1 h2 h3
        simp only [Int.toNat_natCast, hb] at h1 h2 h3
        exact ⟨A, c, m, h1, by omega, h3, h4⟩))
      have HBL := Lib.hid hbl
      have HTK : Hid ((segL d a n).take (j + 1) = (segL d a n).take j ++ [b]) := by
        have := segL_take d a n j hlt
        rw [hp, hb] at this
        exact Lib.hid this
      have HN0 := Lib.hid (fun V => snumber0 V hbl)
      have HN6 := Lib.hid (fun V => snumber60 V hbl)
      have HRT := Lib.hid (fun V => sright_any V hbl)
      obtain ⟨x, hx⟩ : ∃ x, numP b 0 = x := ⟨_, rfl⟩
      obtain ⟨y, hy⟩ : ∃ y, numP b 60 = y := ⟨_, rfl⟩
      rw [hx] at HN0
      rw [hy] at HN6
      obtain ⟨mx, hmx⟩ : ∃ mx, max (max gr x) y = mx := ⟨_, rfl⟩
      have hmax : ∀ (ts : Array TypeId) (ty : TypeId) (W : World), (Builtin.max_ ts ty #[.int .u32 (gr : Int), .int .u32 (x : Int), .int .u32 (y : Int)]).run Try.prog W = .ok (.int .u32 (mx : Int)) W := fun ts ty W => by
        rw [run_max_int3]
        congr 2
        split <;> split <;> omega
      have HST : Hid (stampP ((segL d a n).take (j + 1)) = mx) := by
        show _ = _
        rw [HTK.out, stampP_snoc, HGR.out, hx, hy, hmx]
      clear hp hb hat hbl hx hy hmx
      have HINF := Lib.hid (infoSB3 HBL.out)
      go_wp2_with (first
        | (go_at_call 87; refine HRD.out.mono ?_; rintro e w3 ⟨A, c, m64, rfl, rfl, s3, m3⟩; have S3 := Lib.hid s3; have M3 := Lib.hid m3; clear s3 m3)
        | (refine gw_alloc_sb rfl rfl ?_; intro w4 b9 m9 s9; have B3 := Lib.hid b9; have M4 := Lib.hid m9; clear b9 m9 s9)
        | (refine wpList_copy_mk rfl (.tmp 31) (.tmp 32) 42 42 rfl 5 Try.underlying42 infoU8s w3.heap.size 0 64 64 124 (bts zeros64).toArray (bts b).toArray rfl B3.out A 64 c (bts b) rfl (S3.out.mods M4.out (fun _ _ h => h)) (by rw [bts_length]; exact HBL.out) (bts_one _) (by omega) (by simp [zeros64]) (by simp [zeros64, bts]) ?_; intro w5 b9 m9; have B4 := Lib.hid b9; have M5 := Lib.hid ((M3.out.trans M4.out).nil_trans m9 (fun i hi => by have := M3.out.size; omega)); clear b9 m9))
      have R5 : Hid (∀ V, Mods Nil w5 V → V.rangeAt w3.heap.size 0 (bts b)) := Lib.hid (fun V hV => blk_range (B4.out.mods hV (fun h => h)))
      have N0 := Lib.hid (gq_of (W := w5) HN0.out)
      have N6 := Lib.hid (gq_of (W := w5) HN6.out)
      refine gq_region (by kernel_rfl) (by kernel_rfl) ?_
      try simp only [Act.put, List.setIfInBounds_toArray, List.set_cons_zero, List.set_cons_succ, goInt]
      repeat (first
        | go_big_quiet_skip
        | (go_big_quiet_want; first
            | (refine gq_load_row 124 _ rfl _ _ rfl (bts b) _ R5.out Try.underlying124 rfl HINF.out ?_; go_big_quiet_on)
            | (refine gq_call N0.out ?_ ?_; (focus (intro V; go_simp; done)); go_big_quiet_on)
            | (refine gq_call N6.out ?_ ?_; (focus (intro V; go_simp; done)); go_big_quiet_on)
            | (refine gq_op (v := ?_) ?_ ?_; rotate_left; (focus (intro V hV; go_simp; try with_reducible rfl)); go_big_quiet_on))
          simp only [Act.put, List.setIfInBounds_toArray, List.set_cons_zero, List.set_cons_succ])
      refine wpQuiet_nil ?_
      intro V hV
      have NV := Lib.hid hV
      have MV := Lib.hid (M5.out.trans hV)
      clear hV
      cases hr : rightQ b with
      | false =>
        rw [hr] at HRT
        go_wp2_with (first
          | (refine gw_load_mid (by rfl) 124 _ rfl w3.heap.size 0 rfl (bts b) _ (blk_range (B4.out.mods (by first | exact NV.out | exact NR.out) (fun h => h))) Try.underlying124 rfl HINF.out ?_)
          | (go_at_call 113; refine (HRT.out _).mono ?_; rintro e w6 ⟨rfl, m6⟩; have NR := Lib.hid (NV.out.trans m6); have MR := Lib.hid (MV.out.trans m6); clear m6))
        refine ⟨⟨j + 1, cnt, mx, f, by omega, by go_num, rfl, HST.out, by have := HC.out; omega, HI.out.mods MR.out (fun h => h), ?_, HM.out.trans MR.out⟩, by simp [intOf]; omega⟩
        rw [HTK.out]
        exact HK.out.skip hr
      | true =>
        rw [hr] at HRT
        go_wp2_with (first
          | (refine gw_load_mid (by rfl) 124 _ rfl w3.heap.size 0 rfl (bts b) _ (blk_range (B4.out.mods (by first | exact NV.out | exact NR.out) (fun h => h))) Try.underlying124 rfl HINF.out ?_)
          | (go_at_call 113; refine (HRT.out _).mono ?_; rintro e w6 ⟨rfl, m6⟩; have NR := Lib.hid (NV.out.trans m6); have MR := Lib.hid (MV.out.trans m6); clear m6)
          | (refine wpList_mapUpdate_im rfl (.tmp 42) (.tmp 43) (.tmp 44) 111 rfl 3 124 Try.underlying3 Try.underlying111 w.heap.size cnt f (j : Int) (aggB b) rfl rfl rfl (HI.out.mods MR.out (fun h => h)) (in64_of (by omega) (by omega)) (HK.out.1 _ (.inr (by rw [List.length_take, segL_length]; omega))) (by unfold maxLen; have := HC.out; omega) ?_; intro w7 i7 m7; have I7 := Lib.hid i7; have M7 := Lib.hid ((HM.out.trans MR.out).nil_trans m7 (fun i hi => by omega)); clear i7 m7))
        refine ⟨⟨j + 1, cnt + 1, mx, _, by omega, by go_num, rfl, HST.out, by have := HC.out; omega, I7.out, ?_, M7.out⟩, by simp [intOf]; omega⟩
        rw [HTK.out]
        have := HK.out.more hr
        rwa [List.length_take, segL_length, Nat.min_eq_left (by omega)] at this
    · obtain rfl : j = n := by omega
      have htk : (segL d a j).take j = segL d a j := List.take_of_length_le (by rw [segL_length]; exact Nat.le_refl _)
      have HGR2 := Lib.hid HGR.out
      have HK2 := Lib.hid HK.out
      rw [htk] at HGR2 HK2
      clear htk
      go_wp2_with fail
      go_ret3
      exact ⟨by rw [HGR2.out]; rfl, ⟨cnt, f, HI.out, HK2.out⟩, HM.out⟩
end Go.Proofs.Ytdllgmhipenidaa
end

section
/- Package segment: which blocks are a record's: the program's tests and the document's. No program. -/
namespace Go.Proofs.Ytdllgmhipenidaa
set_option maxRecDepth 100000
open Go.RowKit
set_option linter.unusedVariables false

theorem cont_fits {b b' : List UInt8} {pl i : Nat} (h : numP b 4 = pl + 1) (hi : i < byteP b 9) : (rightQ b' && contP b' b i) = fitsP b' (numP b 0) pl i (byteP b 9) := by
  rw [Bool.eq_iff_iff]
  unfold rightQ contP fitsP sizedP
  simp only [Bool.and_eq_true, decide_eq_true_eq]
  constructor
  · rintro ⟨⟨h1, h2⟩, h3, h4, h5, h6, h7⟩
    rw [h5] at h7
    refine ⟨⟨h1, h2, ?_⟩, h3, h4.trans h, h6, h5⟩
    split at h7 <;> simp at h7 <;> omega
  · rintro ⟨⟨h1, h2, h3⟩, h4, h5, h6, h7⟩
    refine ⟨⟨h1, h2⟩, h4, h5.trans h.symm, h7, h6, ?_⟩
    rw [h7]
    split <;> simp <;> omega
theorem take_no {l : List (List UInt8)} {p pl e : Nat} (h : ¬ (p < l.length ∧ rightP (l.getD p []) = true ∧ 1 ≤ byteP (l.getD p []) 9 ∧ byteP (l.getD p []) 9 ≤ 92 ∧ e ≤ numP (l.getD p []) 0 ∧ p + byteP (l.getD p []) 9 ≤ l.length ∧
      (∀ i, i < byteP (l.getD p []) 9 → fitsP (l.getD (p + i) []) (numP (l.getD p []) 0) pl i (byteP (l.getD p []) 9) = true))) : takeP l p pl e = none := by
  unfold takeP
  rw [if_neg h]
theorem fits_parts {b : List UInt8} {x pl i m : Nat} (h : fitsP b x pl i m = true) : rightQ b = true ∧ numP b 4 = pl + 1 := by
  unfold fitsP at h
  unfold rightQ
  simp only [Bool.and_eq_true, decide_eq_true_eq] at h ⊢
  exact ⟨⟨h.1.1, h.1.2.1⟩, h.2.2.1⟩
theorem take_no1 {l : List (List UInt8)} {p pl e : Nat} (h : ¬ (p < l.length ∧ rightQ (l.getD p []) = true)) : takeP l p pl e = none :=
  take_no (fun ⟨h1, h2, h3, h4, h5, h6, h7⟩ => h ⟨h1, by have := h7 0 (by omega); rw [Nat.add_zero] at this; exact (fits_parts this).1⟩)
theorem take_no2 {l : List (List UInt8)} {p pl e : Nat} (h : beginsP (l.getD p []) pl e = false) : takeP l p pl e = none :=
  take_no (fun ⟨h1, h2, h3, h4, h5, h6, h7⟩ => by
    have h8 := h7 0 (by omega)
    rw [Nat.add_zero] at h8
    unfold beginsP at h
    simp only [decide_eq_false_iff_not] at h
    exact h ⟨(fits_parts h8).2, h5, h3, h4⟩)
theorem take_no3 {l : List (List UInt8)} {p pl e i : Nat} (hi : i < byteP (l.getD p []) 9) (hb : beginsP (l.getD p []) pl e = true) (h : ¬ (p + i < l.length ∧ rightQ (l.getD (p + i) []) = true ∧ contP (l.getD (p + i) []) (l.getD p []) i = true)) : takeP l p pl e = none :=
  take_no (fun ⟨h1, h2, h3, h4, h5, h6, h7⟩ => by
    have h8 := h7 i hi
    unfold beginsP at hb
    simp only [decide_eq_true_eq] at hb
    rw [← cont_fits hb.1 hi, Bool.and_eq_true] at h8
    exact h ⟨by omega, h8⟩)
theorem take_yes {l : List (List UInt8)} {p pl e : Nat} (h0 : p < l.length) (hr : rightQ (l.getD p []) = true) (hb : beginsP (l.getD p []) pl e = true) (h : ∀ i, i < byteP (l.getD p []) 9 → p + i < l.length ∧ rightQ (l.getD (p + i) []) = true ∧ contP (l.getD (p + i) []) (l.getD p []) i = true) :
    takeP l p pl e = some (joinP l p (byteP (l.getD p []) 9), byteP (l.getD p []) 9, numP (l.getD p []) 0) := by
  unfold beginsP at hb
  simp only [decide_eq_true_eq] at hb
  unfold takeP
  rw [if_pos]
  refine ⟨h0, ?_, hb.2.2.1, hb.2.2.2, hb.2.1, ?_, fun i hi => ?_⟩
  · unfold rightQ at hr
    simp only [Bool.and_eq_true] at hr
    exact hr.1
  · have := (h (byteP (l.getD p []) 9 - 1) (by omega)).1
    omega
  · rw [← cont_fits hb.1 hi, Bool.and_eq_true]
    exact (h i hi).2
theorem joinP_succ (l : List (List UInt8)) (p i : Nat) : joinP l p (i + 1) = joinP l p i ++ dataP (l.getD (p + i) []) := by
  unfold joinP
  rw [List.range_succ, List.map_append, List.flatten_append]
  simp
theorem joinP_length {l : List (List UInt8)} {p : Nat} : ∀ {i : Nat}, (∀ k, k < i → (dataP (l.getD (p + k) [])).length ≤ 45) → (joinP l p i).length ≤ 45 * i
  | 0, _ => by simp [joinP]
  | i + 1, h => by
    rw [joinP_succ, List.length_append]
    have h1 := joinP_length (i := i) (fun k hk => h k (by omega))
    have h2 := h i (by omega)
    omega
theorem dataP_length {b : List UInt8} (h : rightQ b = true) : (dataP b).length ≤ 45 := by
  unfold rightQ at h
  simp only [Bool.and_eq_true, decide_eq_true_eq] at h
  unfold dataP
  simp
  omega
/-- One record more is walked. -/
theorem walk_step {l : List (List UInt8)} {f p pl e m x : Nat} {b : List UInt8} (h : takeP l p pl e = some (b, m, x)) : walkP l (f + 1) p pl e = (b :: (walkP l f (p + m) (pl + 1) x).1, (walkP l f (p + m) (pl + 1) x).2) := by
  rw [walkP_succ, h]
end Go.Proofs.Ytdllgmhipenidaa
end

section
/- Package segment: find. -/
namespace Go.Proofs.Ytdllgmhipenidaa
set_option maxRecDepth 100000
open Go.RowKit
set_option linter.unusedVariables false

def usedAt (sb : Nat) (w : World) : Nat := match w.cell? ⟨sb, 3, none⟩ with | some (.int .i64 z) => z.toNat | _ => 0
theorem SegIn.usedAt {w : World} {base db sb mb : Nat} {s : PSeg} (h : SegIn w base sb db mb s) : Go.Proofs.Ytdllgmhipenidaa.usedAt sb w = s.used := by
  unfold Go.Proofs.Ytdllgmhipenidaa.usedAt
  rw [h.cells.2.2.2.1]
  simp
/-- So far found. -/
def PSeg.got (s : PSeg) (L : List (List UInt8)) (p : Nat) : PSeg := { s with L := L, used := p }
def PSeg.done (s : PSeg) (L : List (List UInt8)) (p : Nat) : PSeg := { s with L := L, used := p, sure := L.length }
abbrev Fine (sb mb : Nat) (w w' : World) : Prop := Mods (fun k => k = sb ∨ k = mb) w w'
theorem sb_zero (W : World) : (zeroValue 124).run Try.prog W = .ok (.agg (bts zeros64).toArray) W := by rfl
theorem SegIn.finish {w : World} {base db sb mb : Nat} {s : PSeg} {d : PD} {L : List (List UInt8)} {p : Nat} (h : SegIn w base sb db mb (s.got L p)) (hd : DiskAt w base db d) :
    SegIn (w.setCell ⟨sb, 7, none⟩ (.int .i64 (L.length : Int))) base sb db mb (s.done L p) ∧ DiskAt (w.setCell ⟨sb, 7, none⟩ (.int .i64 (L.length : Int))) base db d ∧ Fine sb mb w (w.setCell ⟨sb, 7, none⟩ (.int .i64 (L.length : Int))) := by
  have q := h.set (s2 := s.done L p) hd 7 (.int .i64 (L.length : Int)) rfl rfl rfl ⟨h.ok.fit, h.ok.used, h.ok.len, Nat.le_refl _, Nat.le_trans h.ok.gone h.ok.sure, h.ok.epoch, h.ok.err⟩
  exact ⟨q.1, q.2.1, Mods.setCell (S := fun k => k = sb ∨ k = mb) (p := ⟨sb, 7, none⟩) (Mods.refl _ _) (fun _ => .inl rfl) _⟩
set_option maxHeartbeats 12800000 in
theorem sfind_in {w : World} {base sb db mb mk cnt : Nat} {d : PD} {s : PSeg} {l : List (List UInt8)} {f : Int → Option Value} (hS : SegIn w base sb db mb s) (hD : DiskAt w base db d) (hK : IMap Try.prog 3 w mk cnt f) (hF : KnownF l f) (hne : mk ≠ mb) (hl : l.length = s.n) (h64 : ∀ b ∈ l, b.length = 64) (h0 : s.L = [] ∧ s.used = 0) :
    Calls Try.prog 66 #[.pointer (some ⟨sb, 0, none⟩), .map (some mk)] w fun e w' => e = .returned (.tuple #[]) ∧ SegIn w' base sb db mb (s.done (walkP l (l.length + 1) 0 0 0).1 (walkP l (l.length + 1) 0 0 0).2) ∧ DiskAt w' base db d ∧ Fine sb mb w w' := by
  obtain ⟨ib, hib, hbz0, hbz1, hbz2⟩ := info_parts infoByte
  obtain ⟨R, hR⟩ : ∃ R, walkP l (l.length + 1) 0 0 0 = R := ⟨_, rfl⟩
  rw [hR]
  have hgot : s = s.got [] 0 := by cases s; obtain ⟨h1, h2⟩ := h0; simp at h1 h2; subst h1; subst h2; rfl
  have HR := Lib.hid hR
  have hS0 := hS
  rw [hgot] at hS0
  have hmkb : ¬ (mk = sb ∨ mk = mb) := fun e => by
    rcases e with e | e
    · obtain ⟨es, c, hb⟩ := hK.isMap
      exact blk_map hS.blk (e ▸ hb)
    · exact hne e
  have HFIT := Lib.hid (show s.n ≤ 65536 by have := hS.ok.fit; omega)
  have HS0 := Lib.hid hS0
  have HD := Lib.hid hD
  have HMK := Lib.hid hmkb
  have HK : Hid (∀ V, Fine sb mb w V → IMap Try.prog 3 V mk cnt f) := Lib.hid (fun V hV => hK.mods hV hmkb)
  have HF := Lib.hid hF
  have HL := Lib.hid hl
  have H64 : Hid (∀ i, i < l.length → (l.getD i []).length = 64) := Lib.hid (fun i hi => h64 _ (getD_mem hi))
  have LOOK : Hid (∀ V, Fine sb mb w V → ∀ i : Nat, i < l.length → rightQ (l.getD i []) = true → (Instr.lookup 111 (.map (some mk)) (.int .i64 (i : Int)) true).run Try.prog V = .ok (.tuple #[.agg (bts (l.getD i [])).toArray, .bool true]) V) := Lib.hid (fun V hV i hi hq => by
    refine (IMap.look (t := 111) (e := 124) Try.underlying3 Try.underlying111 (HK.out V hV) (in64_of (by omega) (by have := HL.out; have := HFIT.out; omega)) ?_ (sb_zero V)).1
    rw [HF.out.2 i hi, if_pos hq]
    rfl)
  have MISS : Hid (∀ V, Fine sb mb w V → ∀ i : Nat, i ≤ 1000000 → ¬ (i < l.length ∧ rightQ (l.getD i []) = true) → (Instr.lookup 111 (.map (some mk)) (.int .i64 (i : Int)) true).run Try.prog V = .ok (.tuple #[.agg (bts zeros64).toArray, .bool false]) V) := Lib.hid (fun V hV i hi hq => by
    refine IMap.miss (t := 111) (e := 124) Try.underlying3 Try.underlying111 (HK.out V hV) (in64_of (by omega) (by omega)) ?_ (sb_zero V)
    by_cases hlt : i < l.length
    · rw [HF.out.2 i hlt, if_neg (fun h => hq ⟨hlt, h⟩)]
    · exact HF.out.1 _ (.inr (by omega)))
  clear hR hgot hS0 hS hD hK hF hne hl h64 h0 hmkb
  go_enter Try.func66, Try.ntmps66
  go_step3
  go_wp2_with fail
  go_step3
  go_wp2_with fail
  go_loopw [4] (fun x wr => ∃ (L : List (List UInt8)) (p e f1 : Nat), x = .int .u32 (e : Int) ∧ e < 4294967296 ∧ SegIn wr base sb db mb (s.got L p) ∧ DiskAt wr base db d ∧ Fine sb mb w wr ∧ f1 + L.length = l.length + 1 ∧ R = (L ++ (walkP l f1 p L.length e).1, (walkP l f1 p L.length e).2)) (fun _ wr => s.n - usedAt sb wr)
  case atStart => exact ⟨[], 0, 0, l.length + 1, rfl, by omega, HS0.out, HD.out, Mods.refl _ _, rfl, HR.out.symm⟩
  case round =>
    obtain ⟨L, p, e, f1, rfl, he32, hs0, hd0, hm0, hf1, hwalk⟩ := hrel
    have c3 : wr.cell? ⟨sb, 3, none⟩ = some (.int .i64 (p : Int)) := hs0.cells.2.2.2.1
    have hLp : L.length ≤ p := hs0.ok.len
    have hpn : p ≤ s.n := hs0.ok.used
    have HUA : Hid (usedAt sb wr = p) := Lib.hid hs0.usedAt
    have SJ := Lib.hid hs0
    have DJ := Lib.hid hd0
    have MJ := Lib.hid hm0
    have HWALK := Lib.hid hwalk
    have HF1 := Lib.hid hf1
    have HPN := Lib.hid (show p ≤ l.length by have := HL.out; omega)
    have HLP := Lib.hid hLp
    clear hs0 hd0 hm0 hwalk hf1 hLp hpn
    have HEND : Hid (takeP l p L.length e = none → R = (L, p)) := Lib.hid (fun h => by rw [HWALK.out, walkP_none h]; simp)
    have HLENC : Hid (∀ V, Mods Nil wr V → Calls Try.prog 59 #[.pointer (some ⟨sb, 0, none⟩)] V fun e w' => e = .returned (.int .i64 (L.length : Int)) ∧ Mods Nil V w') := Lib.hid (fun V hV => slen_in (SJ.out.nil hV))
    have HFIN : Hid (∀ V, Mods Nil wr V → V.frozen? ⟨sb, 7, none⟩ = false ∧ (∃ u, V.cell? ⟨sb, 7, none⟩ = some u) ∧ (R = (L, p) → SegIn (V.setCell ⟨sb, 7, none⟩ (.int .i64 (L.length : Int))) base sb db mb (s.done R.1 R.2) ∧ DiskAt (V.setCell ⟨sb, 7, none⟩ (.int .i64 (L.length : Int))) base db d ∧ Fine sb mb w (V.setCell ⟨sb, 7, none⟩ (.int .i64 (L.length : Int))))) := Lib.hid (fun V hV => by
      have h1 := SJ.out.nil hV
      refine ⟨h1.blk.frozen 7, ⟨_, h1.cells.2.2.2.2.2.2.2.1⟩, fun hR => ?_⟩
      rw [hR]
      have q := h1.finish (DJ.out.nil hV)
      exact ⟨q.1, q.2.1, (MJ.out.trans (hV.mono (fun _ _ h => h.elim))).trans q.2.2⟩)
    have c3F : Hid (∀ V, Mods Nil wr V → V.cell? ⟨sb, 3, none⟩ = some (.int .i64 (p : Int))) := Lib.hid (fun V hV => (SJ.out.nil hV).cells.2.2.2.1)
    have FV : Hid (∀ V, Mods Nil wr V → Fine sb mb w V) := Lib.hid (fun V hV => MJ.out.trans (hV.mono (fun _ _ h => h.elim)))
    obtain ⟨pl, hpl⟩ : ∃ pl, L.length = pl := ⟨_, rfl⟩
    have HPL := Lib.hid hpl
    rw [hpl] at HLENC HFIN HEND
    clear hpl
    by_cases hA : p < l.length ∧ rightQ (l.getD p []) = true
    · obtain ⟨hplt, hrq⟩ := hA
      have hlook := LOOK.out wr MJ.out p hplt hrq
      have hb64 := H64.out p hplt
      obtain ⟨b, hb⟩ : ∃ b, l.getD p [] = b := ⟨_, rfl⟩
      rw [hb] at hlook hb64 hrq
      have HB := Lib.hid hb
      have HRQ := Lib.hid hrq
      have HPLT := Lib.hid hplt
      have HB64 := Lib.hid hb64
      have HINF := Lib.hid (infoSB3 hb64)
      clear hb hb64 hrq hplt
      go_wp2_with (first
        | (refine gw_alloc_sb rfl rfl ?_; intro w2a b9 m9 s9; have B2a := Lib.hid b9; have M2a := Lib.hid (Mods.trans (Mods.refl Nil _) m9); clear b9 m9 s9)
        | (refine wpList_store_mk rfl 124 (.tmp 5) (.tmp 18) rfl rfl _ rfl 124 (bts zeros64).toArray (bts b).toArray rfl B2a.out (by simp [zeros64, HB64.out]) (bts_all _) (infoSB4 (by exact HB64.out)) rfl ?_; intro w2 b9 m9; have B2 := Lib.hid b9; have M2 := Lib.hid (M2a.out.nil_trans m9 (fun i hi => by subst hi; exact Nat.le_refl _)); clear b9 m9))
      have R2 : Hid (∀ V, Mods Nil w2 V → V.rangeAt wr.heap.size 0 (bts b)) := Lib.hid (fun V hV => blk_range (B2.out.mods hV (fun h => h)))
      have HLQ : Hid (∀ V, Mods Nil w2 V → Calls Try.prog 59 #[.pointer (some ⟨sb, 0, none⟩)] V fun e w' => e = .returned (.int .i64 (pl : Int)) ∧ Mods Nil w2 w') := Lib.hid (fun V hV => (HLENC.out V (M2.out.trans hV)).mono (fun e w' h => ⟨h.1, hV.trans h.2⟩))
      have HBQ := Lib.hid (gq_of (W := w2) (fun V => sbegins_any V HB64.out (pl := pl) (e := e) (by have := HPL.out; have := HLP.out; have := HPN.out; have := HL.out; have := HFIT.out; omega) he32))
      cases hbg : beginsP b pl e with
      | false =>
        rw [hbg] at HBQ
        refine gq_region (by kernel_rfl) (by kernel_rfl) ?_
        try simp only [Act.put, List.setIfInBounds_toArray, List.set_cons_zero, List.set_cons_succ, goInt]
        repeat (first
          | go_big_quiet_skip
          | (go_big_quiet_want; first
              | (refine gq_load_row 124 _ rfl _ _ rfl (bts b) _ R2.out Try.underlying124 rfl HINF.out ?_; go_big_quiet_on)
              | (refine gq_call HLQ.out ?_ ?_; (focus (intro V; go_simp; done)); go_big_quiet_on)
              | (refine gq_call HBQ.out ?_ ?_; (focus (intro V; go_simp; done)); go_big_quiet_on)
              | (refine gq_op (v := ?_) ?_ ?_; rotate_left; (focus (intro V hV; go_simp; try with_reducible rfl)); go_big_quiet_on))
            simp only [Act.put, List.setIfInBounds_toArray, List.set_cons_zero, List.set_cons_succ])
        refine wpQuiet_nil ?_
        intro V hV
        have MV := Lib.hid (M2.out.trans hV)
        clear hV
        go_wp2_with (first
          | (go_at_call 59; refine (HLENC.out _ MV.out).mono ?_; rintro r w9 ⟨rfl, m9⟩; have M9 := Lib.hid (Mods.trans MV.out m9); obtain ⟨f97, ⟨u97, c97⟩, q97⟩ := HFIN.out _ M9.out; have Q97 := Lib.hid q97; clear m9 q97))
        rw [Exit.noGoto_normal]
        exact bodyPost_end (results_none rfl _ _ _) rfl ⟨rfl, Q97.out (HEND.out (take_no2 (by rw [HB.out]; exact hbg)))⟩
      | true =>
        rw [hbg] at HBQ
        have HBG := Lib.hid hbg
        clear hbg
        refine gq_region (by kernel_rfl) (by kernel_rfl) ?_
        try simp only [Act.put, List.setIfInBounds_toArray, List.set_cons_zero, List.set_cons_succ, goInt]
        repeat (first
          | go_big_quiet_skip
          | (go_big_quiet_want; first
              | (refine gq_load_row 124 _ rfl _ _ rfl (bts b) _ R2.out Try.underlying124 rfl HINF.out ?_; go_big_quiet_on)
              | (refine gq_call HLQ.out ?_ ?_; (focus (intro V; go_simp; done)); go_big_quiet_on)
              | (refine gq_call HBQ.out ?_ ?_; (focus (intro V; go_simp; done)); go_big_quiet_on)
              | (refine gq_op (v := ?_) ?_ ?_; rotate_left; (focus (intro V hV; go_simp; try with_reducible rfl)); go_big_quiet_on))
            simp only [Act.put, List.setIfInBounds_toArray, List.set_cons_zero, List.set_cons_succ])
        refine wpQuiet_nil ?_
        intro V hV
        have MV := Lib.hid (M2.out.trans hV)
        have BV := Lib.hid (B2.out.mods hV (fun h => h))
        clear hV
        obtain ⟨m, hm⟩ : ∃ m, byteP b 9 = m := ⟨_, rfl⟩
        have HMM := Lib.hid hm
        have HMP : Hid (1 ≤ m ∧ m ≤ 92 ∧ numP b 4 = pl + 1) := by
          have := HBG.out
          unfold beginsP at this
          simp only [decide_eq_true_eq] at this
          rw [hm] at this
          exact Lib.hid ⟨this.2.2.1, this.2.2.2, this.1⟩
        have HMANY := Lib.hid (fun V => smany_any V HB64.out)
        rw [hm] at HMANY
        obtain ⟨x0, hx0⟩ : ∃ x, numP b 0 = x := ⟨_, rfl⟩
        have HX0 := Lib.hid hx0
        have HNUM := Lib.hid (fun V => snumber0 V HB64.out)
        rw [hx0] at HNUM
        clear hm hx0
        go_wp2_with (first
          | (refine gw_load_mid (by rfl) 124 _ rfl _ 0 rfl (bts b) _ (blk_range BV.out) Try.underlying124 rfl HINF.out ?_)
          | (go_at_call 115; refine (HMANY.out _).mono ?_; rintro r wb ⟨rfl, m9⟩; have MB := Lib.hid (MV.out.trans m9); have BB := Lib.hid (BV.out.mods m9 (fun h => h)); clear m9))
        have hm92 : (m : Int) ≤ 92 := by have := HMP.out; omega
        go_loopw [7, 32] (fun rv x wq => ∃ (i k : Nat) (v : Value), i ≤ m ∧ x = .int .i64 (i : Int) ∧ rv = v ∧ (joinP l p i).length = k ∧ wq.ownsRow wb.heap.size 5 1 v k (bts (joinP l p i)) ∧ (∀ t, t < i → p + t < l.length ∧ rightQ (l.getD (p + t) []) = true ∧ contP (l.getD (p + t) []) b t = true) ∧ Mods Nil wb wq) (fun _ x _ => m - (intOf x).toNat)
        case atStart => exact ⟨0, 0, .slice none 0 0, Nat.zero_le _, rfl, rfl, rfl, World.ownsRow_nil _ _ _ _, (fun t ht => by omega), Mods.refl _ _⟩
        case round =>
          obtain ⟨i, k, v, hi, rfl, hv, hk, hown, hfits, hmo⟩ := hrel
          have hv2 := hv.symm
          clear hv
          subst hv2
          have HK2 := Lib.hid hk
          have HO := Lib.hid hown
          have HFT := Lib.hid hfits
          have HMO := Lib.hid hmo
          have MW := Lib.hid (MB.out.trans hmo)
          have BW := Lib.hid (BB.out.mods hmo (fun h => h))
          have c3w := c3F.out wr MW.out
          clear hk hown hfits hmo
          by_cases hlt : i < m
          · have hltI : (i : Int) < (m : Int) := by omega
            obtain ⟨t, ht⟩ : ∃ t, p + i = t := ⟨_, rfl⟩
            have htI : (p : Int) + (i : Int) = (t : Int) := by omega
            have hwt : IntKind.i64.wrap (t : Int) = (t : Int) := by rw [IntKind.wrap_i64]; have := HPN.out; have := HL.out; have := HFIT.out; have := HMP.out; omega
            have hw1 : IntKind.i64.wrap ((i : Int) + 1) = (i : Int) + 1 := by rw [IntKind.wrap_i64]; have := HMP.out; omega
            have HNO3 : Hid (¬ (t < l.length ∧ rightQ (l.getD t []) = true ∧ contP (l.getD t []) b i = true) → takeP l p pl e = none) := Lib.hid (fun h => take_no3 (i := i) (by rw [HB.out, HMM.out]; exact hlt) (by rw [HB.out]; exact HBG.out) (by rw [ht, HB.out]; exact h))
            have HT := Lib.hid ht
            by_cases hA2 : t < l.length ∧ rightQ (l.getD t []) = true
            · obtain ⟨htlt, hrq2⟩ := hA2
              have hlook2 := LOOK.out wr (FV.out _ MW.out) t htlt hrq2
              have hc64 := H64.out t htlt
              obtain ⟨c, hc⟩ : ∃ c, l.getD t [] = c := ⟨_, rfl⟩
              rw [hc] at hlook2 hc64 hrq2 HNO3
              have HCC := Lib.hid hc
              have HRQ2 := Lib.hid hrq2
              have HTLT := Lib.hid htlt
              have HC64 := Lib.hid hc64
              have HINC := Lib.hid (infoSB3 hc64)
              have hdl := dataP_length hrq2
              obtain ⟨z, hz⟩ : ∃ z, byteP c 10 = z := ⟨_, rfl⟩
              have hz45 : z ≤ 45 := by
                unfold rightQ at hrq2
                simp only [Bool.and_eq_true, decide_eq_true_eq] at hrq2
                omega
              have HDATA := Lib.hid (fun V => sdata_any V hc64 hz hz45)
              have HZ45 := Lib.hid hz45
              clear hc hc64 hrq2 htlt ht hdl hz hz45
              have HCQ := Lib.hid (fun V => scont_any V HC64.out HB64.out (part := i) (by have := HMP.out; omega))
              cases hcn : contP c b i with
              | false =>
                rw [hcn] at HCQ
                go_wp2_with (first
                  | (refine gw_alloc_sb rfl rfl ?_; intro w3a b9 m9 s9; have B3a := Lib.hid b9; have M3a := Lib.hid (Mods.trans (Mods.refl Nil _) m9); clear b9 m9 s9)
                  | (refine wpList_store_mk rfl 124 (.tmp 9) (.tmp 44) rfl rfl _ rfl 124 (bts zeros64).toArray (bts c).toArray rfl B3a.out (by simp [zeros64, HC64.out]) (bts_all _) (infoSB4 (by exact HC64.out)) rfl ?_; intro w3 b9 m9; have B3 := Lib.hid b9; have M3 := Lib.hid (M3a.out.nil_trans m9 (fun i hi => by subst hi; exact Nat.le_refl _)); have B4 := Lib.hid (BW.out.mods M3.out (fun h => h)); clear b9 m9)
                  | (refine gw_load_mid (by rfl) 124 _ rfl _ 0 rfl (bts c) _ (blk_range B3.out) Try.underlying124 rfl HINC.out ?_)
                  | (refine gw_load_mid (by rfl) 124 _ rfl _ 0 rfl (bts b) _ (blk_range B4.out) Try.underlying124 rfl HINF.out ?_)
                  | (go_at_call 116; refine (HCQ.out _).mono ?_; rintro r w8 ⟨rfl, m9⟩; have MC3 := Lib.hid m9; have MV2 := Lib.hid ((MW.out.trans M3.out).trans m9); have BC := Lib.hid (B3.out.mods m9 (fun h => h)); have MV3 := Lib.hid (M3.out.trans m9); have OWN := Lib.hid (own_mods HO.out MV3.out (fun _ _ h => h)); clear m9)
                  | (go_at_call 59; refine (HLENC.out _ MV2.out).mono ?_; rintro r w9 ⟨rfl, m9⟩; have M9 := Lib.hid (Mods.trans MV2.out m9); obtain ⟨f97, ⟨u97, c97⟩, q97⟩ := HFIN.out _ M9.out; have Q97 := Lib.hid q97; clear m9 q97))
                rw [Exit.noGoto_normal]
                exact bodyPost_end (results_none rfl _ _ _) rfl ⟨rfl, Q97.out (HEND.out (HNO3.out (by rw [hcn]; simp)))⟩
              | true =>
                rw [hcn] at HCQ
                have HCN := Lib.hid hcn
                clear hcn
                have HKB : Hid (k ≤ 45 * i) := by
                  rw [← HK2.out]
                  exact Lib.hid (joinP_length (fun q hq => dataP_length (HFT.out q hq).2.1))
                go_wp2_with (first
                  | (refine gw_load_mid (by rfl) 124 _ rfl _ 0 rfl (bts c) _ (blk_range BC.out) Try.underlying124 rfl HINC.out ?_)
                  | (refine gw_alloc_sb rfl rfl ?_; intro w3a b9 m9 s9; have B3a := Lib.hid b9; have M3a := Lib.hid (Mods.trans (Mods.refl Nil _) m9); clear b9 m9 s9)
                  | (refine wpList_store_mk rfl 124 (.tmp 9) (.tmp 44) rfl rfl _ rfl 124 (bts zeros64).toArray (bts c).toArray rfl B3a.out (by simp [zeros64, HC64.out]) (bts_all _) (infoSB4 (by exact HC64.out)) rfl ?_; intro w3 b9 m9; have B3 := Lib.hid b9; have M3 := Lib.hid (M3a.out.nil_trans m9 (fun i hi => by subst hi; exact Nat.le_refl _)); have B4 := Lib.hid (BW.out.mods M3.out (fun h => h)); clear b9 m9)
                  | (refine gw_load_mid (by rfl) 124 _ rfl _ 0 rfl (bts c) _ (blk_range B3.out) Try.underlying124 rfl HINC.out ?_)
                  | (refine gw_load_mid (by rfl) 124 _ rfl _ 0 rfl (bts b) _ (blk_range B4.out) Try.underlying124 rfl HINF.out ?_)
                  | (go_at_call 116; refine (HCQ.out _).mono ?_; rintro r w8 ⟨rfl, m9⟩; have MC3 := Lib.hid m9; have MV2 := Lib.hid ((MW.out.trans M3.out).trans m9); have BC := Lib.hid (B3.out.mods m9 (fun h => h)); have MV3 := Lib.hid (M3.out.trans m9); have OWN := Lib.hid (own_mods HO.out MV3.out (fun _ _ h => h)); clear m9)
                  | (go_at_call 117; refine (HDATA.out _).mono ?_; rintro r w6 ⟨A6, c6, rfl, l6, s6, m6⟩; have HDL := Lib.hid l6; have SD := Lib.hid s6; have O6 := Lib.hid (own_mods OWN.out m6 (fun _ _ h => h)); have M6 := Lib.hid ((HMO.out.trans MV3.out).trans m6); have N6 := Lib.hid (MV3.out.trans m6); clear l6 s6 m6)
                  | (at_builtin; refine wpList_append_sl _ rfl _ _ 42 rfl wb.heap.size 5 ib (.int .u8 0) 1 Try.underlying42 hib hbz0 hbz1 hbz2 rfl v k (bts (joinP l p i)) rfl O6.out A6 z c6 (bts (dataP c)) rfl (by rw [bts_length]; exact HDL.out) SD.out (bts_one _) (by have := HKB.out; have := HZ45.out; have := HMP.out; omega) (by have := HKB.out; have := HZ45.out; have := HMP.out; unfold maxLen; omega) M6.out.size ?_; intro v2 w7 hown hgrow hblk; have O7 := Lib.hid hown; have M7 := Lib.hid (show Mods Nil wb w7 from M6.out.nil_trans (T := fun k => v.ownBlock = some k) ((Mods.refl _ _).grown hgrow (fun k hk _ => hk)) (fun i hi' => (O6.out.lt i hi').1)); clear hown hgrow hblk))
                have HJ : Hid (joinP l p (i + 1) = joinP l p i ++ dataP c) := by
                  have := joinP_succ l p i
                  rw [HT.out, HCC.out] at this
                  exact Lib.hid this
                refine ⟨⟨i + 1, k + z, v2, by omega, by go_num, rfl, by rw [HJ.out, List.length_append, HK2.out, HDL.out], by rw [HJ.out, bts_append]; exact O7.out, fun q hq => ?_, M7.out⟩, by simp [intOf]; omega⟩
                by_cases hqi : q = i
                · subst hqi
                  rw [HT.out, HCC.out]
                  exact ⟨HTLT.out, HRQ2.out, HCN.out⟩
                · exact HFT.out q (by omega)
            · have hmiss2 := MISS.out wr (FV.out _ MW.out) t (by have := HPN.out; have := HL.out; have := HFIT.out; have := HMP.out; omega) hA2
              clear ht
              go_wp2_with (first
                | (refine gw_alloc_sb rfl rfl ?_; intro w3a b9 m9 s9; have B3a := Lib.hid b9; have M3a := Lib.hid (Mods.trans (Mods.refl Nil _) m9); clear b9 m9 s9)
                | (refine wpList_store_mk rfl 124 (.tmp 9) (.tmp 44) rfl rfl _ rfl 124 (bts zeros64).toArray (bts zeros64).toArray rfl B3a.out (by simp [zeros64]) (bts_all _) (infoSB4 (by rfl)) rfl ?_; intro w3 b9 m9; have B3 := Lib.hid b9; have M3 := Lib.hid (M3a.out.nil_trans m9 (fun i hi => by subst hi; exact Nat.le_refl _)); have MV2 := Lib.hid (MW.out.trans M3.out); clear b9 m9)
                | (go_at_call 59; refine (HLENC.out _ MV2.out).mono ?_; rintro r w9 ⟨rfl, m9⟩; have M9 := Lib.hid (Mods.trans MV2.out m9); obtain ⟨f97, ⟨u97, c97⟩, q97⟩ := HFIN.out _ M9.out; have Q97 := Lib.hid q97; clear m9 q97))
              rw [Exit.noGoto_normal]
              exact bodyPost_end (results_none rfl _ _ _) rfl ⟨rfl, Q97.out (HEND.out (HNO3.out (fun h => hA2 ⟨h.1, h.2.1⟩)))⟩
          · obtain rfl : i = m := by omega
            obtain ⟨Ar, cr, rfl, hkl, hrb⟩ := rb_of_own HO.out
            have HRB := Lib.hid hrb
            have HJL : Hid ((joinP l p i).length ≤ 4140) := by
              have := joinP_length (l := l) (p := p) (i := i) (fun q hq => dataP_length (HFT.out q hq).2.1)
              have := HMP.out
              exact Lib.hid (by omega)
            have HPM : Hid (p + i ≤ s.n) := by
              have := (HFT.out (i - 1) (by have := HMP.out; omega)).1
              have := HMP.out
              have := HL.out
              exact Lib.hid (by omega)
            have HYES : Hid (takeP l p pl e = some (joinP l p i, i, x0)) := by
              have := take_yes (pl := pl) (e := e) HPLT.out (by rw [HB.out]; exact HRQ.out) (by rw [HB.out]; exact HBG.out) (by rw [HB.out, HMM.out]; exact HFT.out)
              rw [HB.out, HMM.out, HX0.out] at this
              exact Lib.hid this
            clear hkl hrb
            go_wp2_with (first
              | (refine gw_load_mid (by rfl) 124 _ rfl _ 0 rfl (bts b) _ (blk_range B12.out) Try.underlying124 rfl HINF.out ?_)
              | (refine gw_load_mid (by rfl) 124 _ rfl _ 0 rfl (bts b) _ (blk_range BW.out) Try.underlying124 rfl HINF.out ?_)
              | (go_at_call 112; refine (HNUM.out _).mono ?_; rintro r w11 ⟨rfl, m9⟩; have M11 := Lib.hid m9; have B12 := Lib.hid (BW.out.mods m9 (fun h => h)); clear m9)
              | (go_at_call 115; refine (HMANY.out _).mono ?_; rintro r w12 ⟨rfl, m9⟩; have M12 := Lib.hid (M11.out.trans m9); have M12W := Lib.hid (MW.out.trans (M11.out.trans m9)); clear m9)
              | (go_at_call 71; refine (skeep_fine (SJ.out.nil M12W.out) (DJ.out.nil M12W.out) (HRB.out.off M12.out (fun _ _ h => h.elim)) HJL.out HK2.out HMP.out.1 HPM.out).mono ?_; rintro r w13 ⟨rfl, s9, d9, m9⟩; have S13 := Lib.hid s9; have D13 := Lib.hid d9; have M13 := Lib.hid ((FV.out _ M12W.out).trans m9); clear s9 d9 m9))
            refine ⟨⟨L ++ [joinP l p i], p + i, x0, f1 - 1, by go_num, ?_, S13.out, D13.out, M13.out, ?_, ?_⟩, ?_⟩
            · rw [← HX0.out]; exact numP_lt _ _
            · have := HF1.out; have := HLP.out; have := HPN.out; simp; omega
            · have hf : f1 = (f1 - 1) + 1 := by have := HF1.out; have := HLP.out; have := HPN.out; omega
              have hw := HWALK.out
              rw [HPL.out, hf, walk_step HYES.out] at hw
              rw [hw]
              simp [HPL.out]
            · have h1 := S13.out.usedAt
              have h2 : ((s.got L p).add (joinP l p i) i).used = p + i := rfl
              rw [h1, h2, HUA.out]
              have := HPM.out
              have := HMP.out
              omega
    · have hmiss := MISS.out wr MJ.out p (by have := HPN.out; have := HL.out; have := HFIT.out; omega) hA
      go_wp2_with (first
        | (refine gw_alloc_sb rfl rfl ?_; intro w2a b9 m9 s9; have B2a := Lib.hid b9; have M2a := Lib.hid (Mods.trans (Mods.refl Nil _) m9); clear b9 m9 s9)
        | (refine wpList_store_mk rfl 124 (.tmp 5) (.tmp 18) rfl rfl _ rfl 124 (bts zeros64).toArray (bts zeros64).toArray rfl B2a.out (by simp [zeros64]) (bts_all _) (infoSB4 (by rfl)) rfl ?_; intro w2 b9 m9; have B2 := Lib.hid b9; have M2 := Lib.hid (M2a.out.nil_trans m9 (fun i hi => by subst hi; exact Nat.le_refl _)); clear b9 m9))
      refine gq_region (by kernel_rfl) (by kernel_rfl) ?_
      try simp only [Act.put, List.setIfInBounds_toArray, List.set_cons_zero, List.set_cons_succ, goInt]
      repeat (first
        | go_big_quiet_skip
        | (go_big_quiet_want; first
            | (refine gq_op (v := ?_) ?_ ?_; rotate_left; (focus (intro V hV; go_simp; try with_reducible rfl)); go_big_quiet_on))
          simp only [Act.put, List.setIfInBounds_toArray, List.set_cons_zero, List.set_cons_succ])
      refine wpQuiet_nil ?_
      intro V hV
      have MV := Lib.hid (M2.out.trans hV)
      clear hV
      go_wp2_with (first
        | (go_at_call 59; refine (HLENC.out _ MV.out).mono ?_; rintro r w9 ⟨rfl, m9⟩; have M9 := Lib.hid (Mods.trans MV.out m9); obtain ⟨f97, ⟨u97, c97⟩, q97⟩ := HFIN.out _ M9.out; have Q97 := Lib.hid q97; clear m9 q97))
      rw [Exit.noGoto_normal]
      exact bodyPost_end (results_none rfl _ _ _) rfl ⟨rfl, Q97.out (HEND.out (take_no1 hA))⟩
end Go.Proofs.Ytdllgmhipenidaa
end

section
/- Package segment: Open. -/
namespace Go.Proofs.Ytdllgmhipenidaa
set_option maxRecDepth 100000
open Go.RowKit
set_option linter.unusedVariables false

theorem sopen_none (w : World) (a n : Int) : Calls Try.prog 15 #[.pointer none, .int .i64 a, .int .i64 n] w fun e w' => e = .returned (.tuple #[.pointer none, .int .i64 1]) ∧ w = w' := by
  go_enter Try.func15, Try.ntmps15
  go_wp2_with fail
  go_ret2
  exact ⟨rfl, rfl⟩
theorem sopen_bad {w : World} {base db : Nat} {d : PD} (h : DiskAt w base db d) (hL : d.L.length ≤ 65536) {a n : Int} (h3 : a ≤ 9223372036854775807) (hbad : a < 0 ∨ n < 1 ∨ (d.L.length : Int) - a < n) :
    Calls Try.prog 15 #[.pointer (some ⟨db, 0, none⟩), .int .i64 a, .int .i64 n] w fun e w' => e = .returned (.tuple #[.pointer none, .int .i64 1]) ∧ w = w' := by
  have HLEN := Lib.hid (dlen_any h)
  obtain ⟨m, hm⟩ : ∃ m, d.L.length = m := ⟨_, rfl⟩
  rw [hm] at HLEN
  by_cases h1 : a < 0
  · clear h hbad
    go_enter Try.func15, Try.ntmps15
    go_wp2_with fail
    go_ret2
    exact ⟨rfl, rfl⟩
  have h1I : 0 ≤ a := by omega
  by_cases h2 : n < 1
  · clear h hbad
    go_enter Try.func15, Try.ntmps15
    go_wp2_with fail
    go_ret2
    exact ⟨rfl, rfl⟩
  have h2I : 1 ≤ n := by omega
  have hw : IntKind.i64.wrap ((m : Int) - a) = (m : Int) - a := by rw [IntKind.wrap_i64]; omega
  have h3I : (m : Int) - a < n := by omega
  clear h hbad hm h1 h2 h3
  go_enter Try.func15, Try.ntmps15
  go_wp2_with (go_at_call 64; refine HLEN.out.mono ?_; rintro e w1 ⟨rfl, rfl⟩)
  go_ret2
  exact ⟨rfl, rfl⟩
theorem sscan_down {w : World} {base db : Nat} {d : PD} (h : DiskAt w base db d) {a n : Nat} (hn : 1 ≤ n) (ha : a ≤ 65536) (hdn : d.down = true) :
    Calls Try.prog 65 #[.pointer (some ⟨db, 0, none⟩), .int .i64 (a : Int), .int .i64 (n : Int)] w fun e w' => e = .returned (.tuple #[.map none, .int .u32 0, .int .i64 20]) ∧ Mods Nil w w' := by
  have H := Lib.hid h
  have hmm := @run_makeMap Try.prog
  have hnI : (0 : Int) < (n : Int) := by omega
  have hwa : IntKind.i64.wrap (a : Int) = (a : Int) := by rw [IntKind.wrap_i64]; omega
  have HA := Lib.hid (show (d.read (a : Int)) = ([], 20) by unfold PD.read PD.at_; rw [hdn]; rfl)
  clear h hn ha
  go_enter Try.func65, Try.ntmps65
  go_wp2_with fail
  go_loopw [17] (fun x wr => x = .int .i64 0 ∧ Mods Nil w wr) (fun x _ => 0)
  case atStart => exact ⟨rfl, (Mods.refl Nil w).alloc _⟩
  case round =>
    obtain ⟨rfl, hmo⟩ := hrel
    have HM := Lib.hid hmo
    clear hmo
    have HRD : Hid (Calls Try.prog 87 #[.pointer (some ⟨db, 0, none⟩), .int .i64 (a : Int)] wr fun e w' => ∃ A c m, e = .returned (.tuple #[.slice A m c, .int .i64 20]) ∧ Mods Nil wr w') := Lib.hid ((dread_any (H.out.nil HM.out) (a : Int)).mono (fun e w' ⟨A, c, m, h1, h2, h3, h4⟩ => by
      rw [HA.out] at h1
      exact ⟨A, c, m, h1, h4⟩))
    go_wp2_with (go_at_call 87; refine HRD.out.mono ?_; rintro e w3 ⟨A, c, m, rfl, m3⟩; have M3 := Lib.hid (HM.out.trans m3); clear m3)
    go_ret3
    exact ⟨rfl, M3.out⟩
/-- A segment that is opened, ahead of its records. -/
def seg0 (a n e : Nat) : PSeg := ⟨a, n, e, [], 0, 0, 0, 0⟩
theorem seg0_in {w1 w : World} {base db : Nat} {d : PD} (hd : DiskAt w1 base db d) (hb : base ≤ w1.heap.size) {a n e : Nat} (hfit : a + n ≤ 65536) (he : e < 4294967296) (hw : (w1.alloc (.map #[] 0)).alloc (.cells (segC db w1.heap.size (seg0 a n e)) 116) = w) :
    SegIn w base (w1.heap.size + 1) db w1.heap.size (seg0 a n e) ∧ DiskAt w base db d ∧ Mods Nil w1 w := by
  subst hw
  have hm : Mods Nil w1 ((w1.alloc (.map #[] 0)).alloc (.cells (segC db w1.heap.size (seg0 a n e)) 116)) := ((Mods.refl Nil w1).alloc _).alloc _
  refine ⟨⟨?_, ⟨fun _ => none, ?_, ?_⟩, by omega, hb, ⟨hfit, Nat.zero_le _, Nat.le_refl _, Nat.le_refl _, Nat.le_refl _, he, ⟨by show (-1000 : Int) ≤ 0; omega, by show (0 : Int) ≤ 1000; omega⟩⟩⟩, hd.nil hm, hm⟩
  · have := Blk.new (w1.alloc (.map #[] 0)) 116 (segC db w1.heap.size (seg0 a n e))
    rwa [World.size_alloc] at this
  · exact (IMap.made w1 Try.prog 3).mods ((Mods.refl Nil _).alloc _) (fun h => h)
  · exact ⟨fun _ _ => rfl, fun k _ h => absurd h (Nat.not_lt_zero _)⟩
set_option maxHeartbeats 3200000 in
theorem sopen_ok {w : World} {base db : Nat} {d : PD} (h : DiskAt w base db d) (hb : base ≤ w.heap.size) (hL : d.L.length ≤ 65536) {a n : Nat} (h1 : 1 ≤ n) (hn : a + n ≤ d.L.length) (hup : d.down = false) (hst : stampP (segL d a n) < 4294967295) :
    Calls Try.prog 15 #[.pointer (some ⟨db, 0, none⟩), .int .i64 (a : Int), .int .i64 (n : Int)] w fun e w' => ∃ sb, e = .returned (.tuple #[.pointer (some ⟨sb, 0, none⟩), .int .i64 0]) ∧ SegAt w' base sb db d (segOpen (segL d a n) a) ∧ Mods Nil w w' := by
  have HLEN := Lib.hid (dlen_any h)
  have HSC := Lib.hid (sscan_up h hn hL hup)
  have hsl := segL_length d a n
  have h64 : ∀ b ∈ segL d a n, b.length = 64 := fun b hb => by
    obtain ⟨i, hi, e⟩ := mem_getD hb
    rw [hsl] at hi
    rw [← e, segL_get hi]
    obtain ⟨_, _, _, h⟩ := h
    exact h.ok.lat (by omega)
  obtain ⟨l, hl⟩ : ∃ l, segL d a n = l := ⟨_, rfl⟩
  rw [hl] at hst HSC hsl h64
  rw [hl]
  obtain ⟨st, hst2⟩ : ∃ st, stampP l = st := ⟨_, rfl⟩
  rw [hst2] at hst HSC
  obtain ⟨m, hm⟩ : ∃ m, d.L.length = m := ⟨_, rfl⟩
  rw [hm] at HLEN hn hL
  have hw : IntKind.i64.wrap ((m : Int) - (a : Int)) = (m : Int) - (a : Int) := by rw [IntKind.wrap_i64]; omega
  have h3I : (n : Int) ≤ (m : Int) - (a : Int) := by omega
  have h1I : (1 : Int) ≤ (n : Int) := by omega
  have hneq : ((st : Int) == 4294967295) = false := by simp; omega
  have hadd : IntKind.u32.wrap ((st : Int) + 1) = ((st + 1 : Nat) : Int) := by rw [IntKind.wrap_u32]; omega
  obtain ⟨ep, hep⟩ : ∃ ep, st + 1 = ep := ⟨_, rfl⟩
  rw [hep] at hadd
  have hmm := @run_makeMap Try.prog
  have HFIND : Hid (∀ w1 w2, Mods Nil w w1 → (w1.alloc (.map #[] 0)).alloc (.cells (segC db w1.heap.size (seg0 a n ep)) 116) = w2 → (∃ cnt f, IMap Try.prog 3 w1 w.heap.size cnt f ∧ KnownF l f) → Calls Try.prog 66 #[.pointer (some ⟨w1.heap.size + 1, 0, none⟩), .map (some w.heap.size)] w2 fun e w' => e = .returned (.tuple #[]) ∧ SegAt w' base (w1.heap.size + 1) db d (segOpen l a) ∧ Mods Nil w w') :=
    Lib.hid (fun w1 w2 hm1 hw2 hk => by
      obtain ⟨cnt, f, hi, hkf⟩ := hk
      have hlt := hi.lt
      obtain ⟨g1, g2, g3⟩ := seg0_in (h.nil hm1) (Nat.le_trans hb hm1.size) (by omega) (show ep < 4294967296 by omega) hw2
      refine (sfind_in g1 g2 (hi.mods g3 (fun h => h)) hkf (by omega) hsl h64 ⟨rfl, rfl⟩).mono ?_
      rintro e w' ⟨rfl, s1, d1, m1⟩
      refine ⟨rfl, ⟨d1, w1.heap.size, ?_⟩, ((hm1.trans g3).nil_trans m1 (fun i hi => by have := hm1.size; omega))⟩
      have e1 : segOpen l a = (seg0 a n ep).done (walkP l (l.length + 1) 0 0 0).1 (walkP l (l.length + 1) 0 0 0).2 := by
        unfold segOpen PSeg.done seg0
        rw [hst2, hep, hsl]
      rw [e1]
      exact s1)
  clear h hb hL h1 hn hup hst hsl h64 hl hst2 hm hep
  go_enter Try.func15, Try.ntmps15
  go_wp2_with (first
    | (go_at_call 64; refine HLEN.out.mono ?_; rintro e w1 ⟨rfl, rfl⟩)
    | (go_at_call 65; refine HSC.out.mono ?_; rintro e w1 ⟨rfl, hk, m1⟩; have HKF := Lib.hid hk; have M1 := Lib.hid m1; clear hk m1)
    | (go_at_call 66; refine (HFIND.out w1 _ M1.out rfl HKF.out).mono ?_; rintro e w3 ⟨rfl, s3, m3⟩; have S3 := Lib.hid s3; have M3 := Lib.hid m3; clear s3 m3))
  go_ret2
  exact ⟨_, rfl, S3.out, M3.out⟩
end Go.Proofs.Ytdllgmhipenidaa
end

section
/- Package segment: Open of a disk that is down, and where no epoch is left. -/
namespace Go.Proofs.Ytdllgmhipenidaa
set_option maxRecDepth 100000
open Go.RowKit
set_option linter.unusedVariables false

set_option maxHeartbeats 3200000 in
theorem sopen_down {w : World} {base db : Nat} {d : PD} (h : DiskAt w base db d) (hL : d.L.length ≤ 65536) {a n : Nat} (h1 : 1 ≤ n) (hn : a + n ≤ d.L.length) (hdn : d.down = true) :
    Calls Try.prog 15 #[.pointer (some ⟨db, 0, none⟩), .int .i64 (a : Int), .int .i64 (n : Int)] w fun e w' => e = .returned (.tuple #[.pointer none, .int .i64 20]) ∧ Mods Nil w w' := by
  have HLEN := Lib.hid (dlen_any h)
  have ha : a ≤ 65536 := by omega
  have HSC := Lib.hid (sscan_down h h1 ha hdn)
  clear ha
  obtain ⟨m, hm⟩ : ∃ m, d.L.length = m := ⟨_, rfl⟩
  rw [hm] at HLEN hn hL
  have hw : IntKind.i64.wrap ((m : Int) - (a : Int)) = (m : Int) - (a : Int) := by rw [IntKind.wrap_i64]; omega
  have h3I : (n : Int) ≤ (m : Int) - (a : Int) := by omega
  have h1I : (1 : Int) ≤ (n : Int) := by omega
  clear h hL h1 hn hdn hm
  go_enter Try.func15, Try.ntmps15
  go_wp2_with (first
    | (go_at_call 64; refine HLEN.out.mono ?_; rintro e w1 ⟨rfl, rfl⟩)
    | (go_at_call 65; refine HSC.out.mono ?_; rintro e w1 ⟨rfl, m1⟩; have M1 := Lib.hid m1; clear m1 hw h3I h1I))
  go_ret2
  exact ⟨rfl, M1.out⟩
set_option maxHeartbeats 3200000 in
theorem sopen_worn {w : World} {base db : Nat} {d : PD} (h : DiskAt w base db d) (hL : d.L.length ≤ 65536) {a n : Nat} (h1 : 1 ≤ n) (hn : a + n ≤ d.L.length) (hup : d.down = false) (hst : stampP (segL d a n) = 4294967295) :
    Calls Try.prog 15 #[.pointer (some ⟨db, 0, none⟩), .int .i64 (a : Int), .int .i64 (n : Int)] w fun e w' => e = .returned (.tuple #[.pointer none, .int .i64 37]) ∧ Mods Nil w w' := by
  have HLEN := Lib.hid (dlen_any h)
  have HSC := sscan_up h hn hL hup
  rw [hst] at HSC
  replace HSC := Lib.hid HSC
  obtain ⟨m, hm⟩ : ∃ m, d.L.length = m := ⟨_, rfl⟩
  rw [hm] at HLEN hn hL
  have hw : IntKind.i64.wrap ((m : Int) - (a : Int)) = (m : Int) - (a : Int) := by rw [IntKind.wrap_i64]; omega
  have h3I : (n : Int) ≤ (m : Int) - (a : Int) := by omega
  have h1I : (1 : Int) ≤ (n : Int) := by omega
  clear h hL h1 hn hup hm hst
  go_enter Try.func15, Try.ntmps15
  go_wp2_with (first
    | (go_at_call 64; refine HLEN.out.mono ?_; rintro e w1 ⟨rfl, rfl⟩)
    | (go_at_call 65; refine HSC.out.mono ?_; rintro e w1 ⟨rfl, hk, m1⟩; have M1 := Lib.hid m1; clear m1 hk hw h3I h1I))
  go_ret2
  exact ⟨rfl, M1.out⟩
end Go.Proofs.Ytdllgmhipenidaa
end
