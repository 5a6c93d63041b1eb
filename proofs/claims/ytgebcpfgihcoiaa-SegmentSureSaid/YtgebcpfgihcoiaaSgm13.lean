/- Package segment: scan. -/
import Derived.Test.YtgebcpfgihcoiaaSgm2
import Derived.Test.YtgebcpfgihcoiaaSgm6
import Derived.Test.YtgebcpfgihcoiaaSeg3
namespace Go.Proofs.Ytgebcpfgihcoiaa
set_option maxRecDepth 100000
open Go.RowKit
set_option linter.unusedVariables false

/-- A region's blocks, as they are read. -/
def segL (d : PD) (a n : Nat) : List (List UInt8) := (List.range n).map fun i => d.lat (a + i)
theorem segL_length (d : PD) (a n : Nat) : (segL d a n).length = n := by simp [segL]
theorem segL_get {d : PD} {a n i : Nat} (h : i < n) : (segL d a n).getD i [] = d.lat (a + i) := by
  simp [segL, List.getD_eq_getElem?_getD, h]
theorem segL_take (d : PD) (a n j : Nat) (h : j < n) : (segL d a n).take (j + 1) = (segL d a n).take j ++ [d.lat (a + j)] := by
  rw [List.take_succ_eq_append_getElem (by rw [segL_length]; exact h)]
  congr 2
  simp [segL]
theorem stampP_snoc (l : List (List UInt8)) (b : List UInt8) : stampP (l ++ [b]) = max (max (stampP l) (numP b 0)) (numP b 60) := by
  unfold stampP
  rw [List.foldl_append]
  rfl
theorem stampP_lt (l : List (List UInt8)) : stampP l < 4294967296 := by
  have : stampP l ≤ 4294967295 := stampP_le (fun b hb => ⟨by have := numP_lt b 0; omega, by have := numP_lt b 60; omega⟩)
  omega
/-- What is known of so many blocks. -/
def KnownF (l : List (List UInt8)) (f : Int → Option Value) : Prop := (∀ x : Int, x < 0 ∨ (l.length : Int) ≤ x → f x = none) ∧ ∀ i : Nat, i < l.length → f (i : Int) = if rightQ (l.getD i []) then some (aggB (l.getD i [])) else none
theorem KnownF.nil : KnownF [] (fun _ => none) := ⟨fun _ _ => rfl, fun i h => by simp at h⟩
theorem KnownF.skip {l : List (List UInt8)} {f : Int → Option Value} (h : KnownF l f) {b : List UInt8} (hb : rightQ b = false) : KnownF (l ++ [b]) f := by
  refine ⟨fun x hx => h.1 x (by simp at hx; omega), fun i hi => ?_⟩
  simp at hi
  by_cases e : i = l.length
  · subst e
    rw [h.1 _ (.inr (by omega))]
    simp [hb]
  · rw [h.2 i (by omega)]
    simp [List.getD_eq_getElem?_getD, List.getElem?_append_left (show i < l.length by omega)]
theorem KnownF.more {l : List (List UInt8)} {f : Int → Option Value} (h : KnownF l f) {b : List UInt8} (hb : rightQ b = true) : KnownF (l ++ [b]) (upd f (l.length : Int) (some (aggB b))) := by
  refine ⟨fun x hx => ?_, fun i hi => ?_⟩
  · simp at hx
    unfold upd
    rw [if_neg (by omega)]
    exact h.1 x (by omega)
  · simp at hi
    unfold upd
    by_cases e : i = l.length
    · subst e
      simp [hb]
    · rw [if_neg (by omega), h.2 i (by omega)]
      simp [List.getD_eq_getElem?_getD, List.getElem?_append_left (show i < l.length by omega)]
theorem PD.Ok.read_lat {d : PD} {i : Int} (h : d.at_ i = 0) : d.read i = (d.lat i.toNat, 0) := by
  unfold PD.read PD.lat
  rw [if_neg (by simp [h])]
set_option maxHeartbeats 6400000 in
theorem sscan_up {w : World} {base db : Nat} {d : PD} (h : DiskAt w base db d) {a n : Nat} (hn : a + n ≤ d.L.length) (hL : d.L.length ≤ 65536) (hup : d.down = false) :
    Calls Try.prog 37 #[.pointer (some ⟨db, 0, none⟩), .int .i64 (a : Int), .int .i64 (n : Int)] w fun e w' => e = .returned (.tuple #[.map (some w.heap.size), .int .u32 (stampP (segL d a n) : Nat), .int .i64 0]) ∧ (∃ cnt f, IMap Try.prog 3 w' w.heap.size cnt f ∧ KnownF (segL d a n) f) ∧ Mods Nil w w' := by
  have H := Lib.hid h
  have HNL := Lib.hid hn
  have HL := Lib.hid hL
  have HOK : Hid d.Ok := by obtain ⟨_, _, _, h⟩ := h; exact Lib.hid h.ok
  have hmm := @run_makeMap Try.prog
  have hnI : (n : Int) ≤ 65536 := by omega
  clear h hn hL
  go_enter Try.func37, Try.ntmps37
  go_wp2_with fail
  go_loopw [10, 17] (fun g x wr => ∃ (j cnt gr : Nat) (f : Int → Option Value), j ≤ n ∧ x = .int .i64 (j : Int) ∧ g = .int .u32 (gr : Int) ∧ stampP ((segL d a n).take j) = gr ∧ cnt ≤ j ∧ IMap Try.prog 3 wr w.heap.size cnt f ∧ KnownF ((segL d a n).take j) f ∧ Mods Nil w wr) (fun _ x _ => n - (intOf x).toNat)
  case atStart => exact ⟨0, 0, 0, fun _ => none, Nat.zero_le _, rfl, rfl, rfl, Nat.le_refl _, IMap.made w _ _, KnownF.nil, (Mods.refl Nil w).alloc _⟩
  case round =>
    obtain ⟨j, cnt, gr, f, hj, rfl, rfl, hgr, hcnt, hI, hK, hmo⟩ := hrel
    have HGR := Lib.hid hgr
    have HC := Lib.hid hcnt
    have HI := Lib.hid hI
    have HK := Lib.hid hK
    have HM := Lib.hid hmo
    clear hgr hcnt hI hK hmo
    by_cases hlt : j < n
    · have hltI : (j : Int) < (n : Int) := by omega
      obtain ⟨p, hp⟩ : ∃ p, a + j = p := ⟨_, rfl⟩
      have hpI : (a : Int) + (j : Int) = (p : Int) := by omega
      have hw2 : IntKind.i64.wrap (p : Int) = (p : Int) := by rw [IntKind.wrap_i64]; have := HNL.out; have := HL.out; omega
      have hw3 : IntKind.i64.wrap ((j : Int) + 1) = (j : Int) + 1 := by rw [IntKind.wrap_i64]; omega
      obtain ⟨b, hb⟩ : ∃ b, d.lat p = b := ⟨_, rfl⟩
      have hat : d.at_ (p : Int) = 0 := by unfold PD.at_; rw [hup, if_neg (by simp), if_neg (by have := HNL.out; omega)]
      have hbl : b.length = 64 := by rw [← hb]; exact HOK.out.lat (by have := HNL.out; omega)
      have HRD : Hid (Calls Try.prog 59 #[.pointer (some ⟨db, 0, none⟩), .int .i64 (p : Int)] wr fun e w' => ∃ A c m, e = .returned (.tuple #[.slice A m c, .int .i64 0]) ∧ m = 64 ∧ Sl w' A c (bts b) ∧ Mods Nil wr w') := Lib.hid (((dread_any (H.out.nil HM.out) (p : Int))).mono (fun e w' ⟨A, c, m, h1, h2, h3, h4⟩ => by
        rw [PD.Ok.read_lat hat] at h1 h2 h3
        simp only [Int.toNat_natCast, hb] at h1 h2 h3
        exact ⟨A, c, m, h1, by omega, h3, h4⟩))
      have HBL := Lib.hid hbl
      have HTK : Hid ((segL d a n).take (j + 1) = (segL d a n).take j ++ [b]) := by
        have := segL_take d a n j hlt
        rw [hp, hb] at this
        exact Lib.hid this
      have HN0 := Lib.hid (fun V => snumber0 V hbl)
      have HN6 := Lib.hid (fun V => snumber60 V hbl)
      have HRT := Lib.hid (fun V => sright_any V hbl)
      obtain ⟨x, hx⟩ : ∃ x, numP b 0 = x := ⟨_, rfl⟩
      obtain ⟨y, hy⟩ : ∃ y, numP b 60 = y := ⟨_, rfl⟩
      rw [hx] at HN0
      rw [hy] at HN6
      obtain ⟨mx, hmx⟩ : ∃ mx, max (max gr x) y = mx := ⟨_, rfl⟩
      have hmax : ∀ (ts : Array TypeId) (ty : TypeId) (W : World), (Builtin.max_ ts ty #[.int .u32 (gr : Int), .int .u32 (x : Int), .int .u32 (y : Int)]).run Try.prog W = .ok (.int .u32 (mx : Int)) W := fun ts ty W => by
        rw [run_max_int3]
        congr 2
        split <;> split <;> omega
      have HST : Hid (stampP ((segL d a n).take (j + 1)) = mx) := by
        show _ = _
        rw [HTK.out, stampP_snoc, HGR.out, hx, hy, hmx]
      clear hp hb hat hbl hx hy hmx
      have HINF := Lib.hid (infoSB3 HBL.out)
      go_wp2_with (first
        | (go_at_call 59; refine HRD.out.mono ?_; rintro e w3 ⟨A, c, m64, rfl, rfl, s3, m3⟩; have S3 := Lib.hid s3; have M3 := Lib.hid m3; clear s3 m3)
        | (refine gw_alloc_sb rfl rfl ?_; intro w4 b9 m9 s9; have B3 := Lib.hid b9; have M4 := Lib.hid m9; clear b9 m9 s9)
        | (refine wpList_copy_mk rfl (.tmp 31) (.tmp 32) 42 42 rfl 5 Try.underlying42 infoU8s w3.heap.size 0 64 64 94 (bts zeros64).toArray (bts b).toArray rfl B3.out A 64 c (bts b) rfl (S3.out.mods M4.out (fun _ _ h => h)) (by rw [bts_length]; exact HBL.out) (bts_one _) (by omega) (by simp [zeros64]) (by simp [zeros64, bts]) ?_; intro w5 b9 m9; have B4 := Lib.hid b9; have M5 := Lib.hid ((M3.out.trans M4.out).nil_trans m9 (fun i hi => by have := M3.out.size; omega)); clear b9 m9))
      have R5 : Hid (∀ V, Mods Nil w5 V → V.rangeAt w3.heap.size 0 (bts b)) := Lib.hid (fun V hV => blk_range (B4.out.mods hV (fun h => h)))
      have N0 := Lib.hid (gq_of (W := w5) HN0.out)
      have N6 := Lib.hid (gq_of (W := w5) HN6.out)
      refine gq_region (by kernel_rfl) (by kernel_rfl) ?_
      try simp only [Act.put, List.setIfInBounds_toArray, List.set_cons_zero, List.set_cons_succ, goInt]
      repeat (first
        | go_big_quiet_skip
        | (go_big_quiet_want; first
            | (refine gq_load_row 94 _ rfl _ _ rfl (bts b) _ R5.out Try.underlying94 rfl HINF.out ?_; go_big_quiet_on)
            | (refine gq_call N0.out ?_ ?_; (focus (intro V; go_simp; done)); go_big_quiet_on)
            | (refine gq_call N6.out ?_ ?_; (focus (intro V; go_simp; done)); go_big_quiet_on)
            | (refine gq_op (v := ?_) ?_ ?_; rotate_left; (focus (intro V hV; go_simp; try with_reducible rfl)); go_big_quiet_on))
          simp only [Act.put, List.setIfInBounds_toArray, List.set_cons_zero, List.set_cons_succ])
      refine wpQuiet_nil ?_
      intro V hV
      have NV := Lib.hid hV
      have MV := Lib.hid (M5.out.trans hV)
      clear hV
      cases hr : rightQ b with
      | false =>
        rw [hr] at HRT
        go_wp2_with (first
          | (refine gw_load_mid (by rfl) 94 _ rfl w3.heap.size 0 rfl (bts b) _ (blk_range (B4.out.mods (by first | exact NV.out | exact NR.out) (fun h => h))) Try.underlying94 rfl HINF.out ?_)
          | (go_at_call 62; refine (HRT.out _).mono ?_; rintro e w6 ⟨rfl, m6⟩; have NR := Lib.hid (NV.out.trans m6); have MR := Lib.hid (MV.out.trans m6); clear m6))
        refine ⟨⟨j + 1, cnt, mx, f, by omega, by go_num, rfl, HST.out, by have := HC.out; omega, HI.out.mods MR.out (fun h => h), ?_, HM.out.trans MR.out⟩, by simp [intOf]; omega⟩
        rw [HTK.out]
        exact HK.out.skip hr
      | true =>
        rw [hr] at HRT
        go_wp2_with (first
          | (refine gw_load_mid (by rfl) 94 _ rfl w3.heap.size 0 rfl (bts b) _ (blk_range (B4.out.mods (by first | exact NV.out | exact NR.out) (fun h => h))) Try.underlying94 rfl HINF.out ?_)
          | (go_at_call 62; refine (HRT.out _).mono ?_; rintro e w6 ⟨rfl, m6⟩; have NR := Lib.hid (NV.out.trans m6); have MR := Lib.hid (MV.out.trans m6); clear m6)
          | (refine wpList_mapUpdate_im rfl (.tmp 42) (.tmp 43) (.tmp 44) 80 rfl 3 94 Try.underlying3 Try.underlying80 w.heap.size cnt f (j : Int) (aggB b) rfl rfl rfl (HI.out.mods MR.out (fun h => h)) (in64_of (by omega) (by omega)) (HK.out.1 _ (.inr (by rw [List.length_take, segL_length]; omega))) (by unfold maxLen; have := HC.out; omega) ?_; intro w7 i7 m7; have I7 := Lib.hid i7; have M7 := Lib.hid ((HM.out.trans MR.out).nil_trans m7 (fun i hi => by omega)); clear i7 m7))
        refine ⟨⟨j + 1, cnt + 1, mx, _, by omega, by go_num, rfl, HST.out, by have := HC.out; omega, I7.out, ?_, M7.out⟩, by simp [intOf]; omega⟩
        rw [HTK.out]
        have := HK.out.more hr
        rwa [List.length_take, segL_length, Nat.min_eq_left (by omega)] at this
    · obtain rfl : j = n := by omega
      have htk : (segL d a j).take j = segL d a j := List.take_of_length_le (by rw [segL_length]; exact Nat.le_refl _)
      have HGR2 := Lib.hid HGR.out
      have HK2 := Lib.hid HK.out
      rw [htk] at HGR2 HK2
      clear htk
      go_wp2_with fail
      go_ret3
      exact ⟨by rw [HGR2.out]; rfl, ⟨cnt, f, HI.out, HK2.out⟩, HM.out⟩
end Go.Proofs.Ytgebcpfgihcoiaa
