/- Texts laid as one: Msg5, Msg6, Msg7, Msg8, Msg9. -/
import Derived.Test.YtlheaicojmjdpaaDoorMsgB
import Derived.Test.YtlheaicojmjdpaaDoorNumsM
import Derived.Test.YtlheaicojmjdpaaDoorFrameM
import Derived.Deep.RegionHeld

section
/- Package msg: one field is put. -/
namespace Go.Proofs.YtlheaicojmjdpaaDoor
set_option maxRecDepth 100000
open Go.RowKit
set_option linter.unusedVariables false

theorem bit_ne9 : ∀ j, j < 10 → j ≠ 9 → (bitI j == 512) = false :=
  ten_cases (by decide) (by decide) (by decide) (by decide) (by decide) (by decide) (by decide) (by decide) (by decide) (by decide)
theorem bit_ne8 : ∀ j, j < 10 → j ≠ 8 → (bitI j == 256) = false :=
  ten_cases (by decide) (by decide) (by decide) (by decide) (by decide) (by decide) (by decide) (by decide) (by decide) (by decide)
theorem In.wrote {w0 w w' : World} {base g : Nat} {v v' : Value} {out : List UInt8} {m : PM} {L : Loc} (h : In w m L) (h0 : In w0 m L) (hb : w0.heap.size ≤ base) (hw : IsWriter w base g v out) (hr : Wrote w w' g v v') : In w' m L :=
  ⟨h.v.mods' hr.mods (fun hne a ha hs => by have := hw.apart hb h0.v hne a ha; rcases hs with hs | hs; exact this.1 hs; exact this.2 hs),
   h.b.mods' hr.mods (fun hne a ha hs => by have := hw.apart hb h0.b hne a ha; rcases hs with hs | hs; exact this.1 hs; exact this.2 hs)⟩
theorem IsWriter.nil {w w' : World} {base g : Nat} {v : Value} {out : List UInt8} (h : IsWriter w base g v out) (hm : Mods Nil w w') : IsWriter w' base g v out := h.mods hm (fun h => h) (fun _ _ h => h)
theorem Wrote.nil {w w1 w2 : World} {g : Nat} {v v' : Value} (h : Wrote w w1 g v v') (hm : Mods Nil w1 w2) : Wrote w w2 g v v' := h.trans ⟨hm.mono (fun _ _ h => h.elim), fun _ h => .inl h⟩
theorem Wrote.new (w : World) (g : Nat) (v : Value) (o : Obj) : Wrote w (w.alloc o) g v v := ⟨(Mods.refl _ _).alloc o, fun _ h => .inl h⟩
/-- A writer's blocks are of other types than a message. -/
theorem b2_apart {w : World} {base g g' : Nat} {v : Value} {out : List UInt8} {cs : Array Value} (hw : IsWriter w base g v out) (hb : Blk w g' 32 cs) (h : g' = g ∨ v.ownBlock = some g') : False := by
  rcases h with rfl | h
  · exact Blk.ne_ hb hw.blk (by decide) rfl
  · exact own_blk_ne hw.own hb (by decide) h
theorem nums_get (xs : List Nat) (j : Nat) (h : j < xs.length) : (nums xs)[j]? = some (.int .u64 ((xs[j] : Nat) : Int)) := by simp [nums, h]
theorem nums_length (xs : List Nat) : (nums xs).length = xs.length := by simp [nums]

set_option maxHeartbeats 4000000 in
theorem putField_any {w0 w : World} {base g : Nat} {v : Value} {out : List UInt8} {m : PM} {L : Loc} {j : Nat} (hj : j < 10) (ho : m.ok) (hle : amt m j ≤ most j) (h0 : In w0 m L) (hb : w0.heap.size ≤ base) (hin : In w m L)
    (hlim : out.length ≤ 1000000) (hw : IsWriter w base g v out) :
    Calls Tryd.prog 31 #[.pointer (some ⟨g, 0, none⟩), .agg (MC m L), .int .u16 (bitI j)] w fun e w' => e = .returned (.tuple #[]) ∧ ∃ v', IsWriter w' base g v' (out ++ putF m j) ∧ Wrote w w' g v v' := by
  have hB := Blk.new w 32 (MC m L)
  obtain ⟨c0, c1, c2, c3, c4, c5, c6, c7, c8, c9, c10⟩ := hB.mc
  have HO := Lib.hid ho
  have HIN := Lib.hid hin
  have H0 := Lib.hid h0
  have HW := Lib.hid (hw.alloc (.cells (MC m L) 32))
  have HR := Lib.hid (Wrote.new w g v (.cells (MC m L) 32))
  have HJ := Lib.hid hj
  by_cases h9 : j = 9
  · subst h9
    have hle' : m.body.length ≤ 32768 := hle
    have e9 : bitI 9 = 512 := rfl
    have hp : putF m 9 = putB m.body := rfl
    rw [e9, hp]
    have HA := Lib.hid (HW.out.apart hb H0.out.b)
    have HS := Lib.hid (HIN.out.b.alloc (.cells (MC m L) 32))
    have HL := Lib.hid hle'
    clear hB hle hle' hp hw hin ho h0 e9
    go_enter Tryd.func31, Tryd.ntmps31
    go_wp2_with (go_at_call 54; refine (wbytes_any rfl (by have := HL.out; omega) HW.out HS.out HA.out).mono ?_; rintro e w2 ⟨rfl, v2, h2, r2⟩; have H2 := Lib.hid h2; have R2 := Lib.hid (HR.out.trans r2); clear h2 r2)
    exact bodyPost_ret (results_none rfl _ _ _) rfl ⟨rfl, v2, H2.out, R2.out⟩
  · have hne9 := bit_ne9 j hj h9
    by_cases h8 : j = 8
    · subst h8
      have hle' : m.vec.length ≤ 256 := hle
      have e8 : bitI 8 = 256 := rfl
      have hp : putF m 8 = putU m.vec.length ++ putAll m.vec := rfl
      rw [hp]
      rw [e8] at hne9 ⊢
      have hal : ∀ k, (putAll (m.vec.take k)).length ≤ 9 * m.vec.length := fun k => by
        have h1 := putAll_length (m.vec.take k) (fun x hx => ho.vec x (List.mem_of_mem_take hx))
        simp only [List.length_take] at h1
        omega
      have HAL := Lib.hid hal
      have HB := Lib.hid hb
      have HW0 := Lib.hid hw
      have hul := putU_length m.vec.length (by omega)
      have HUL := Lib.hid hul
      have hnc : m.vec.length ≤ L.cv := by have := HIN.out.v.le; rw [nums_length] at this; exact this
      have hcm := HIN.out.v.max
      unfold maxLen at hcm
      clear hB hle hp hw hin ho h0 h9 e8 hal hb hul
      have ham : Hid (∀ w, Calls Tryd.prog 34 #[.agg (MC m L), .int .u16 256] w fun e w' => e = .returned (.int .u64 ((m.vec.length : Nat) : Int)) ∧ Mods Nil w w') := fun w => amount_any m L HO.out.vlen HO.out.blen w 8 (by omega)
      go_enter Tryd.func31, Tryd.ntmps31
      go_wp2_with (first
        | (go_at_call 34; refine (ham.out _).mono ?_; rintro e w2 ⟨rfl, m2⟩; have c9b := (World.cell?_of_block (m2.block w.heap.size (by simp) (fun h => h))).trans c9; have H2 := Lib.hid (HW.out.nil m2); have R2 := Lib.hid (HR.out.nil m2); have b2 := Lib.hid ((Blk.new w 32 (MC m L)).mods m2 (fun h => h)); clear m2)
        | (go_at_call 38; refine (wuint_any m.vec.length (by omega) (by omega) H2.out).mono ?_; rintro e w3 ⟨rfl, v3, h3, r3⟩; have b3 := b2.out.mods r3.mods (fun h => b2_apart H2.out b2.out h); have c9c := b3.mc.2.2.2.2.2.2.2.2.2.1; have H3 := Lib.hid h3; have R3 := Lib.hid (R2.out.trans r3); clear h3 r3 b3))
      go_loopw [24] (fun i wr => ∃ k v', i = .int .i64 ((k : Nat) : Int) ∧ k ≤ m.vec.length ∧ IsWriter wr base g v' (out ++ putU m.vec.length ++ putAll (m.vec.take k)) ∧ Wrote w wr g v v') (fun i _ => m.vec.length - (intOf i).toNat)
      case atStart => exact ⟨0, v3, rfl, by omega, by simpa [putAll] using H3.out, R3.out⟩
      case round =>
        obtain ⟨k, v', rfl, hk, h4, r4⟩ := hrel
        clear c0 c1 c2 c3 c4 c5 c6 c7 c8 c9 c10 c9b c9c
        by_cases hlt : k < m.vec.length
        · have hcell := (HIN.out.wrote H0.out HB.out HW0.out r4).v
          obtain ⟨bb, off, hAv, hbb, hc⟩ := hcell.at_ (by rw [nums_length]; omega)
          have hck := hc k _ (nums_get m.vec k hlt)
          have hx := HO.out.vec _ (List.getElem_mem hlt)
          have hsn := putAll_snoc m.vec k hlt
          have hlk := HAL.out k
          have hltI : (k : Int) < (m.vec.length : Int) := by omega
          generalize m.vec[k] = x at hck hx hsn
          have H4 := Lib.hid h4
          have R4 := Lib.hid r4
          have HSN := Lib.hid hsn
          have hl4 : (out ++ putU m.vec.length ++ putAll (m.vec.take k)).length + 9 ≤ 140737488355328 := by have := HUL.out; simp only [List.length_append]; omega
          have HL4 := Lib.hid hl4
          clear h4 r4 hcell hc hsn hl4 hlk
          rw [hAv]
          go_wp2_with (go_at_call 38; refine (wuint_any x hx HL4.out H4.out).mono ?_; rintro e w5 ⟨rfl, v5, h5, r5⟩; have H5 := Lib.hid h5; have R5 := Lib.hid (R4.out.trans r5); clear h5 r5)
          exact ⟨⟨k + 1, v5, by go_num, by omega, by rw [HSN.out, ← List.append_assoc]; exact H5.out, R5.out⟩, by simp [intOf]; omega⟩
        · obtain rfl : k = m.vec.length := by omega
          rw [List.take_length] at h4
          have H4 := Lib.hid h4
          have R4 := Lib.hid r4
          clear h4 r4
          go_wp2_with fail
          exact bodyPost_end (results_none rfl _ _ _) rfl ⟨rfl, v', by rw [← List.append_assoc]; exact H4.out, R4.out⟩
    · have hne8 := bit_ne8 j hj h8
      have hp : putF m j = putU (amt m j) := by unfold putF; rw [if_neg h9, if_neg h8, List.append_nil]
      rw [hp]
      have hlt := amt_lt ho j
      clear hB hle hp hw hin ho h0 h8 h9
      go_enter Tryd.func31, Tryd.ntmps31
      go_wp2_with (first
        | (go_at_call 34; refine (amount_any m L HO.out.vlen HO.out.blen _ j HJ.out).mono ?_; rintro e w2 ⟨rfl, m2⟩; have H2 := Lib.hid (HW.out.nil m2); have R2 := Lib.hid (HR.out.nil m2); clear m2)
        | (go_at_call 38; refine (wuint_any (amt m j) hlt (by omega) H2.out).mono ?_; rintro e w3 ⟨rfl, v3, h3, r3⟩; have H3 := Lib.hid h3; have R3 := Lib.hid (R2.out.trans r3); clear h3 r3))
      exact bodyPost_end (results_none rfl _ _ _) rfl ⟨rfl, v3, H3.out, R3.out⟩
end Go.Proofs.YtlheaicojmjdpaaDoor
end

section
/- Package msg: Put. -/
namespace Go.Proofs.YtlheaicojmjdpaaDoor
set_option maxRecDepth 100000
open Go.RowKit Go.Shelf
set_option linter.unusedVariables false

attribute [local go_sem] Oper.semAt_some

/-- A writer's blocks are of types of their own. -/
theorem w_apart {w : World} {base g g' : Nat} {v : Value} {out : List UInt8} {t : TypeId} {cs : Array Value} (hw : IsWriter w base g v out) (hb : Blk w g' t cs) (h1 : t ≠ 104) (h2 : 5 ≠ t) (h : g' = g ∨ v.ownBlock = some g') : False := by
  rcases h with rfl | h
  · exact Blk.ne_ hb hw.blk h1 rfl
  · exact own_blk_ne hw.own hb h2 h

set_option maxHeartbeats 4000000 in
theorem mput_bad {w : World} {m : PM} {L : Loc} (ho : m.ok) (hT : Tab w) (hb : chk m = 1) :
    Calls Tryd.prog 15 #[.agg (MC m L)] w fun e w' => e = .returned (.tuple #[.slice none 0 0, .int .i64 1]) ∧ Mods Nil w w' := by
  have hB := Blk.new w 32 (MC m L)
  obtain ⟨c0, c1, c2, c3, c4, c5, c6, c7, c8, c9, c10⟩ := hB.mc
  have HO := Lib.hid ho
  have HT := Lib.hid (hT.mods ((Mods.refl Nil w).alloc (.cells (MC m L) 32)) (fun h => h))
  have HC := Lib.hid hb
  clear hB ho hT hb
  go_enter Tryd.func15, Tryd.ntmps15
  go_wp2_with (go_at_call 17; refine (check_any (L := L) HO.out HT.out).mono ?_; rintro e w2 ⟨rfl, m2⟩; rw [HC.out]; have M2 := Lib.hid (((Mods.refl Nil w).alloc _).trans m2); clear m2)
  exact bodyPost_ret (results_tmp2 rfl _ _ _) rfl ⟨rfl, M2.out⟩

set_option maxHeartbeats 8000000 in
theorem mput_any {w : World} {m : PM} {L : Loc} (ho : m.ok) (hT : Tab w) (hin : In w m L) (hg : Good m) :
    Calls Tryd.prog 15 #[.agg (MC m L)] w fun e w' => ∃ v, e = .returned (.tuple #[v, .int .i64 0]) ∧ w'.ownsRow w.heap.size 5 1 v (putOf m).length (bts (putOf m)) ∧ Mods Nil w w' := by
  have hB := Blk.new w 32 (MC m L)
  obtain ⟨c0, c1, c2, c3, c4, c5, c6, c7, c8, c9, c10⟩ := hB.mc
  have m1 := (Mods.refl Nil w).alloc (.cells (MC m L) 32)
  have HO := Lib.hid ho
  have HG := Lib.hid hg
  have HT := Lib.hid (hT.mods m1 (fun h => h))
  have HI := Lib.hid (hin.mods m1)
  have HC := Lib.hid (chk_zero.2 hg)
  have HB1 := Lib.hid hB
  have hkb : 1 ≤ m.kind ∧ m.kind ≤ 18 := by simpa [isK] using hg.kind
  clear hB ho hT hin hg m1
  refine (callsIn_wide (n := 9)).1 ?_
  refine callsIn_of_wp_marks Tryd.func15 rfl trivial ?_ rfl
  simp only [Tryd.ntmps15, List.size_toArray, List.length_cons, List.length_nil, Nat.reduceAdd, Nat.reduceSub, Array.replicate_succ, Array.replicate_zero, List.push_toArray, List.append_toArray, List.nil_append, List.cons_append]
  gi_wp2_with (first
    | (refine ⟨trivial, ?_⟩; gi_at_call 17; refine (callsIn_wide.2 (check_any (L := L) HO.out HT.out)).mono ?_; rintro e w2 ⟨rfl, m2⟩; rw [HC.out]; have M2 := Lib.hid (((Mods.refl Nil w).alloc _).trans m2); have HT2 := Lib.hid (HT.out.mods m2 (fun h => h)); have HI2 := Lib.hid (HI.out.mods m2); have HB2 := Lib.hid (HB1.out.mods m2 (fun h => h)); clear m2)
    | (refine ⟨trivial, ?_⟩; gi_at_call 29; refine (callsIn_wide.2 (newWriter_any _)).mono ?_; rintro e w3 ⟨rfl, h3, m3⟩; have H3 := Lib.hid h3; have HT3 := Lib.hid (HT2.out.mods m3 (fun h => h)); have HB3 := Lib.hid (HB2.out.mods m3 (fun h => h)); have HI3 := Lib.hid (HI2.out.mods m3); have M3 := Lib.hid (M2.out.trans m3); have d0 := (HB3.out.alloc (.cells #[.pointer (some ⟨w2.heap.size, 0, none⟩)] 70)).mc.1; have d1 := (HT3.out.mods ((Mods.refl Nil _).alloc (.cells #[.pointer (some ⟨w2.heap.size, 0, none⟩)] 70)) (fun h => h)).at HG.out.kind; clear h3 m3)
    | (refine ⟨trivial, ?_⟩; gi_at_call 30; refine (callsIn_wide.2 (meach_any _ _)).mono ?_; rintro e w' ⟨rfl, rfl⟩))
  have hlt2 : w.heap.size < w2.heap.size := HB2.out.lt
  have hlt3 : w2.heap.size < w3.heap.size := H3.out.blk.lt
  have mA := ((Mods.refl Nil w3).alloc (.cells #[.pointer (some ⟨w2.heap.size, 0, none⟩)] 70)).alloc (.cells #[.int .u16 ((maskOf m.kind : Nat) : Int)] 75)
  have bM := HB3.out.mods mA (fun h => h)
  have bP := (Blk.new w3 70 #[.pointer (some ⟨w2.heap.size, 0, none⟩)]).alloc (.cells #[.int .u16 ((maskOf m.kind : Nat) : Int)] 75)
  have bA := Blk.new (w3.alloc (.cells #[.pointer (some ⟨w2.heap.size, 0, none⟩)] 70)) 75 #[.int .u16 ((maskOf m.kind : Nat) : Int)]
  have hW := H3.out.nil mA
  have hI3 := HI3.out.mods mA
  have m0 := M3.out.trans mA
  have hsz : ((w3.alloc (.cells #[.pointer (some ⟨w2.heap.size, 0, none⟩)] 70)).alloc (.cells #[.int .u16 ((maskOf m.kind : Nat) : Int)] 75)).heap.size = w3.heap.size + 2 := by simp
  simp only [World.size_alloc] at bA
  obtain ⟨W0, hW0⟩ : ∃ W0, (w3.alloc (.cells #[.pointer (some ⟨w2.heap.size, 0, none⟩)] 70)).alloc (.cells #[.int .u16 ((maskOf m.kind : Nat) : Int)] 75) = W0 := ⟨_, rfl⟩
  rw [hW0] at mA bM bP bA hW hI3 m0 hsz ⊢
  clear hW0 c0 c1 c2 c3 c4 c5 c6 c7 c8 c9 c10 d0 d1 mA HT HI HC HB1 M2 HT2 HB2 H3 HT3 HB3 HI3 M3
  have HSZ := Lib.hid hsz
  have HL2 := Lib.hid hlt2
  have HL3 := Lib.hid hlt3
  refine wpIn_rangeFunc_X (n := 9) (gf := 53) (lb := #[.pointer (some ⟨w3.heap.size + 1, 0, none⟩)]) rfl (enters_of Tryd.func53 (by kernel_rfl) rfl) (encs := fun x => #[.int .u16 (bitI x)]) (fun _ => rfl)
    (fun _ => False) (fun k => k = w2.heap.size ∨ W0.heap.size + 2 ≤ k) (fun i h => h.elim) (by omega) (by omega)
    (fun pre W => Blk W w.heap.size 32 (MC m L) ∧ Blk W w3.heap.size 70 #[.pointer (some ⟨w2.heap.size, 0, none⟩)] ∧ In W m L ∧ Mods Nil w W ∧ ∃ v, IsWriter W w2.heap.size w2.heap.size v (putFs m pre) ∧ ∀ k, v.ownBlock = some k → W0.heap.size + 2 ≤ k)
    (fun _ _ => False)
    (fun pre x W => ∃ r, fl m.kind = pre ++ x :: r)
    (fun x a' W => a' = { tmps := #[.agg (MC m L), .pointer (some ⟨w.heap.size, 0, none⟩), .slice none 0 0, .int .i64 0, .int .i64 0, .pointer (some ⟨w3.heap.size, 0, none⟩), .int .u16 (bitI x), .agg (MC m L), .int .i64 0, .int .i64 0, .bool false, undef, .pointer (some ⟨w2.heap.size, 0, none⟩), .pointer (some ⟨w.heap.size, 0, none⟩), .int .i64 m.kind, .pointer (some ⟨0, m.kind.toNat, none⟩), .int .u16 ((maskOf m.kind : Nat) : Int), .func (.func 53) #[] #[.pointer (some ⟨w3.heap.size + 1, 0, none⟩)], .int .u16 (bitI x), undef, undef, undef, undef, undef, undef, undef, undef, undef, undef, undef, undef, undef], defers := [] })
    ?hI ?hIx ?hG ?hAx (fun pre => pre = fl m.kind) ?hseq ?h0 ?hassign ?hbody ?hdone ?hstop
  case hI =>
    rintro pre A1 B1 ⟨h1, h2, h3, h4, v, h5, h6⟩ hm
    refine ⟨h1.mods hm (by simp; omega), h2.mods hm (by simp; omega), ⟨h3.v.mods' hm (fun hne a ha => ?_), h3.b.mods' hm (fun hne a ha => ?_)⟩, h4.nil_trans hm (fun i h => by simp at h; omega), v, h5.mods hm (by simp; omega) (fun k hk h => by have := h6 k hk; simp at h; omega), h6⟩
    · have := HI2.out.v.old hne a ha; simp; omega
    · have := HI2.out.b.old hne a ha; simp; omega
  case hIx => exact fun _ _ _ h _ => h
  case hG => exact fun pre x A1 B1 h _ => h
  case hAx => exact fun x a' A1 B1 h _ => h
  case hseq =>
    intro J Jx W hm hsize hJ hJx hY hj0
    refine meach1_in (W0.heap.size + 1) (w3.heap.size + 1) (maskOf m.kind) (maskOf_lt _) W (bA.mods hm (fun h => h)) _ ?_ J Jx hY hj0
    omega
  case h0 => exact ⟨bM, bP, hI3, m0, _, hW, fun k hk => by simp [Value.ownBlock] at hk⟩
  case hassign =>
    intro pre x W K' hsize hi hg hK
    have HI := Lib.hid hi
    have HG2 := Lib.hid hg
    have HK2 := Lib.hid hK
    clear hi hg hK hsz bM bP bA hW hI3 m0
    dsimp only
    gi_wp2
    exact HK2.out _ _ (Mods.refl _ _) HI.out HG2.out rfl
  case hbody =>
    rintro pre x a' W ⟨h1, h2, h3, h4, v, h5, h6⟩ ⟨r, hr⟩ rfl hsize
    have hxm : x ∈ fl m.kind := by rw [hr]; simp
    have hx10 : x < 10 := (fl_mem.1 hxm).1
    have hle := HG.out.le x hx10
    have hlen : (putFs m pre).length ≤ 1000000 := by
      have h := bodyOf_length HO.out HG.out
      unfold bodyOf at h
      rw [hr, putFs_append, List.length_append] at h
      omega
    obtain ⟨c0, c1, c2, c3, c4, c5, c6, c7, c8, c9, c10⟩ := h1.mc
    have p0 := h2.cell 0
    simp at p0
    have H1 := Lib.hid h1
    have H2 := Lib.hid h2
    have H3 := Lib.hid h3
    have H4 := Lib.hid h4
    have H5 := Lib.hid h5
    have H6 := Lib.hid h6
    have HX := Lib.hid hx10
    have HLE := Lib.hid hle
    have HLEN := Lib.hid hlen
    clear h1 h2 h3 h4 h5 h6 hr hxm hx10 hle hlen hsz bM bP bA hW hI3 m0 hlt2 hlt3
    gi_wp2_with (refine ⟨trivial, ?_⟩; gi_at_call 31; refine CallsIn.mono (F := Fence.wide.inRound _) (callsIn_wide.2 (putField_any HX.out HO.out HLE.out HI2.out (Nat.le_refl _) H3.out HLEN.out H5.out)) ?_; rintro e w5 ⟨rfl, v5, h5', r5⟩; have H5' := Lib.hid h5'; have R5 := Lib.hid r5; clear h5' r5)
    have hsz := HSZ.out
    have hl2 := HL2.out
    have hl3 := HL3.out
    refine ⟨R5.out.mods.mono (fun i _ h => h.elim .inl (fun h => .inr (H6.out i h))), H1.out.mods R5.out.mods (fun h => w_apart H5.out H1.out (by decide) (by decide) h), H2.out.mods R5.out.mods (fun h => w_apart H5.out H2.out (by decide) (by decide) h), H3.out.wrote HI2.out (Nat.le_refl _) H5.out R5.out,
      H4.out.nil_trans R5.out.mods (fun i h => ?_), v5, by rw [putFs_snoc]; exact H5'.out, fun k hk => ?_⟩
    · rcases h with rfl | h
      · omega
      · have := H6.out i h; omega
    · rcases R5.out.moved k hk with h | h
      · exact H6.out k h
      · omega
  case hdone =>
    rintro pre W rfl ⟨h1, h2, h3, h4, v, h5, h6⟩ hK
    have hwk : IntKind.u8.wrap m.kind = ((kb m.kind).toNat : Int) := by rw [kb_kind HG.out.kind, IntKind.wrap_u8']; omega
    have HPUT : Hid (∀ W' A c, Sl W' A c (bts (bodyOf m)) → Calls Tryd.prog 19 #[.agg #[.int .u8 (IntKind.u8.wrap m.kind), .slice A (bodyOf m).length c]] W' fun e w' => ∃ v, e = .returned (.tuple #[v, .int .i64 0]) ∧ w'.ownsRow W'.heap.size 5 1 v (putOf m).length (bts (putOf m)) ∧ Mods Nil W' w') := fun W' A c hs => by
      rw [hwk]
      exact fput_any rfl (by have := bodyOf_length HO.out HG.out; omega) rfl hs
    have hq0 : ∀ W' : World, Mods Nil W W' → W'.cell? ⟨w.heap.size, 0, none⟩ = some (.int .i64 m.kind) := fun W' h => (h1.mods h (fun h => h)).mc.1
    have hq1 : ∀ W' : World, Mods Nil W W' → W'.cell? ⟨w3.heap.size, 0, none⟩ = some (.pointer (some ⟨w2.heap.size, 0, none⟩)) := fun W' h => by have := (h2.mods h (fun h => h)).cell 0; simpa using this
    have hbl : (putFs m (fl m.kind)).length ≤ 140737488355328 := by have := bodyOf_length HO.out HG.out; unfold bodyOf at this; omega
    have HBL := Lib.hid hbl
    have H4 := Lib.hid h4
    have H5 := Lib.hid h5
    have HKD := Lib.hid hK
    have hwl : w.heap.size ≤ W.heap.size := h4.size
    clear hwk h1 h2 h3 h4 h5 h6 hbl hsz bM bP bA hW hI3 m0 hK
    gi_wp2
    refine wpIn_wide.2 (wp_only ?_)
    go_region_held (fun W' => Mods Nil W W') (first | exact (Mods.refl Nil W).drew | assumption) (first
      | (go_at_call 32; refine (out_any rfl HBL.out (H5.out.nil (Mods.refl Nil W).drew)).mono ?_; rintro e w5 ⟨A5, c5, rfl, s5, b5, m5⟩; have hq5 : Mods Nil W w5 := (Mods.refl Nil W).drew.trans m5; have S5 := Lib.hid s5; clear s5 b5 m5)
      | (go_at_call 19; refine (HPUT.out _ _ _ S5.out).mono ?_; rintro e w6 ⟨v6, rfl, o6, m6⟩; have O6 := Lib.hid o6; have hq6 : Mods Nil W w6 := Mods.trans hq5 m6; clear o6 m6))
    all_goals
      dsimp only [onlyN]
      gi_wp2
      have hlt : W0.heap.size < W.heap.size := (Array.getElem?_eq_some_iff.1 HKD.out).1
      have hK' : w6.heap[W0.heap.size]? = some (.deferred (some [])) := (hq6.block _ hlt (fun h => h)).trans HKD.out
      have mF : Mods (fun k => k = W0.heap.size) w6 (w6.putObj W0.heap.size (.deferred none)) := Mods.putObj (S := fun k => k = W0.heap.size) (Mods.refl _ _) (fun _ => rfl) _
      have h5s := hq5.size
      refine ⟨by simp, .inl ⟨_, _, rfl, run_takeDeferred hK', ?_⟩⟩
      refine ⟨_, results_tmp2 rfl _ _ _, v6, rfl, own_mods (own_rebase O6.out (by omega)) mF (fun k hk h => by have := (O6.out.lt k hk).1; omega), (H4.out.trans hq6).nil_trans mF (fun i h => by have := HSZ.out; omega)⟩
  case hstop => exact fun _ _ h _ => h.elim
end Go.Proofs.YtlheaicojmjdpaaDoor
end

section
/- Package msg: numbers are read; a number is set. -/
namespace Go.Proofs.YtlheaicojmjdpaaDoor
set_option maxRecDepth 100000
open Go.RowKit
set_option linter.unusedVariables false

theorem infoU64 : (Tryd.prog.info? 29).map (fun i => (i.zero, i.size, i.bytes)) = some (some (.int .u64 0), 1, 8) := by kernel_rfl
theorem nums_snoc (l : List Nat) (x : Nat) : nums (l ++ [x]) = nums l ++ [.int .u64 (x : Int)] := by simp [nums]

set_option maxHeartbeats 4000000 in
theorem getNumbers_any {w : World} {g : Nat} {k : Option Nat} {e : Int} {xs : List UInt8} {n : Nat} (hn : n ≤ 256) (hlim : xs.length ≤ 140737488355328) (hg : g < w.heap.size) (hk : ∀ q, k = some q → q < w.heap.size) (h : IsReader w g k e xs) :
    Calls Tryd.prog 63 #[.pointer (some ⟨g, 0, none⟩), .int .u64 (n : Int)] w fun e' w' => ∃ v, e' = .returned v ∧ w'.ownsRow w.heap.size 29 1 v n (nums (numsSt e xs n).2.2) ∧ IsReader w' g k (numsSt e xs n).1 (numsSt e xs n).2.1 ∧ Mods (· = g) w w' := by
  obtain ⟨i0, hi, hz0, hz1, hz2⟩ := info_parts infoU64
  have HR := Lib.hid h
  have HK := Lib.hid hk
  have HL := Lib.hid hlim
  have HG := Lib.hid hg
  clear h hk hlim hg
  go_enter Tryd.func63, Tryd.ntmps63
  go_wp2_with fail
  go_loopw [5, 7] (fun l i wr => ∃ j : Nat, j ≤ n ∧ i = .int .u64 (j : Int) ∧ wr.ownsRow w.heap.size 29 1 l j (nums (numsSt e xs j).2.2) ∧ IsReader wr g k (numsSt e xs j).1 (numsSt e xs j).2.1 ∧ Mods (· = g) w wr) (fun _ i _ => n - (intOf i).toNat)
  case atStart => exact ⟨0, by omega, rfl, World.ownsRow_nil _ _ _ _, HR.out, Mods.refl _ _⟩
  case round =>
    obtain ⟨j, hj, rfl, ho, hr, hm⟩ := hrel
    by_cases hlt : j < n
    · have hltI : (j : Int) < (n : Int) := by omega
      have hle := numsSt_le e xs j
      have HS : Hid (numsSt e xs (j + 1) = ((readUint (numsSt e xs j).1 (numsSt e xs j).2.1).1, (readUint (numsSt e xs j).1 (numsSt e xs j).2.1).2.1, (numsSt e xs j).2.2 ++ [(readUint (numsSt e xs j).1 (numsSt e xs j).2.1).2.2])) := rfl
      generalize numsSt e xs j = t at ho hr hle HS
      obtain ⟨e1, ys, l1⟩ := t
      dsimp only at ho hr hle HS
      have HO := Lib.hid ho
      have HR1 := Lib.hid hr
      have HM := Lib.hid hm
      have HLE := Lib.hid hle
      obtain ⟨A0, c0, rfl, -, s0, b0⟩ := own_slice ho
      clear ho hr hm hle s0 b0
      go_wp2_with (first
        | (go_at_call 58; refine (uint_any (by have := HLE.out; have := HL.out; omega) HR1.out).mono ?_; rintro e2 w2 ⟨rfl, r2, m2⟩; have H2 := Lib.hid r2; have O2 := Lib.hid (own_mods HO.out m2 (fun q hq h => by have := (HO.out.lt q hq).1; have := HG.out; omega)); have M2 := Lib.hid (HM.out.trans m2); clear r2 m2)
        | (at_builtin; refine wpList_append_sl _ rfl _ _ 30 rfl w.heap.size 29 i0 (.int .u64 0) 8 Tryd.underlying30 hi hz0 hz1 hz2 rfl (.slice A0 j c0) j (nums l1) rfl (O2.out.alloc _) (some ⟨w2.heap.size, 0, none⟩) 1 1 [.int .u64 (((readUint e1 ys).2.2 : Nat) : Int)] rfl rfl (one_sl _ _ _) (one_oneCell _ _) (by omega) (by unfold maxLen; omega) (Nat.le_trans M2.out.size (by simp)) ?_; intro v3 w3 hown hgrow hblk; rw [← nums_snoc] at hown; have mg : Mods (fun q => (Value.slice A0 j c0).ownBlock = some q) (w2.alloc (.cells #[.int .u64 (((readUint e1 ys).2.2 : Nat) : Int)] 29)) w3 := (Mods.refl _ _).grown hgrow (fun q hq _ => hq); have O3 := Lib.hid hown; have R3 := Lib.hid ((H2.out.mods ((Mods.refl Nil _).alloc _) (fun h => h) (fun _ _ h => h)).mods mg (fun h => by have := (O2.out.lt _ h).1; have := HG.out; omega) (fun q hq h => by have := (O2.out.lt _ h).1; have := HK.out q hq; omega)); have M3 := Lib.hid ((M2.out.alloc _).trans2 mg (fun i hi h => by have := (O2.out.lt _ h).1; omega)); clear hown hgrow hblk mg))
      exact ⟨⟨j + 1, by omega, by go_num, by rw [HS.out]; exact O3.out, by rw [HS.out]; exact R3.out, M3.out⟩, by simp [intOf]; omega⟩
    · obtain rfl : j = n := by omega
      have HO := Lib.hid ho
      have HR1 := Lib.hid hr
      have HM := Lib.hid hm
      clear ho hr hm
      go_wp2_with fail
      go_ret
      exact ⟨_, rfl, HO.out, HR1.out, HM.out⟩
end Go.Proofs.YtlheaicojmjdpaaDoor
end

section
/- Package msg: a number is set; one field is read. -/
namespace Go.Proofs.YtlheaicojmjdpaaDoor
set_option maxRecDepth 100000
open Go.RowKit
set_option linter.unusedVariables false

set_option maxHeartbeats 4000000 in
theorem setNumber_any {w : World} {G : Nat} {m : PM} {L : Loc} {x : Nat} (hB : Blk w G 32 (MC m L)) : ∀ j, j < 8 → x ≤ most j →
    Calls Tryd.prog 64 #[.pointer (some ⟨G, 0, none⟩), .int .u16 (bitI j), .int .u64 (x : Int)] w fun e w' => e = .returned (.tuple #[]) ∧ Blk w' G 32 (MC (setF m j x) L) ∧ Mods (· = G) w w' := by
  have hx : ∀ j v, Calls Tryd.prog 64 #[.pointer (some ⟨G, 0, none⟩), .int .u16 v, .int .u64 (x : Int)] w (fun e w' => e = .returned (.tuple #[]) ∧ Blk w' G 32 (MC (setF m j x) L) ∧ Mods (· = G) w w') → bitI j = v → Calls Tryd.prog 64 #[.pointer (some ⟨G, 0, none⟩), .int .u16 (bitI j), .int .u64 (x : Int)] w fun e w' => e = .returned (.tuple #[]) ∧ Blk w' G 32 (MC (setF m j x) L) ∧ Mods (· = G) w w' := fun j v h e => by rw [e]; exact h
  obtain ⟨c0, c1, c2, c3, c4, c5, c6, c7, c8, c9, c10⟩ := hB.mc
  have f1 := hB.frozen 1; have f2 := hB.frozen 2; have f3 := hB.frozen 3; have f4 := hB.frozen 4; have f5 := hB.frozen 5; have f6 := hB.frozen 6; have f7 := hB.frozen 7; have f8 := hB.frozen 8
  have HB := Lib.hid hB
  clear hB
  have hM : ∀ i v, Mods (· = G) w (w.setCell ⟨G, i, none⟩ v) := fun i v => Mods.setCell (S := (· = G)) (Mods.refl _ _) (fun _ => rfl) v
  have HM := Lib.hid hM
  clear hM
  intro j hj hle
  match j, hj with
  | 0, _ =>
    refine hx _ 1 ?_ rfl
    clear hx hle
    go_enter Tryd.func64, Tryd.ntmps64
    go_wp2
    exact bodyPost_end (results_none rfl _ _ _) rfl ⟨rfl, HB.out.set_ 1 _, HM.out 1 _⟩
  | 1, _ =>
    refine hx _ 2 ?_ rfl
    clear hx hle
    go_enter Tryd.func64, Tryd.ntmps64
    go_wp2
    exact bodyPost_end (results_none rfl _ _ _) rfl ⟨rfl, HB.out.set_ 2 _, HM.out 2 _⟩
  | 2, _ =>
    refine hx _ 4 ?_ rfl
    have h7 : (x : Int) ≤ 7 := by have h : x ≤ 7 := hle; omega
    clear hx hle
    go_enter Tryd.func64, Tryd.ntmps64
    go_wp2
    exact bodyPost_end (results_none rfl _ _ _) rfl ⟨rfl, HB.out.set_ 3 _, HM.out 3 _⟩
  | 3, _ =>
    refine hx _ 8 ?_ rfl
    have h7 : (x : Int) ≤ 3 := by have h : x ≤ 3 := hle; omega
    clear hx hle
    go_enter Tryd.func64, Tryd.ntmps64
    go_wp2
    exact bodyPost_end (results_none rfl _ _ _) rfl ⟨rfl, HB.out.set_ 4 _, HM.out 4 _⟩
  | 4, _ =>
    refine hx _ 16 ?_ rfl
    clear hx hle
    go_enter Tryd.func64, Tryd.ntmps64
    go_wp2
    exact bodyPost_end (results_none rfl _ _ _) rfl ⟨rfl, HB.out.set_ 5 _, HM.out 5 _⟩
  | 5, _ =>
    refine hx _ 32 ?_ rfl
    clear hx hle
    go_enter Tryd.func64, Tryd.ntmps64
    go_wp2
    exact bodyPost_end (results_none rfl _ _ _) rfl ⟨rfl, HB.out.set_ 6 _, HM.out 6 _⟩
  | 6, _ =>
    refine hx _ 64 ?_ rfl
    clear hx hle
    go_enter Tryd.func64, Tryd.ntmps64
    go_wp2
    exact bodyPost_end (results_none rfl _ _ _) rfl ⟨rfl, HB.out.set_ 7 _, HM.out 7 _⟩
  | 7, _ =>
    refine hx _ 128 ?_ rfl
    have h7 : (x : Int) ≤ 255 := by have h : x ≤ 255 := hle; omega
    clear hx hle
    go_enter Tryd.func64, Tryd.ntmps64
    go_wp2
    exact bodyPost_end (results_none rfl _ _ _) rfl ⟨rfl, HB.out.set_ 8 _, HM.out 8 _⟩

/-- A message whose numbers and bytes lie at B or behind. -/
structure In2 (B : Nat) (w : World) (m : PM) (L : Loc) : Prop where
  v : Sl w L.Av L.cv (nums m.vec)
  b : Sl w L.Ab L.cb (bts m.body)
  bv : nums m.vec ≠ [] → ∀ a, L.Av = some a → B ≤ a.block
  bb : bts m.body ≠ [] → ∀ a, L.Ab = some a → B ≤ a.block
theorem In2.mods {S : Nat → Prop} {B : Nat} {w w' : World} {m : PM} {L : Loc} (h : In2 B w m L) (hm : Mods S w w') (hS : ∀ k, S k → k < B) : In2 B w' m L :=
  ⟨h.v.mods' hm (fun hne a ha hs => by have := h.bv hne a ha; have := hS _ hs; omega), h.b.mods' hm (fun hne a ha hs => by have := h.bb hne a ha; have := hS _ hs; omega), h.bv, h.bb⟩
theorem In2.in_ {B : Nat} {w : World} {m : PM} {L : Loc} (h : In2 B w m L) : In w m L := ⟨h.v, h.b⟩
theorem setF_vec (m : PM) : ∀ j, j < 8 → ∀ x, (setF m j x).vec = m.vec ∧ (setF m j x).body = m.body := by
  intro j hj x
  match j, hj with
  | 0, _ => exact ⟨rfl, rfl⟩
  | 1, _ => exact ⟨rfl, rfl⟩
  | 2, _ => exact ⟨rfl, rfl⟩
  | 3, _ => exact ⟨rfl, rfl⟩
  | 4, _ => exact ⟨rfl, rfl⟩
  | 5, _ => exact ⟨rfl, rfl⟩
  | 6, _ => exact ⟨rfl, rfl⟩
  | 7, _ => exact ⟨rfl, rfl⟩
theorem In2.setF {B : Nat} {w : World} {m : PM} {L : Loc} (h : In2 B w m L) {j : Nat} (hj : j < 8) (x : Nat) : In2 B w (setF m j x) L := by
  obtain ⟨h1, h2⟩ := setF_vec m j hj x
  exact ⟨by rw [h1]; exact h.v, by rw [h2]; exact h.b, by rw [h1]; exact h.bv, by rw [h2]; exact h.bb⟩

/-- What a field's reading leaves. -/
def TookF (w : World) (B G g : Nat) (k : Option Nat) (t : Int × PM × List UInt8) (e : Ending) (w' : World) : Prop :=
  ∃ m' L', e = .returned (.int .i64 t.1) ∧ Blk w' G 32 (MC m' L') ∧ Mods (fun i => i = G ∨ i = g) w w' ∧ (t.1 = 0 → m' = t.2.1 ∧ IsReader w' g k 0 t.2.2 ∧ In2 B w' m' L')

theorem takeF_nine (m : PM) (xs : List UInt8) : takeF 9 m xs = ((readBytes 0 xs 32768).1, { m with body := (readBytes 0 xs 32768).2.2 }, (readBytes 0 xs 32768).2.1) := by unfold takeF; rw [if_pos rfl]
theorem takeF_much {j : Nat} (h9 : j ≠ 9) {m : PM} {xs : List UInt8} (h1 : (readUint 0 xs).1 = 0) (h2 : most j < (readUint 0 xs).2.2) : takeF j m xs = (if j = 8 then 13 else 11, m, []) := by
  unfold takeF; rw [if_neg h9, if_neg (by simp [h1]), if_pos h2]
theorem readUint_fail {xs : List UInt8} (h : (readUint 0 xs).1 ≠ 0) : (readUint 0 xs).2.1 = [] ∧ (readUint 0 xs).2.2 = 0 := by
  by_cases hn : numErr xs = 0
  · rw [readUint_ok hn] at h; exact absurd rfl h
  · rw [readUint_bad hn]; exact ⟨rfl, rfl⟩
theorem takeF_num {j : Nat} (hj : j < 8) {m : PM} {xs : List UInt8} (h2 : (readUint 0 xs).2.2 ≤ most j) : (takeF j m xs).1 = (readUint 0 xs).1 ∧ ((readUint 0 xs).1 = 0 → takeF j m xs = (0, setF m j (readUint 0 xs).2.2, (readUint 0 xs).2.1)) := by
  unfold takeF
  rw [if_neg (by omega)]
  by_cases h1 : (readUint 0 xs).1 = 0
  · rw [if_neg (by simp [h1]), if_neg (by omega), if_neg (by omega)]
    exact ⟨h1.symm, fun _ => rfl⟩
  · rw [if_pos h1]
    exact ⟨rfl, fun h => absurd h h1⟩
theorem takeF_vec {m : PM} {xs : List UInt8} (h2 : (readUint 0 xs).2.2 ≤ 256) : (takeF 8 m xs).1 = (numsSt (readUint 0 xs).1 (readUint 0 xs).2.1 (readUint 0 xs).2.2).1 ∧
    ((takeF 8 m xs).1 = 0 → takeF 8 m xs = (0, { m with vec := (numsSt (readUint 0 xs).1 (readUint 0 xs).2.1 (readUint 0 xs).2.2).2.2 }, (numsSt (readUint 0 xs).1 (readUint 0 xs).2.1 (readUint 0 xs).2.2).2.1)) := by
  unfold takeF
  rw [if_neg (by omega)]
  by_cases h1 : (readUint 0 xs).1 = 0
  · rw [if_neg (by simp [h1]), if_neg (by simp only [most]; omega), if_pos rfl, h1]
    exact ⟨rfl, fun h => Prod.ext h rfl⟩
  · rw [if_pos h1]
    exact ⟨(numsSt_err h1 _ _).symm, fun h => absurd h h1⟩
end Go.Proofs.YtlheaicojmjdpaaDoor
end

section
/- Package msg: one field is read. -/
namespace Go.Proofs.YtlheaicojmjdpaaDoor
set_option maxRecDepth 100000
open Go.RowKit
set_option linter.unusedVariables false

theorem reader_ne {w : World} {g G : Nat} {k : Option Nat} {e : Int} {xs : List UInt8} {cs : Array Value} (hr : IsReader w g k e xs) (hB : Blk w G 32 cs) : G ≠ g := by
  obtain ⟨_, A, c, hb, _⟩ := hr
  exact Blk.ne_ hB hb (by decide)
theorem MC_set10 (m : PM) (L : Loc) (A : Option Addr) (b : List UInt8) (n c : Nat) (hn : n = b.length) : (MC m L).setIfInBounds 10 (.slice A n c) = MC { m with body := b } { L with Ab := A, cb := c } := by subst hn; rfl
theorem MC_set9 (m : PM) (L : Loc) (A : Option Addr) (l : List Nat) (n c : Nat) (hn : n = l.length) : (MC m L).setIfInBounds 9 (.slice A n c) = MC { m with vec := l } { L with Av := A, cv := c } := by subst hn; rfl

set_option maxHeartbeats 4000000 in
theorem getField_any {w : World} {B G g : Nat} {k : Option Nat} {m : PM} {L : Loc} {xs : List UInt8} {j : Nat} (hj : j < 10) (hlim : xs.length ≤ 140737488355328) (hB : Blk w G 32 (MC m L)) (hr : IsReader w g k 0 xs) (hin : In2 B w m L)
    (hGB : G < B) (hgB : g < B) (hBw : B ≤ w.heap.size) (hk : ∀ q, k = some q → q < w.heap.size ∧ q ≠ G) :
    Calls Tryd.prog 47 #[.pointer (some ⟨G, 0, none⟩), .pointer (some ⟨g, 0, none⟩), .int .u16 (bitI j)] w (TookF w B G g k (takeF j m xs)) := by
  have hne := reader_ne hr hB
  have HB := Lib.hid hB
  have HR := Lib.hid hr
  have HI := Lib.hid hin
  have HK := Lib.hid hk
  have HL := Lib.hid hlim
  clear hB hr hin hk hlim
  have hset : ∀ (W : World) i v, Mods (· = G) W (W.setCell ⟨G, i, none⟩ v) := fun W i v => Mods.setCell (S := (· = G)) (Mods.refl _ _) (fun _ => rfl) v
  have HSET := Lib.hid hset
  clear hset
  by_cases h9 : j = 9
  · subst h9
    rw [show bitI 9 = 512 from rfl, takeF_nine]
    go_enter Tryd.func47, Tryd.ntmps47
    go_wp2_with (first
      | (go_at_call 61; refine (bytes_any 32768 (by omega) HL.out HR.out).mono ?_; rintro e w2 ⟨A2, c2, rfl, s2, f2, r2, m2⟩; have b2 := HB.out.mods m2 hne; have z2 := b2.mc.2.2.2.2.2.2.2.2.2.2; have z3 := b2.frozen 10; have B2 := Lib.hid b2; have S2 := Lib.hid s2; have F2 := Lib.hid f2; have R2 := Lib.hid r2; have M2 := Lib.hid m2; have R3 := Lib.hid (r2.mods (HSET.out w2 10 (.slice A2 (readBytes 0 xs 32768).2.2.length c2)) (fun h => hne h.symm) (fun q hq => (HK.out q hq).2)); clear b2 s2 f2 r2 m2)
      | (go_at_call 59; refine (err_any R3.out).mono ?_; rintro e w3 ⟨rfl, rfl⟩))
    refine bodyPost_ret (results_tmp rfl _ _ _) rfl ?_
    have mm : Mods (fun i => i = G ∨ i = g) w (w2.setCell ⟨G, 10, none⟩ (.slice A2 (readBytes 0 xs 32768).2.2.length c2)) := (M2.out.mono (fun _ _ h => .inr h)).trans ((HSET.out w2 10 _).mono (fun _ _ h => .inl h))
    have hi := HI.out.mods mm (fun i h => by rcases h with rfl | rfl <;> assumption)
    have bF := B2.out.set_ 10 (.slice A2 (readBytes 0 xs 32768).2.2.length c2)
    rw [MC_set10 _ _ _ _ _ _ rfl] at bF
    have hfr : bts (readBytes 0 xs 32768).2.2 ≠ [] → ∀ a, A2 = some a → B ≤ a.block := fun hx a ha => by
      rcases F2.out with h | h
      · exact absurd h hx
      · have := h a ha; omega
    refine ⟨_, _, rfl, bF, mm, fun h0 => ⟨rfl, ?_, hi.v, S2.out.mods' (HSET.out w2 10 _) (fun hx a ha h => by have := hfr hx a ha; omega), hi.bv, hfr⟩⟩
    have h3 := R3.out
    rw [show (readBytes 0 xs 32768).1 = 0 from h0] at h3
    exact h3
  · have hb9 := bit_ne9 j hj h9
    have hx64 := valOf_lt64 xs 0
    have hyl := readUint_le xs 0
    have huf := readUint_fail (xs := xs)
    by_cases hm : (readUint 0 xs).1 = 0 ∧ most j < (readUint 0 xs).2.2
    · obtain ⟨E, hE⟩ : ∃ E, (if j = 8 then (13 : Int) else 11) = E := ⟨_, rfl⟩
      have hE0 : E ≠ 0 := by rw [← hE]; split <;> simp
      have HTM : Hid (∀ W, Calls Tryd.prog 62 #[.int .u16 (bitI j)] W fun e w' => e = .returned (.int .i64 E) ∧ W = w') := fun W => by rw [← hE]; exact tooMuch_any W j hj
      rw [takeF_much h9 hm.1 hm.2, hE]
      clear hE
      have hmI : ((most j : Nat) : Int) < (((readUint 0 xs).2.2 : Nat) : Int) := by omega
      have HJ := Lib.hid hj
      clear hm huf
      go_enter Tryd.func47, Tryd.ntmps47
      go_wp2_with (first
        | (go_at_call 58; refine (uint_any HL.out HR.out).mono ?_; rintro e w2 ⟨rfl, r2, m2⟩; have B2 := Lib.hid (HB.out.mods m2 hne); have M2 := Lib.hid m2; clear r2 m2)
        | (go_at_call 35; refine (most_any _ j HJ.out).mono ?_; rintro e w3 ⟨rfl, rfl⟩)
        | (go_at_call 62; refine (HTM.out _).mono ?_; rintro e w3 ⟨rfl, rfl⟩))
      refine bodyPost_ret (results_tmp rfl _ _ _) rfl ?_
      exact ⟨m, L, rfl, B2.out, M2.out.mono (fun _ _ h => .inr h), fun h0 => absurd h0 hE0⟩
    · have hle : (readUint 0 xs).2.2 ≤ most j := by
        by_cases h1 : (readUint 0 xs).1 = 0
        · omega
        · rw [(huf h1).2]; omega
      have hleI : (((readUint 0 xs).2.2 : Nat) : Int) ≤ ((most j : Nat) : Int) := by omega
      have HJ := Lib.hid hj
      have HLE := Lib.hid hle
      by_cases h8 : j = 8
      · subst h8
        have h256 : (readUint 0 xs).2.2 ≤ 256 := hle
        obtain ⟨t1, t2⟩ := takeF_vec (m := m) h256
        have T1 := Lib.hid t1
        have T2 := Lib.hid t2
        have H256 := Lib.hid h256
        have HYL := Lib.hid hyl
        clear hm huf t1 t2 h256 hle hyl hx64 h9 hb9
        obtain ⟨e1, he1⟩ : ∃ e1, (readUint 0 xs).1 = e1 := ⟨_, rfl⟩
        obtain ⟨ys, hys⟩ : ∃ ys, (readUint 0 xs).2.1 = ys := ⟨_, rfl⟩
        obtain ⟨x, hxx⟩ : ∃ x, (readUint 0 xs).2.2 = x := ⟨_, rfl⟩
        have HU := Lib.hid (show readUint 0 xs = (e1, ys, x) by rw [← he1, ← hys, ← hxx])
        rw [hxx] at H256 hleI
        rw [hys] at HYL
        rw [he1, hys, hxx] at T1 T2
        clear he1 hys hxx HLE
        have hx : ((x : Nat) : Int) ≤ 256 := hleI
        clear hleI
        have hLm : Hid (most 8 = 256) := rfl
        have e8 : bitI 8 = 256 := rfl
        rw [e8]
        have HMO : Hid (∀ W, Calls Tryd.prog 35 #[.int .u16 256] W fun e w' => e = .returned (.int .u64 256) ∧ W = w') := fun W => most_any W 8 (by omega)
        go_enter Tryd.func47, Tryd.ntmps47
        go_wp2_with (first
          | (go_at_call 58; refine (uint_any HL.out HR.out).mono ?_; rw [HU.out]; dsimp only; rintro e w2 ⟨rfl, r2, m2⟩; have B2 := Lib.hid (HB.out.mods m2 hne); have R2 := Lib.hid r2; have M2 := Lib.hid m2; clear r2 m2)
          | (go_at_call 35; refine (HMO.out _).mono ?_; rintro e w3 ⟨rfl, rfl⟩)
          | (go_at_call 63; refine (getNumbers_any H256.out (by have := HYL.out; have := HL.out; omega) (by have := M2.out.size; omega) (fun q hq => by have := (HK.out q hq).1; have := M2.out.size; omega) R2.out).mono ?_; rintro e w4 ⟨v4, rfl, o4, r4, m4⟩; obtain ⟨A4, c4, rfl, n4, s4, a4⟩ := own_slice o4; clear n4; have b4 := B2.out.mods m4 hne; have z4 := b4.mc.2.2.2.2.2.2.2.2.2.1; have f4 := b4.frozen 9; have B4 := Lib.hid b4; have S4 := Lib.hid s4; have A4' := Lib.hid a4; have M4 := Lib.hid (M2.out.trans m4); have R4 := Lib.hid (r4.mods (HSET.out w4 9 (.slice A4 x c4)) (fun h => hne h.symm) (fun q hq => (HK.out q hq).2)); clear o4 r4 m4 b4 s4 a4)
          | (go_at_call 59; refine (err_any R4.out).mono ?_; rintro e w5 ⟨rfl, rfl⟩))
        refine bodyPost_ret (results_tmp rfl _ _ _) rfl ?_
        have mm : Mods (fun i => i = G ∨ i = g) w (w4.setCell ⟨G, 9, none⟩ (.slice A4 x c4)) := (M4.out.mono (fun _ _ h => .inr h)).trans ((HSET.out w4 9 _).mono (fun _ _ h => .inl h))
        have bF := B4.out.set_ 9 (.slice A4 x c4)
        rw [MC_set9 m L A4 (numsSt e1 ys x).2.2 x c4 (numsSt_length _ _ _).symm] at bF
        refine ⟨_, _, by rw [T1.out]; rfl, bF, mm, fun h0 => ?_⟩
        have hi := HI.out.mods mm (fun i h => by rcases h with rfl | rfl <;> assumption)
        have hge : ∀ a, A4 = some a → B ≤ a.block := fun a ha => by have := (A4'.out a ha).2; have := M2.out.size; omega
        rw [T2.out h0]
        have r4 := R4.out
        rw [show (numsSt e1 ys x).1 = 0 from T1.out.symm.trans h0] at r4
        exact ⟨rfl, r4, S4.out.mods (HSET.out w4 9 _) (fun a ha h => by have := hge a ha; omega), hi.b, fun _ => hge, hi.bb⟩
      · have hj8 : j < 8 := by omega
        have hb8 := bit_ne8 j hj h8
        obtain ⟨t1, t2⟩ := takeF_num hj8 (m := m) hle
        have T1 := Lib.hid t1
        have T2 := Lib.hid t2
        have HJ8 := Lib.hid hj8
        clear hm huf t1 t2 hle hyl hx64 h9 h8 hj8 hj
        obtain ⟨e1, he1⟩ : ∃ e1, (readUint 0 xs).1 = e1 := ⟨_, rfl⟩
        obtain ⟨ys, hys⟩ : ∃ ys, (readUint 0 xs).2.1 = ys := ⟨_, rfl⟩
        obtain ⟨x, hxx⟩ : ∃ x, (readUint 0 xs).2.2 = x := ⟨_, rfl⟩
        have HU := Lib.hid (show readUint 0 xs = (e1, ys, x) by rw [← he1, ← hys, ← hxx])
        rw [hxx] at HLE hleI
        rw [he1, hys, hxx] at T2
        rw [he1] at T1
        clear he1 hys hxx
        go_enter Tryd.func47, Tryd.ntmps47
        go_wp2_with (first
          | (go_at_call 58; refine (uint_any HL.out HR.out).mono ?_; rw [HU.out]; dsimp only; rintro e w2 ⟨rfl, r2, m2⟩; have B2 := Lib.hid (HB.out.mods m2 hne); have R2 := Lib.hid r2; have M2 := Lib.hid m2; clear r2 m2)
          | (go_at_call 35; refine (most_any _ j HJ.out).mono ?_; rintro e w3 ⟨rfl, rfl⟩)
          | (go_at_call 64; refine (setNumber_any B2.out j HJ8.out HLE.out).mono ?_; rintro e w4 ⟨rfl, b4, m4⟩; have B4 := Lib.hid b4; have R4 := Lib.hid (R2.out.mods m4 (fun h => hne h.symm) (fun q hq => (HK.out q hq).2)); have M4 := Lib.hid ((M2.out.mono (T := fun i => i = G ∨ i = g) (fun _ _ h => .inr h)).trans (m4.mono (fun _ _ h => .inl h))); clear b4 m4)
          | (go_at_call 59; refine (err_any R4.out).mono ?_; rintro e w5 ⟨rfl, rfl⟩))
        refine bodyPost_ret (results_tmp rfl _ _ _) rfl ?_
        refine ⟨_, L, by rw [T1.out]; rfl, B4.out, M4.out, fun h0 => ?_⟩
        have he : e1 = 0 := T1.out.symm.trans h0
        rw [T2.out he]
        have r4 := R4.out
        rw [he] at r4
        exact ⟨rfl, r4, (HI.out.mods M4.out (fun i h => by rcases h with rfl | rfl <;> assumption)).setF HJ8.out x⟩
end Go.Proofs.YtlheaicojmjdpaaDoor
end
