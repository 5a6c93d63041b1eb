/- Texts laid as one: Msg10, Msg11. -/
import Derived.Test.YtlheaicojmjdpaaDoorMsgC
import Derived.Test.YtlheaicojmjdpaaDoorMemX
import Derived.Test.YtlheaicojmjdpaaDoorFrameM

section
/- Package msg: the message of fields. -/
namespace Go.Proofs.YtlheaicojmjdpaaDoor
set_option maxRecDepth 100000
open Go.RowKit Go.Shelf
set_option linter.unusedVariables false

attribute [local go_sem] Oper.semAt_some

theorem readBytes_le (xs : List UInt8) : (readBytes 0 xs 32768).2.1.length ≤ xs.length := by
  have h := readUint_le xs 0
  unfold readBytes
  split
  · exact h
  · split
    · simp
    · unfold readRaw
      split
      · exact h
      · split
        · simp
        · split
          · simp
          · simp; omega
theorem takeF_le (j : Nat) (m : PM) (xs : List UInt8) : (takeF j m xs).2.2.length ≤ xs.length := by
  have h := readUint_le xs 0
  unfold takeF
  split
  · exact readBytes_le xs
  · split
    · simp
    · split
      · simp
      · split
        · have := numsSt_le 0 (readUint 0 xs).2.1 (readUint 0 xs).2.2
          dsimp only
          omega
        · exact h
theorem getFs_bad {j : Nat} {l : List Nat} {m : PM} {xs : List UInt8} (h : (takeF j m xs).1 ≠ 0) : (getFs (j :: l) m xs).1 = (takeF j m xs).1 := by simp only [getFs]; rw [if_pos h]
theorem getFs_good {j : Nat} {l : List Nat} {m : PM} {xs : List UInt8} (h : (takeF j m xs).1 = 0) : getFs (j :: l) m xs = getFs l (takeF j m xs).2.1 (takeF j m xs).2.2 := by simp only [getFs]; rw [if_neg (by simp [h])]

theorem MC_one (m : PM) (L : Loc) : (MC m L).all (·.oneCell') = true := by simp [MC, Value.oneCell']
theorem MC_cells (m : PM) (L : Loc) : (Value.agg (MC m L)).cells = MC m L := by simp [MC, Value.cells]
theorem MC_info : (Tryd.prog.info? 32).map (·.size) = some 11 := by kernel_rfl

/-- What a call that reads a message leaves. -/
def GotM (w : World) (m : PM) (E : Int) (e : Ending) (w' : World) : Prop :=
  ∃ L, e = .returned (.tuple #[.agg (MC m L), .int .i64 E]) ∧ In2 w.heap.size w' m L ∧ Mods Nil w w'
theorem In2.base {B B' : Nat} {w : World} {m : PM} {L : Loc} (h : In2 B w m L) (hb : B' ≤ B) : In2 B' w m L :=
  ⟨h.v, h.b, fun hx a ha => Nat.le_trans hb (h.bv hx a ha), fun hx a ha => Nat.le_trans hb (h.bb hx a ha)⟩
theorem In2.none_ (B : Nat) (w : World) : In2 B w {} {} := ⟨Sl.none_ _, Sl.none_ _, fun h => absurd rfl h, fun h => absurd rfl h⟩

set_option maxHeartbeats 8000000 in
theorem getFields_any {w : World} {A : Option Addr} {c n : Nat} {xs : List UInt8} {K : Int} (hK : isK K = true) (hT : Tab w) (hn : xs.length = n) (hs : Sl w A c (bts xs)) (hlim : n ≤ 140737488355328) :
    Calls Tryd.prog 24 #[.int .i64 K, .slice A n c] w (GotM w (fM (getFs (fl K) { kind := K } xs)) (fE (getFs (fl K) { kind := K } xs))) := by
  have HS := Lib.hid hs
  have HN := Lib.hid hn
  have HKK := Lib.hid hK
  have HTT := Lib.hid hT
  have hkb : 1 ≤ K ∧ K ≤ 18 := by simpa [isK] using hK
  clear hs hn hK hT
  obtain ⟨w1, hw1⟩ : ∃ w1, ((w.alloc (.cells (MC {} {}) 32)).alloc (.cells #[.int .i64 0] 24)).alloc (.cells (MC { kind := K } {}) 32) = w1 := ⟨_, rfl⟩
  refine (callsIn_wide (n := 9)).1 ?_
  refine callsIn_of_wp_marks Tryd.func24 rfl trivial ?_ rfl
  simp only [Tryd.ntmps24, List.size_toArray, List.length_cons, List.length_nil, Nat.reduceAdd, Nat.reduceSub, Array.replicate_succ, Array.replicate_zero, List.push_toArray, List.append_toArray, List.nil_append, List.cons_append]
  have bR : Blk w1 w.heap.size 32 (MC {} {}) := by rw [← hw1]; exact ((Blk.new w _ _).alloc _).alloc _
  have bE : Blk w1 (w.heap.size + 1) 24 #[.int .i64 0] := by
    rw [← hw1]
    have h := (Blk.new (w.alloc (.cells (MC {} {}) 32)) 24 #[.int .i64 0]).alloc (.cells (MC { kind := K } {}) 32)
    simpa only [World.size_alloc] using h
  have bG : Blk w1 (w.heap.size + 1 + 1) 32 (MC { kind := K } {}) := by
    rw [← hw1]
    have h := Blk.new ((w.alloc (.cells (MC {} {}) 32)).alloc (.cells #[.int .i64 0] 24)) 32 (MC { kind := K } {})
    simpa only [World.size_alloc] using h
  have m1 : Mods Nil w w1 := by rw [← hw1]; exact (((Mods.refl _ _).alloc _).alloc _).alloc _
  have hs1 : w1.heap.size = w.heap.size + 3 := by rw [← hw1]; simp
  have HW1 := Lib.hid hw1
  have HBR := Lib.hid bR
  have HBE := Lib.hid bE
  have HBG := Lib.hid bG
  have M1 := Lib.hid m1
  have HS1 := Lib.hid hs1
  clear hw1 bR bE bG m1 hs1
  gi_wp2_with (first
    | (refine ⟨trivial, ?_⟩; gi_at_call 46; refine (callsIn_wide.2 (newReader_any HN.out (by have := HN.out; omega) (((HS.out.alloc _).alloc _).alloc _))).mono ?_; rintro e w2 ⟨g, k, rfl, r2, hg, hk, m2⟩; have m2' : Mods Nil w1 w2 := (by rw [← HW1.out]; exact m2); have hg' : w1.heap.size ≤ g := (by rw [← HW1.out]; exact hg); have hk' : ∀ q, k = some q → w1.heap.size ≤ q ∧ q < w2.heap.size := (by rw [← HW1.out]; exact hk); have R2 := Lib.hid r2; have M2 := Lib.hid m2'; have HG := Lib.hid hg'; have HK := Lib.hid hk'; have d1 := (HTT.out.mods ((M1.out.trans m2').alloc (.cells #[.pointer (some ⟨g, 0, none⟩)] 93)) (fun h => h)).at HKK.out; clear r2 m2 hg hk m2' hg' hk')
    | (refine ⟨trivial, ?_⟩; gi_at_call 30; refine (callsIn_wide.2 (meach_any _ _)).mono ?_; rintro e w' ⟨rfl, rfl⟩))
  have hgl : g < w2.heap.size := R2.out.lt
  have hs12 := M2.out.size
  have mA := ((Mods.refl Nil w2).alloc (.cells #[.pointer (some ⟨g, 0, none⟩)] 93)).alloc (.cells #[.int .u16 ((maskOf K : Nat) : Int)] 75)
  have bR := HBR.out.mods (M2.out.trans mA) (fun h => h)
  have bE := HBE.out.mods (M2.out.trans mA) (fun h => h)
  have bG := HBG.out.mods (M2.out.trans mA) (fun h => h)
  have bP := (Blk.new w2 93 #[.pointer (some ⟨g, 0, none⟩)]).alloc (.cells #[.int .u16 ((maskOf K : Nat) : Int)] 75)
  have bA := Blk.new (w2.alloc (.cells #[.pointer (some ⟨g, 0, none⟩)] 93)) 75 #[.int .u16 ((maskOf K : Nat) : Int)]
  have r0 := R2.out.mods mA (fun h => h) (fun _ _ h => h)
  have m0 := (M1.out.trans M2.out).trans mA
  have hsz : ((w2.alloc (.cells #[.pointer (some ⟨g, 0, none⟩)] 93)).alloc (.cells #[.int .u16 ((maskOf K : Nat) : Int)] 75)).heap.size = w2.heap.size + 2 := by simp
  simp only [World.size_alloc] at bA
  obtain ⟨W0, hW0⟩ : ∃ W0, (w2.alloc (.cells #[.pointer (some ⟨g, 0, none⟩)] 93)).alloc (.cells #[.int .u16 ((maskOf K : Nat) : Int)] 75) = W0 := ⟨_, rfl⟩
  rw [hW0] at mA bR bE bG bP bA r0 m0 hsz ⊢
  clear hW0 d1 mA HTT HBR HBE HBG R2
  have hs1 := HS1.out
  have hg1 := HG.out
  have HSZ := Lib.hid hsz
  have HHG := Lib.hid hgl
  have HS12 := Lib.hid hs12
  refine wpIn_rangeFunc_X (n := 9) (gf := 53) (lb := #[.pointer (some ⟨w2.heap.size + 1, 0, none⟩)]) rfl (enters_of Tryd.func53 (by kernel_rfl) rfl) (encs := fun x => #[.int .u16 (bitI x)]) (fun _ => rfl)
    (fun _ => False) (fun i => i = w.heap.size ∨ i = w.heap.size + 1 ∨ i = w.heap.size + 1 + 1 ∨ i = g ∨ W0.heap.size + 2 ≤ i) (fun i h => h.elim) (by omega) (by omega)
    (fun pre W => ∃ m L ys, Blk W w.heap.size 32 (MC {} {}) ∧ Blk W (w.heap.size + 1) 24 #[.int .i64 0] ∧ Blk W (w.heap.size + 1 + 1) 32 (MC m L) ∧ Blk W w2.heap.size 93 #[.pointer (some ⟨g, 0, none⟩)] ∧
      IsReader W g k 0 ys ∧ In2 (W0.heap.size + 2) W m L ∧ (∀ l, fl K = pre ++ l → getFs (fl K) { kind := K } xs = getFs l m ys) ∧ ys.length ≤ 140737488355328 ∧ Mods Nil w W)
    (fun pre W => ∃ E, E ≠ 0 ∧ (getFs (fl K) { kind := K } xs).1 = E ∧ Blk W w.heap.size 32 (MC {} {}) ∧ Blk W (w.heap.size + 1) 24 #[.int .i64 E] ∧ Mods Nil w W)
    (fun pre x W => ∃ r, fl K = pre ++ x :: r)
    (fun x a' W => a' = { tmps := #[.int .i64 K, .slice A n c, undef, undef, .pointer (some ⟨w.heap.size, 0, none⟩), .pointer (some ⟨w.heap.size + 1, 0, none⟩), .pointer (some ⟨w.heap.size + 1 + 1, 0, none⟩), .pointer (some ⟨w2.heap.size, 0, none⟩), .int .u16 (bitI x), undef, undef, .int .i64 K, .agg (MC { kind := K } {}), .slice A n c, .pointer (some ⟨g, 0, none⟩), .int .i64 K, .pointer (some ⟨0, K.toNat, none⟩), .int .u16 ((maskOf K : Nat) : Int), .func (.func 53) #[] #[.pointer (some ⟨w2.heap.size + 1, 0, none⟩)], .int .u16 (bitI x), undef, undef, undef, undef, undef, undef, undef, undef, undef, undef, undef, undef, undef, undef], defers := [] })
    ?hI ?hIx ?hG ?hAx (fun pre => pre = fl K) ?hseq ?h0 ?hassign ?hbody ?hdone ?hstop
  case hI =>
    rintro pre A1 B1 ⟨m, L, ys, h1, h2, h3, h4, h5, h6, h7, h8, h9⟩ hm
    exact ⟨m, L, ys, h1.mods hm (by simp; omega), h2.mods hm (by simp; omega), h3.mods hm (by simp; omega), h4.mods hm (by simp; omega), h5.mods hm (by simp; omega) (fun q hq h => by have := (HK.out q hq).2; simp at h; omega), h6.mods hm (fun i h => by simp at h; omega), h7, h8, h9.nil_trans hm (fun i h => by simp at h; omega)⟩
  case hIx =>
    rintro pre A1 B1 ⟨E, h1, h2, h3, h4, h5⟩ hm
    exact ⟨E, h1, h2, h3.mods hm (by simp; omega), h4.mods hm (by simp; omega), h5.nil_trans hm (fun i h => by simp at h; omega)⟩
  case hG => exact fun pre x A1 B1 h _ => h
  case hAx => exact fun x a' A1 B1 h _ => h
  case hseq =>
    intro J Jx W hm hsize hJ hJx hY hj0
    refine meach1_in (W0.heap.size + 1) (w2.heap.size + 1) (maskOf K) (maskOf_lt _) W (bA.mods hm (fun h => h)) _ ?_ J Jx hY hj0
    omega
  case h0 => exact ⟨_, _, xs, bR, bE, bG, bP, r0, ⟨Sl.none_ _, Sl.none_ _, fun h => absurd rfl h, fun h => absurd rfl h⟩, fun l hl => by rw [hl, List.nil_append], by have := HN.out; omega, m0⟩
  case hassign =>
    intro pre x W K' hsize hi hg hK
    have HI := Lib.hid hi
    have HG2 := Lib.hid hg
    have HK2 := Lib.hid hK
    clear hi hg hK hsz bR bE bG bP bA r0 m0
    dsimp only
    gi_wp2
    exact HK2.out _ _ (Mods.refl _ _) HI.out HG2.out rfl
  case hbody =>
    rintro pre x a' W ⟨m, L, ys, h1, h2, h3, h4, h5, h6, h7, h8, h9⟩ ⟨r, hr⟩ rfl hsize
    have hx10 : x < 10 := (fl_mem.1 (by rw [hr]; simp)).1
    have hstep := h7 (x :: r) hr
    have p0 := h4.cell 0
    simp at p0
    have H1 := Lib.hid h1
    have H2 := Lib.hid h2
    have H3 := Lib.hid h3
    have H4 := Lib.hid h4
    have H5 := Lib.hid h5
    have H6 := Lib.hid h6
    have H8 := Lib.hid h8
    have H9 := Lib.hid h9
    have HX := Lib.hid hx10
    have HR := Lib.hid hr
    have hkk : Hid (∀ q, k = some q → q < W.heap.size ∧ q ≠ w.heap.size + 1 + 1) := fun q hq => by have := HK.out q hq; omega
    have tl := takeF_le x m ys
    clear h1 h2 h3 h4 h5 h6 h7 h8 h9 hx10 hr hsz bR bE bG bP bA r0 m0
    by_cases hE : (takeF x m ys).1 = 0
    · have hgo := hstep.trans (getFs_good hE)
      have HE := Lib.hid hE
      have HGO := Lib.hid hgo
      have TL := Lib.hid tl
      clear hE hgo hstep tl
      gi_wp2_with (refine ⟨trivial, ?_⟩; gi_at_call 47; go_loud (refine CallsIn.mono (F := Fence.wide.inRound _) (callsIn_wide.2 (getField_any HX.out H8.out H3.out H5.out H6.out (by have := HSZ.out; omega) (by have := HSZ.out; omega) hsize hkk.out)) ?_; rintro e w5 ⟨m', L', rfl, b5, m5, t5⟩; rw [HE.out]; have B5 := Lib.hid b5; have M5 := Lib.hid m5; have T5 := Lib.hid (t5 HE.out); clear b5 m5 t5))
      have hsz := HSZ.out
      have nA : w.heap.size ≠ w.heap.size + 1 + 1 ∧ w.heap.size ≠ g := by omega
      have nE : w.heap.size + 1 ≠ w.heap.size + 1 + 1 ∧ w.heap.size + 1 ≠ g := by omega
      have nP : w2.heap.size ≠ w.heap.size + 1 + 1 ∧ w2.heap.size ≠ g := by omega
      obtain ⟨rfl, r6, i6⟩ := T5.out
      refine ⟨M5.out.mono (fun i _ h => h.elim (fun h => .inr (.inr (.inl h))) (fun h => .inr (.inr (.inr (.inl h))))), _, _, _, H1.out.mods M5.out (fun h => h.elim nA.1 nA.2), H2.out.mods M5.out (fun h => h.elim nE.1 nE.2), B5.out, H4.out.mods M5.out (fun h => h.elim nP.1 nP.2), r6, i6, fun l hl => ?_, by have := TL.out; have := H8.out; omega, H9.out.nil_trans M5.out (fun i h => by rcases h with rfl | rfl <;> omega)⟩
      rw [HR.out] at hl
      have hl2 : r = l := by simpa using hl
      rw [HGO.out, hl2]
    · have HE := Lib.hid hE
      have HB := Lib.hid (hstep ▸ getFs_bad hE)
      obtain ⟨E, hEE⟩ : ∃ E, (takeF x m ys).1 = E := ⟨_, rfl⟩
      have HEE := Lib.hid hEE
      rw [hEE] at hE
      have hb2 : (E != 0) = true := by simp [hE]
      have H0 := Lib.hid hE
      clear hE hEE hstep tl
      gi_wp2_with (first
        | (refine ⟨trivial, ?_⟩; gi_at_call 47; go_loud (refine CallsIn.mono (F := Fence.wide.inRound _) (callsIn_wide.2 (getField_any HX.out H8.out H3.out H5.out H6.out (by have := HSZ.out; omega) (by have := HSZ.out; omega) hsize hkk.out)) ?_; rintro e w5 ⟨m', L', rfl, b5, m5, t5⟩; rw [HEE.out]; have M5 := Lib.hid m5; have BR5 := Lib.hid (H1.out.mods m5 (fun h => by have := HSZ.out; omega)); have be5 := H2.out.mods m5 (fun h => by have := HSZ.out; omega); have BE5 := Lib.hid be5; clear b5 m5 t5 be5))
        | (refine wpListIn_store_row rfl _ _ _ rfl rfl w.heap.size rfl _ (MC {} {}) (MC {} {}) rfl BR5.out rfl (MC_one _ _) MC_info (MC_cells _ _) ?_; have be6 := BE5.out.setRow_far (k := w.heap.size) (by omega) (MC {} {}); have ze6 := be6.cell 0; have fe6 := be6.frozen 0; simp at ze6; have BE6 := Lib.hid be6; clear be6))
      have hsz := HSZ.out
      refine ⟨Mods.setCell (Mods.setRow (M5.out.mono (fun i _ h => h.elim (fun h => .inr (.inr (.inl h))) (fun h => .inr (.inr (.inr (.inl h)))))) (fun _ => .inl rfl) _) (fun _ => .inr (.inl rfl)) _, E, H0.out, HB.out.trans HEE.out, (BR5.out.setRow (MC {} {})).far (p := ⟨w.heap.size + 1, 0, none⟩) (by simp) _, by simpa using BE6.out.set_ 0 (.int .i64 E), ?_⟩
      exact ((H9.out.nil_trans M5.out (fun i h => by rcases h with rfl | rfl <;> omega)).nil_trans (Mods.setRow (S := fun i => i = w.heap.size) (Mods.refl _ _) (fun _ => rfl) _) (fun i h => by omega)).setNew (by simp) _
  case hdone =>
    rintro pre W rfl ⟨m, L, ys, h1, h2, h3, h4, h5, h6, h7, h8, h9⟩ hK
    have hfin := h7 [] (by simp)
    have hend : ∀ W' : World, IsReader W' g k 0 ys → Calls Tryd.prog 48 #[.pointer (some ⟨g, 0, none⟩)] W' fun e w' => e = .returned (.int .i64 (if ys = [] then 0 else 12)) ∧ W' = w' := fun W' h => by
      have := end_any h
      rwa [if_pos rfl] at this
    have p0 := h4.cell 0
    simp at p0
    have hlt : W0.heap.size < W.heap.size := (Array.getElem?_eq_some_iff.1 hK).1
    by_cases hy : ys = []
    · have hE : fE (getFs (fl K) { kind := K } xs) = 0 := by rw [hfin]; simp [getFs, fE, hy]
      have hM : fM (getFs (fl K) { kind := K } xs) = m := by unfold fM; rw [hE, if_pos rfl, hfin]; rfl
      rw [if_pos hy] at hend
      have HE := Lib.hid hE
      have HM := Lib.hid hM
      obtain ⟨c0, c1, c2, c3, c4, c5, c6, c7, c8, c9, c10⟩ := h3.mc
      have H1 := Lib.hid h1
      have H2 := Lib.hid h2
      have H3 := Lib.hid h3
      have H5 := Lib.hid h5
      have H6 := Lib.hid h6
      have H9 := Lib.hid h9
      have HKD := Lib.hid hK
      have HEND := Lib.hid hend
      clear h1 h2 h3 h4 h5 h6 h7 h8 h9 hE hM hend hfin hK hsz bR bE bG bP bA r0 m0
      gi_wp2_with (first
        | (refine ⟨trivial, ?_⟩; gi_at_call 48; refine (callsIn_wide.2 (HEND.out _ H5.out)).mono ?_; rintro e w5 ⟨rfl, rfl⟩)
        | (refine wpListIn_store_row rfl _ _ _ rfl rfl w.heap.size rfl _ (MC {} {}) (MC m L) rfl H1.out rfl (MC_one _ _) MC_info (MC_cells _ _) ?_; have be6 := H2.out.setRow_far (k := w.heap.size) (by omega) (MC m L); have ze6 := be6.cell 0; have fe6 := be6.frozen 0; simp at ze6; have BE6 := Lib.hid be6; clear be6))
      have bR2 := (H1.out.setRow (MC m L)).far (p := ⟨w.heap.size + 1, 0, none⟩) (by simp) (.int .i64 0)
      have bE2 := BE6.out.set_ 0 (.int .i64 0)
      obtain ⟨W2, hW2⟩ : ∃ W2, (W.setRow w.heap.size (MC m L)).setCell ⟨w.heap.size + 1, 0, none⟩ (.int .i64 0) = W2 := ⟨_, rfl⟩
      have m2 : Mods (fun i => i = w.heap.size ∨ i = w.heap.size + 1) W W2 := by rw [← hW2]; exact Mods.setCell (S := fun i => i = w.heap.size ∨ i = w.heap.size + 1) (Mods.setRow (Mods.refl _ _) (fun _ => .inl rfl) _) (fun _ => .inr rfl) _
      rw [hW2] at bR2 bE2 ⊢
      clear hW2
      have hsz := HSZ.out
      have hK' : W2.heap[W0.heap.size]? = some (.deferred (some [])) := (m2.block _ hlt (by omega)).trans HKD.out
      have mF : Mods (fun i => i = W0.heap.size) W2 (W2.putObj W0.heap.size (.deferred none)) := Mods.putObj (S := fun i => i = W0.heap.size) (Mods.refl _ _) (fun _ => rfl) _
      have bR3 := bR2.mods mF (by omega)
      have bE3 := bE2.mods mF (by omega)
      obtain ⟨y0, y1, y2, y3, y4, y5, y6, y7, y8, y9, y10⟩ := bR3.mc
      have zE3 := bE3.cell 0
      simp at zE3
      refine ⟨by simp, .inl ⟨_, _, rfl, run_takeDeferred hK', ?_⟩⟩
      refine ⟨.tuple #[.agg (MC m L), .int .i64 0], by simp [results, Tryd.results24, go_sem, y0, y1, y2, y3, y4, y5, y6, y7, y8, y9, y10, zE3, MC], ?_⟩
      rw [HE.out, HM.out]
      refine ⟨L, rfl, ((H6.out.mods m2 (fun i h => by omega)).mods mF (fun i h => by omega)).base (by omega), (H9.out.nil_trans m2 (fun i h => by omega)).nil_trans mF (fun i h => by omega)⟩
    · have hE : fE (getFs (fl K) { kind := K } xs) = 12 := by rw [hfin]; simp [getFs, fE, hy]
      have hM : fM (getFs (fl K) { kind := K } xs) = {} := by unfold fM; rw [hE, if_neg (by simp)]
      rw [if_neg hy] at hend
      have HE := Lib.hid hE
      have HM := Lib.hid hM
      have H1 := Lib.hid h1
      have H2 := Lib.hid h2
      have H5 := Lib.hid h5
      have H9 := Lib.hid h9
      have HKD := Lib.hid hK
      have HEND := Lib.hid hend
      clear h1 h2 h3 h4 h5 h6 h7 h8 h9 hE hM hend hfin hK hsz bR bE bG bP bA r0 m0
      gi_wp2_with (first
        | (refine ⟨trivial, ?_⟩; gi_at_call 48; refine (callsIn_wide.2 (HEND.out _ H5.out)).mono ?_; rintro e w5 ⟨rfl, rfl⟩)
        | (refine wpListIn_store_row rfl _ _ _ rfl rfl w.heap.size rfl _ (MC {} {}) (MC {} {}) rfl H1.out rfl (MC_one _ _) MC_info (MC_cells _ _) ?_; have be6 := H2.out.setRow_far (k := w.heap.size) (by omega) (MC {} {}); have ze6 := be6.cell 0; have fe6 := be6.frozen 0; simp at ze6; have BE6 := Lib.hid be6; clear be6))
      have bR2 := (H1.out.setRow (MC {} {})).far (p := ⟨w.heap.size + 1, 0, none⟩) (by simp) (.int .i64 12)
      have bE2 := BE6.out.set_ 0 (.int .i64 12)
      obtain ⟨W2, hW2⟩ : ∃ W2, (W.setRow w.heap.size (MC {} {})).setCell ⟨w.heap.size + 1, 0, none⟩ (.int .i64 12) = W2 := ⟨_, rfl⟩
      have m2 : Mods (fun i => i = w.heap.size ∨ i = w.heap.size + 1) W W2 := by rw [← hW2]; exact Mods.setCell (S := fun i => i = w.heap.size ∨ i = w.heap.size + 1) (Mods.setRow (Mods.refl _ _) (fun _ => .inl rfl) _) (fun _ => .inr rfl) _
      rw [hW2] at bR2 bE2 ⊢
      clear hW2
      have hsz := HSZ.out
      have hK' : W2.heap[W0.heap.size]? = some (.deferred (some [])) := (m2.block _ hlt (by omega)).trans HKD.out
      have mF : Mods (fun i => i = W0.heap.size) W2 (W2.putObj W0.heap.size (.deferred none)) := Mods.putObj (S := fun i => i = W0.heap.size) (Mods.refl _ _) (fun _ => rfl) _
      have bR3 := bR2.mods mF (by omega)
      have bE3 := bE2.mods mF (by omega)
      obtain ⟨y0, y1, y2, y3, y4, y5, y6, y7, y8, y9, y10⟩ := bR3.mc
      have zE3 := bE3.cell 0
      simp at zE3
      refine ⟨by simp, .inl ⟨_, _, rfl, run_takeDeferred hK', ?_⟩⟩
      refine ⟨.tuple #[.agg (MC {} {}), .int .i64 12], by simp [results, Tryd.results24, go_sem, y0, y1, y2, y3, y4, y5, y6, y7, y8, y9, y10, zE3, MC], ?_⟩
      rw [HE.out, HM.out]
      refine ⟨{}, rfl, In2.none_ _ _, (H9.out.nil_trans m2 (fun i h => by omega)).nil_trans mF (fun i h => by omega)⟩
  case hstop =>
    rintro pre W ⟨E, h1, h2, h3, h4, h5⟩ hK
    have hE : fE (getFs (fl K) { kind := K } xs) = E := by unfold fE; rw [if_pos (by rw [h2]; exact h1), h2]
    have hM : fM (getFs (fl K) { kind := K } xs) = {} := by unfold fM; rw [hE, if_neg h1]
    have HE := Lib.hid hE
    have HM := Lib.hid hM
    have hlt : W0.heap.size < W.heap.size := (Array.getElem?_eq_some_iff.1 hK).1
    have mF : Mods (fun i => i = W0.heap.size) W (W.putObj W0.heap.size (.deferred none)) := Mods.putObj (S := fun i => i = W0.heap.size) (Mods.refl _ _) (fun _ => rfl) _
    have bR3 := h3.mods mF (by omega)
    have bE3 := h4.mods mF (by omega)
    obtain ⟨y0, y1, y2, y3, y4, y5, y6, y7, y8, y9, y10⟩ := bR3.mc
    have zE3 := bE3.cell 0
    simp at zE3
    have H5 := Lib.hid h5
    clear h1 h2 h3 h4 h5 hE hM hsz bR bE bG bP bA r0 m0
    gi_wp2
    refine ⟨by simp, .inl ⟨_, _, rfl, run_takeDeferred hK, ?_⟩⟩
    refine ⟨.tuple #[.agg (MC {} {}), .int .i64 E], by simp [results, Tryd.results24, go_sem, y0, y1, y2, y3, y4, y5, y6, y7, y8, y9, y10, zE3, MC], ?_⟩
    rw [HE.out, HM.out]
    exact ⟨{}, rfl, In2.none_ _ _, H5.out.nil_trans mF (fun i h => by have := HSZ.out; omega)⟩
end Go.Proofs.YtlheaicojmjdpaaDoor
end

section
/- Package msg: Get. -/
namespace Go.Proofs.YtlheaicojmjdpaaDoor
set_option maxRecDepth 100000
open Go.RowKit
set_option linter.unusedVariables false

theorem mE_form {xs : List UInt8} (h : getE xs ≠ 0) : mE xs = getE xs := by unfold mE; rw [if_pos h]
theorem mE_left {xs : List UInt8} (h : getE xs = 0) (h2 : getN xs < xs.length ∨ isK (getK xs).toNat = false) : mE xs = 11 := by unfold mE; rw [if_neg (by simp [h]), if_pos h2]
theorem mE_fields {xs : List UInt8} (h : getE xs = 0) (h2 : ¬ (getN xs < xs.length ∨ isK (getK xs).toNat = false)) : mE xs = fE (mF xs) ∧ mM xs = fM (mF xs) := by
  have h1 : mE xs = fE (mF xs) := by unfold mE; rw [if_neg (by simp [h]), if_neg h2]
  refine ⟨h1, ?_⟩
  unfold mM fM
  rw [h1]

set_option maxHeartbeats 8000000 in
theorem mget_any {w : World} {A : Option Addr} {c n : Nat} {xs : List UInt8} (hT : Tab w) (hn : xs.length = n) (hs : Sl w A c (bts xs)) (hlim : n ≤ 140737488355328) :
    Calls Tryd.prog 11 #[.slice A n c] w (GotM w (mM xs) (mE xs)) := by
  have bR := Blk.new w 32 (MC {} {})
  have m1 := (Mods.refl Nil w).alloc (.cells (MC {} {}) 32)
  have hT1 := hT.mods m1 (fun h => h)
  have hs1 := hs.alloc (.cells (MC {} {}) 32)
  obtain ⟨w1, hw1⟩ : ∃ w1, w.alloc (.cells (MC {} {}) 32) = w1 := ⟨_, rfl⟩
  rw [hw1] at bR m1 hT1 hs1
  have HW1 := Lib.hid hw1
  have HBR := Lib.hid bR
  have M1 := Lib.hid m1
  have HT := Lib.hid hT1
  have HS := Lib.hid hs1
  have HN := Lib.hid hn
  have hget : Hid (Calls Tryd.prog 22 #[.slice A n c] (w.alloc (.cells (MC {} {}) 32)) (Got w1 xs)) := by show Calls _ _ _ _ _; rw [hw1]; exact get_any hn hs1
  clear hw1 bR m1 hT hT1 hs hs1
  by_cases hE : getE xs = 0
  · by_cases hL : getN xs < xs.length ∨ isK (getK xs).toNat = false
    · have h11 := mE_left hE hL
      have hM := mM_bad (xs := xs) (by rw [h11]; simp)
      rw [h11, hM]
      have gN : gotN xs = getN xs := by unfold gotN; rw [if_pos hE]
      have gK : gotK xs = getK xs := by unfold gotK; rw [if_pos hE]
      have HE := Lib.hid hE
      have GN := Lib.hid gN
      have GK := Lib.hid gK
      have hk256 := (getK xs).toNat_lt
      by_cases hl : getN xs < n
      · have hlI : ((getN xs : Nat) : Int) < (n : Int) := by omega
        clear hE hL h11 hM gN gK hl hn
        go_enter Tryd.func11, Tryd.ntmps11
        go_wp2_with (first
          | (go_at_call 22; refine (hget.out).mono ?_; rintro e w2 ⟨A2, c2, rfl, s2, b2, m2⟩; rw [HE.out, GN.out, GK.out]; have M2 := Lib.hid (M1.out.trans m2); have BR2 := Lib.hid ((HBR.out.mods m2 (fun h => h)).alloc (.cells #[.int .u8 ((getK xs).toNat : Int), .slice A2 (gotB xs).length c2] 50)); clear s2 b2 m2)
          | (refine wpList_store_row rfl _ _ _ rfl rfl w.heap.size rfl _ (MC {} {}) (MC {} {}) rfl BR2.out rfl (MC_one _ _) MC_info (MC_cells _ _) ?_))
        have bF := BR2.out.setRow (MC ({}) {})
        have mFw : Mods Nil w ((w2.alloc (.cells #[.int .u8 ((getK xs).toNat : Int), .slice A2 (gotB xs).length c2] 50)).setRow w.heap.size (MC ({}) {})) := Mods.setRow (M2.out.alloc _) (fun h => by omega) _
        obtain ⟨W2, hW2⟩ : ∃ W2, (w2.alloc (.cells #[.int .u8 ((getK xs).toNat : Int), .slice A2 (gotB xs).length c2] 50)).setRow w.heap.size (MC ({}) {}) = W2 := ⟨_, rfl⟩
        rw [hW2] at bF mFw ⊢
        obtain ⟨y0, y1, y2, y3, y4, y5, y6, y7, y8, y9, y10⟩ := bF.mc
        clear hW2
        exact bodyPost_ret (v := .tuple #[.agg (MC ({}) {}), .int .i64 11]) (by simp [results, Tryd.results11, go_sem, y0, y1, y2, y3, y4, y5, y6, y7, y8, y9, y10, MC]) rfl ⟨_, rfl, In2.none_ _ _, mFw⟩
      · have hlI : (n : Int) ≤ ((getN xs : Nat) : Int) := by omega
        have hK : isK (getK xs).toNat = false := by
          rcases hL with h | h
          · omega
          · exact h
        have HK := Lib.hid hK
        clear hE hL h11 hM gN gK hl hn hK
        go_enter Tryd.func11, Tryd.ntmps11
        go_wp2_with (first
          | (go_at_call 22; refine (hget.out).mono ?_; rintro e w2 ⟨A2, c2, rfl, s2, b2, m2⟩; rw [HE.out, GN.out, GK.out]; obtain ⟨f0, f1, f2, f3⟩ := (Blk.new w2 50 #[.int .u8 ((getK xs).toNat : Int), .slice A2 (gotB xs).length c2]).two; have M2 := Lib.hid (M1.out.trans m2); have BR2 := Lib.hid ((HBR.out.mods m2 (fun h => h)).alloc (.cells #[.int .u8 ((getK xs).toNat : Int), .slice A2 (gotB xs).length c2] 50)); clear s2 b2 m2)
          | (go_at_call 23; refine (isKind_any _ _).mono ?_; rintro e w3 ⟨rfl, rfl⟩; rw [HK.out])
          | (refine wpList_store_row rfl _ _ _ rfl rfl w.heap.size rfl _ (MC {} {}) (MC {} {}) rfl BR2.out rfl (MC_one _ _) MC_info (MC_cells _ _) ?_))
        have bF := BR2.out.setRow (MC ({}) {})
        have mFw : Mods Nil w ((w2.alloc (.cells #[.int .u8 ((getK xs).toNat : Int), .slice A2 (gotB xs).length c2] 50)).setRow w.heap.size (MC ({}) {})) := Mods.setRow (M2.out.alloc _) (fun h => by omega) _
        obtain ⟨W2, hW2⟩ : ∃ W2, (w2.alloc (.cells #[.int .u8 ((getK xs).toNat : Int), .slice A2 (gotB xs).length c2] 50)).setRow w.heap.size (MC ({}) {}) = W2 := ⟨_, rfl⟩
        rw [hW2] at bF mFw ⊢
        obtain ⟨y0, y1, y2, y3, y4, y5, y6, y7, y8, y9, y10⟩ := bF.mc
        clear hW2
        exact bodyPost_ret (v := .tuple #[.agg (MC ({}) {}), .int .i64 11]) (by simp [results, Tryd.results11, go_sem, y0, y1, y2, y3, y4, y5, y6, y7, y8, y9, y10, MC]) rfl ⟨_, rfl, In2.none_ _ _, mFw⟩
    · obtain ⟨h1, h2⟩ := mE_fields hE hL
      rw [h1, h2]
      have gN : gotN xs = getN xs := by unfold gotN; rw [if_pos hE]
      have gK : gotK xs = getK xs := by unfold gotK; rw [if_pos hE]
      have gB : gotB xs = getB xs := by unfold gotB; rw [if_pos hE]
      have hle := (getE_zero hE).2.2.1
      have hbl := getB_length hle
      have hsz := (getE_zero hE).2.1
      have hlI : (n : Int) ≤ ((getN xs : Nat) : Int) := by omega
      have hK : isK (getK xs).toNat = true := by
        cases h : isK (getK xs).toNat with
        | true => rfl
        | false => exact absurd (.inr h) hL
      have hk256 := (getK xs).toNat_lt
      have HE := Lib.hid hE
      have GN := Lib.hid gN
      have GK := Lib.hid gK
      have GB := Lib.hid gB
      have HK := Lib.hid hK
      have HBL := Lib.hid (show (getB xs).length ≤ 140737488355328 by omega)
      clear hE hL h1 h2 gN gK gB hle hbl hsz hK hn
      go_enter Tryd.func11, Tryd.ntmps11
      go_wp2_with (first
        | (go_at_call 22; refine (hget.out).mono ?_; rintro e w2 ⟨A2, c2, rfl, s2, b2, m2⟩; rw [HE.out, GN.out, GK.out]; rw [GB.out] at s2 ⊢; obtain ⟨f0, f1, f2, f3⟩ := (Blk.new w2 50 #[.int .u8 ((getK xs).toNat : Int), .slice A2 (getB xs).length c2]).two; have S2 := Lib.hid (s2.alloc (.cells #[.int .u8 ((getK xs).toNat : Int), .slice A2 (getB xs).length c2] 50)); have M2 := Lib.hid (M1.out.trans m2); have HT2 := Lib.hid ((HT.out.mods m2 (fun h => h)).mods ((Mods.refl Nil w2).alloc (.cells #[.int .u8 ((getK xs).toNat : Int), .slice A2 (getB xs).length c2] 50)) (fun h => h)); have BR2 := Lib.hid ((HBR.out.mods m2 (fun h => h)).alloc (.cells #[.int .u8 ((getK xs).toNat : Int), .slice A2 (getB xs).length c2] 50)); clear s2 b2 m2)
        | (go_at_call 23; refine (isKind_any _ _).mono ?_; rintro e w3 ⟨rfl, rfl⟩; rw [HK.out])
        | (go_at_call 24; refine (show Calls _ _ _ _ (GotM _ (fM (mF xs)) (fE (mF xs))) from getFields_any HK.out HT2.out rfl S2.out HBL.out).mono ?_; rintro e w4 ⟨L4, rfl, i4, m4⟩; have I4 := Lib.hid i4; have M4 := Lib.hid ((M2.out.alloc _).trans m4); have BR4 := Lib.hid (BR2.out.mods m4 (fun h => h)); clear i4 m4)
        | (refine wpList_store_row rfl _ _ _ rfl rfl w.heap.size rfl _ (MC {} {}) (MC (fM (mF xs)) L4) rfl BR4.out rfl (MC_one _ _) MC_info (MC_cells _ _) ?_))
      have mS : Mods (fun i => i = w.heap.size) w4 (w4.setRow w.heap.size (MC (fM (mF xs)) L4)) := Mods.setRow (S := fun i => i = w.heap.size) (Mods.refl _ _) (fun _ => rfl) _
      have hlt4 : w.heap.size < w2.heap.size + 1 := by have := BR2.out.lt; simpa using this
      have hin : In2 (w2.heap.size + 1) (w4.setRow w.heap.size (MC (fM (mF xs)) L4)) (fM (mF xs)) L4 := In2.mods (by have := I4.out; simp only [World.size_alloc] at this; exact this) mS (fun i h => by omega)
      have bF := BR4.out.setRow (MC (fM (mF xs)) L4)
      have mFw : Mods Nil w ((w4).setRow w.heap.size (MC (fM (mF xs)) L4)) := (M4.out.nil_trans mS (fun i h => by omega))
      obtain ⟨W2, hW2⟩ : ∃ W2, (w4).setRow w.heap.size (MC (fM (mF xs)) L4) = W2 := ⟨_, rfl⟩
      rw [hW2] at bF mFw hin ⊢
      obtain ⟨y0, y1, y2, y3, y4, y5, y6, y7, y8, y9, y10⟩ := bF.mc
      clear hW2
      exact bodyPost_ret (v := .tuple #[.agg (MC (fM (mF xs)) L4), .int .i64 (fE (mF xs))]) (by simp [results, Tryd.results11, go_sem, y0, y1, y2, y3, y4, y5, y6, y7, y8, y9, y10, MC]) rfl ⟨_, rfl, hin.base (by omega), mFw⟩
  · have h1 := mE_form hE
    have hM := mM_bad (xs := xs) (by rw [h1]; exact hE)
    rw [h1, hM]
    obtain ⟨E, hEE⟩ : ∃ E, getE xs = E := ⟨_, rfl⟩
    rw [hEE] at hE ⊢
    have HE := Lib.hid hEE
    have hb2 : (E != 0) = true := by simp [hE]
    clear hE h1 hM hEE hn
    go_enter Tryd.func11, Tryd.ntmps11
    go_wp2_with (first
      | (go_at_call 22; refine (hget.out).mono ?_; rintro e w2 ⟨A2, c2, rfl, s2, b2, m2⟩; rw [HE.out]; have M2 := Lib.hid (M1.out.trans m2); have BR2 := Lib.hid ((HBR.out.mods m2 (fun h => h)).alloc (.cells #[.int .u8 ((gotK xs).toNat : Int), .slice A2 (gotB xs).length c2] 50)); clear s2 b2 m2)
      | (refine wpList_store_row rfl _ _ _ rfl rfl w.heap.size rfl _ (MC {} {}) (MC {} {}) rfl BR2.out rfl (MC_one _ _) MC_info (MC_cells _ _) ?_))
    have bF := BR2.out.setRow (MC ({}) {})
    have mFw : Mods Nil w ((w2.alloc (.cells #[.int .u8 ((gotK xs).toNat : Int), .slice A2 (gotB xs).length c2] 50)).setRow w.heap.size (MC ({}) {})) := Mods.setRow (M2.out.alloc _) (fun h => by omega) _
    obtain ⟨W2, hW2⟩ : ∃ W2, (w2.alloc (.cells #[.int .u8 ((gotK xs).toNat : Int), .slice A2 (gotB xs).length c2] 50)).setRow w.heap.size (MC ({}) {}) = W2 := ⟨_, rfl⟩
    rw [hW2] at bF mFw ⊢
    obtain ⟨y0, y1, y2, y3, y4, y5, y6, y7, y8, y9, y10⟩ := bF.mc
    clear hW2
    exact bodyPost_ret (v := .tuple #[.agg (MC ({}) {}), .int .i64 E]) (by simp [results, Tryd.results11, go_sem, y0, y1, y2, y3, y4, y5, y6, y7, y8, y9, y10, MC]) rfl ⟨_, rfl, In2.none_ _ _, mFw⟩
end Go.Proofs.YtlheaicojmjdpaaDoor
end
