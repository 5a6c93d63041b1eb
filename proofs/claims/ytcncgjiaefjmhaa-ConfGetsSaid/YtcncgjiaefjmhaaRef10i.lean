/- The reference of layer 10: the command of bytes (Get); printed by wip/tools/gen10/genget.py. -/
import Derived.Test.YtcncgjiaefjmhaaRef10b
import Derived.Test.YtcncgjiaefjmhaaRef10e
import Derived.Test.YtcncgjiaefjmhaaRef10h
import Derived.Test.YtcncgjiaefjmhaaConfM4
namespace Go.Proofs.Ytcncgjiaefjmhaa
set_option maxRecDepth 1000000
open Go.RowKit
set_option linter.unusedVariables false
set_option linter.unusedSimpArgs false

/-- Where a chain of reads stands: the fields fs are to come. -/
structure CP (T : Int × List UInt8 × PC) (fs : List Nat) (E : Int) (B : List UInt8) (c : PC) : Prop where
  ok : E = 0 → T = chain fs c B
  err : E ≠ 0 → T.1 = E
theorem CP.read {T : Int × List UInt8 × PC} {fs : List Nat} {E : Int} {B B1 : List UInt8} {c : PC} {j : Nat} (h : CP T (j :: fs) E B c) (hj : j = 0 ∨ j = 1 ∨ j = 4) (hB : (readUint E B).1 = 0 → B1 = (readUint E B).2.1) : CP T fs (readUint E B).1 B1 (setC c j (readUint E B).2.2) := by
  have hlo : bLo j = 0 := by unfold bLo; rw [if_neg (by omega)]
  have hhi : bHi j = 18446744073709551615 := by unfold bHi; rw [if_neg (by omega), if_neg (by omega), if_neg (by omega)]
  by_cases h0 : E = 0
  · have hT := h.ok h0
    subst h0
    have hv := valOf_lt64 B 0
    by_cases h1 : (readUint 0 B).1 = 0
    · have e : fldR j c B = (0, (readUint 0 B).2.1, setC c j (readUint 0 B).2.2) := by unfold fldR; rw [if_neg (by simp [h1]), if_neg (by omega), if_neg (by omega)]
      rw [chain, e, if_neg (by simp)] at hT
      exact ⟨fun _ => by rw [hB h1]; exact hT, fun h2 => absurd h1 h2⟩
    · have e : fldR j c B = ((readUint 0 B).1, [], c) := by unfold fldR; rw [if_pos h1]
      rw [chain, e, if_pos h1] at hT
      exact ⟨fun h2 => absurd h2 h1, fun _ => by rw [hT]⟩
  · rw [readUint_err h0]
    exact ⟨fun h2 => absurd h2 h0, fun _ => h.err h0⟩
theorem CP.small {T : Int × List UInt8 × PC} {fs : List Nat} {E E1 : Int} {B B1 : List UInt8} {c : PC} {j x : Nat} (h : CP T (j :: fs) E B c) (hj : j ≠ 5) (hs : SmallP E B (bLo j) (bHi j) E1 B1 x) : CP T fs E1 B1 (setC c j x) := by
  by_cases h0 : E = 0
  · have hT := h.ok h0
    obtain ⟨g1, g2⟩ := hs.ok h0
    by_cases h1 : E1 = 0
    · obtain ⟨b1, b2⟩ := g2 h1
      rw [chain, fldR_num hj (g1.symm.trans h1), if_neg (by simp)] at hT
      exact ⟨fun _ => by rw [b1, b2]; exact hT, fun h2 => absurd h1 h2⟩
    · have hb := fldR_bad (c := c) (j := j) (xs := B) (by rw [← g1]; exact h1)
      rw [chain, if_pos (by rw [hb, ← g1]; exact h1)] at hT
      exact ⟨fun h2 => absurd h2 h1, fun _ => by rw [hT, g1]; exact hb⟩
  · have e := (hs.err h0).1
    exact ⟨fun h2 => absurd (e.symm.trans h2) h0, fun _ => by rw [e]; exact h.err h0⟩
theorem CP.rows {T : Int × List UInt8 × PC} {fs : List Nat} {E : Int} {B B1 : List UInt8} {c : PC} {l : List PW} (h : CP T (5 :: fs) E B c) (hB : (allF E B).1 = 0 → B1 = (allF E B).2.1 ∧ (allF E B).2.2 = l) : CP T fs (allF E B).1 B1 { c with rows := l } := by
  by_cases h0 : E = 0
  · have hT := h.ok h0
    subst h0
    by_cases hn : numE B 0 8 = 0
    · have ha : allF 0 B = rowsF (readUint 0 B).2.2 (readUint 0 B).2.1 := by unfold allF; rw [if_neg (by simp), if_neg (by simp [hn])]
      have hf := fldR_rows (c := c) (xs := B) hn
      rw [← ha] at hf
      by_cases h1 : (allF 0 B).1 = 0
      · obtain ⟨b1, b2⟩ := hB h1
        rw [if_neg (by simp [h1])] at hf
        rw [chain, hf, if_neg (by simp)] at hT
        exact ⟨fun _ => by rw [b1, ← b2]; exact hT, fun h2 => absurd h1 h2⟩
      · rw [if_pos h1] at hf
        rw [chain, hf, if_pos h1] at hT
        exact ⟨fun h2 => absurd h2 h1, fun _ => by rw [hT]⟩
    · have ha : allF 0 B = (numE B 0 8, [], []) := by unfold allF; rw [if_neg (by simp), if_pos hn]
      have hb := fldR_bad (c := c) (j := 5) (xs := B) hn
      have hb' : (fldR 5 c B).1 = numE B 0 8 := hb
      rw [chain, if_pos (by rw [hb']; exact hn)] at hT
      rw [ha]
      exact ⟨fun h2 => absurd h2 hn, fun _ => by rw [hT]; exact hb'⟩
  · have ha : (allF E B).1 = E := by unfold allF; rw [if_pos h0]
    rw [ha]
    exact ⟨fun h2 => absurd h2 h0, fun _ => h.err h0⟩
theorem CP.fin {T : Int × List UInt8 × PC} {E : Int} {B : List UInt8} {c : PC} (h : CP T [] E B c) : (if E = 0 then (if B = [] then 0 else 12) else E) = fldsE T ∧ (fldsE T = 0 → c = T.2.2) := by
  by_cases h0 : E = 0
  · have hT := h.ok h0
    rw [chain] at hT
    subst hT
    rw [if_pos h0]
    exact ⟨by simp [fldsE], fun _ => rfl⟩
  · have hT := h.err h0
    rw [if_neg h0]
    have : fldsE T = E := by unfold fldsE; rw [if_pos (by rw [hT]; exact h0), hT]
    exact ⟨this.symm, fun h2 => absurd (this.symm.trans h2) h0⟩

theorem CC_one (c : PC) (A : Option Addr) (n k : Nat) : (CC c A n k).all (·.oneCell') = true := by simp [CC, Value.oneCell']
theorem CC_cells (c : PC) (A : Option Addr) (n k : Nat) : (Value.agg (CC c A n k)).cells = CC c A n k := by simp [CC, Value.cells]
theorem CC_info : (Try.prog.info? 33).map (·.size) = some 7 := by kernel_rfl
/-- The boxes of the walk: the result's, the command's, the reader's. -/
structure GB (w W : World) (c : PC) (A : Option Addr) (n k : Nat) (B : List UInt8) (E : Int) : Prop where
  res : Blk W w.heap.size 33 (CC {} none 0 0)
  cb : Blk W (w.heap.size + 1) 33 (CC c A n k)
  rb : Blk W (w.heap.size + 1 + 1) 61 #[.string (strOf B), .int .i64 E]
  m : Mods Nil w W
theorem GB.nil {w W W' : World} {c : PC} {A : Option Addr} {n k : Nat} {B : List UInt8} {E : Int} (h : GB w W c A n k B E) (hm : Mods Nil W W') : GB w W' c A n k B E :=
  ⟨h.res.mods hm (fun h => h), h.cb.mods hm (fun h => h), h.rb.mods hm (fun h => h), h.m.trans hm⟩
theorem GB.setR {w W : World} {c : PC} {A : Option Addr} {n k : Nat} {B : List UInt8} {E : Int} (h : GB w W c A n k B E) (B' : List UInt8) (E' : Int) : GB w ((W.setCell ⟨w.heap.size + 1 + 1, 0, none⟩ (.string (strOf B'))).setCell ⟨w.heap.size + 1 + 1, 1, none⟩ (.int .i64 E')) c A n k B' E' :=
  ⟨(h.res.far (by simp; omega) _).far (by simp; omega) _, (h.cb.far (by simp) _).far (by simp) _, set_one h.rb _ _, (h.m.setNew (by simp; omega) _).setNew (by simp; omega) _⟩
theorem GB.setF {w W : World} {c c' : PC} {A A' : Option Addr} {n k n' k' : Nat} {B : List UInt8} {E : Int} (h : GB w W c A n k B E) (i : Nat) (v : Value) (he : (CC c A n k).setIfInBounds i v = CC c' A' n' k') : GB w (W.setCell ⟨w.heap.size + 1, i, none⟩ v) c' A' n' k' B E :=
  ⟨h.res.far (by simp) _, by have := h.cb.set_ i v; rw [he] at this; exact this, h.rb.far (by simp) _, h.m.setNew (by simp) _⟩
theorem GB.new (w : World) (op : Int) (B : List UInt8) : GB w (((w.alloc (.cells #[.int .i64 0, .int .u64 0, .int .u64 0, .int .i64 0, .int .i64 0, .int .u64 0, .slice none 0 0] 33)).alloc (.cells #[.int .i64 op, .int .u64 0, .int .u64 0, .int .i64 0, .int .i64 0, .int .u64 0, .slice none 0 0] 33)).alloc (.cells #[.string (strOf B), .int .i64 0] 61)) { op := op } none 0 0 B 0 := by
  have h1 := ((Blk.new w 33 #[.int .i64 0, .int .u64 0, .int .u64 0, .int .i64 0, .int .i64 0, .int .u64 0, .slice none 0 0]).alloc (.cells #[.int .i64 op, .int .u64 0, .int .u64 0, .int .i64 0, .int .i64 0, .int .u64 0, .slice none 0 0] 33)).alloc (.cells #[.string (strOf B), .int .i64 0] 61)
  have h2 := (Blk.new (w.alloc (.cells #[.int .i64 0, .int .u64 0, .int .u64 0, .int .i64 0, .int .i64 0, .int .u64 0, .slice none 0 0] 33)) 33 #[.int .i64 op, .int .u64 0, .int .u64 0, .int .i64 0, .int .i64 0, .int .u64 0, .slice none 0 0]).alloc (.cells #[.string (strOf B), .int .i64 0] 61)
  have h3 := Blk.new ((w.alloc (.cells #[.int .i64 0, .int .u64 0, .int .u64 0, .int .i64 0, .int .i64 0, .int .u64 0, .slice none 0 0] 33)).alloc (.cells #[.int .i64 op, .int .u64 0, .int .u64 0, .int .i64 0, .int .i64 0, .int .u64 0, .slice none 0 0] 33)) 61 #[.string (strOf B), .int .i64 0]
  simp only [World.size_alloc] at h2 h3
  exact ⟨h1, h2, h3, (((Mods.refl _ _).alloc _).alloc _).alloc _⟩
/-- What the reference's Get tells. -/
def GotR (w : World) (c : PC) (E : Int) (e : Ending) (w' : World) : Prop :=
  ∃ A n k, e = .returned (.tuple #[.agg (CC c A n k), .int .i64 E]) ∧ (∃ L, c.rows = pws L ∧ Rws w' A n k L) ∧ Mods Nil w w'

set_option maxHeartbeats 8000000 in
theorem r10get_0 (w : World) {t : List UInt8} (hl : t.length ≤ 140737488355328) {x : UInt8} (hx : x.toNat = 0) : Calls Try.prog 12 #[.string (strOf (x :: t))] w (GotR w (gC (x :: t)) (gE (x :: t))) := by
  have h4 : x.toNat ≤ 4 := by omega
  have hGT := gT_chain (t := t) h4
  rw [hx] at hGT
  have HOK := Lib.hid (fun h => gT_ok (t := t) h4 h)
  have HGE := Lib.hid (gE_cons (t := t) h4)
  have HGC : Hid (gC (x :: t) = if gE (x :: t) = 0 then (gT (x :: t)).2.2 else {}) := Lib.hid rfl
  generalize gE (x :: t) = EE at HGE HGC ⊢
  generalize gC (x :: t) = C at HGC ⊢
  generalize gT (x :: t) = T at HGE HGC HOK hGT
  have ks := strOf_toList (x :: t)
  have hidx : ∀ h, ((strOf (x :: t))[0]'h).toNat = 0 := fun h => hx
  have hsz : (strOf (x :: t)).size = t.length + 1 := by simp
  have hext : (strOf (x :: t)).extract 1 (t.length + 1) = strOf t := by rw [strOf_extract]; simp
  have P0 : Hid (CP T (ownFrom (0 : Int) 0) 0 t { op := (0 : Int) }) := Lib.hid ⟨fun _ => hGT, fun h => absurd rfl h⟩
  rw [show ownFrom (0 : Int) 0 = [] by decide] at P0
  have HL0 := Lib.hid hl
  have G0 := Lib.hid (GB.new w (0 : Int) t)
  have HCK := Lib.hid (fun W (c : PC) A n k (L : List RowP) (h1 : c.rows = pws L) (h : Rws W A n k L) => (show Calls Try.prog 19 #[.agg (CC c A n k)] W fun e w' => e = .returned (.int .i64 (chkC c)) ∧ Mods Nil W w' from by have h2 := r10check_any W (op := c.op) (shard := c.shard) (segs := c.segs) (client := c.client) (seq := c.seq) (pos := c.pos) h; rw [← h1] at h2; exact h2))
  clear hGT h4 hl
  by_cases hFE : fldsE T = 0
  · have HFE := Lib.hid hFE
    rw [hFE, if_neg (by simp)] at HGE
    by_cases hc : chkC T.2.2 = 0
    · rw [hc, if_neg (by simp)] at HGE
      have hEE := HGE.out
      have hCC := HGC.out
      rw [hEE] at hCC
      rw [if_pos rfl] at hCC
      subst hEE
      subst hCC
      have HC := Lib.hid hc
      clear hc hFE HGE HGC
      go_enter Try.func12, Try.ntmps12
      go_wp2_with (first
        | (go_at_call 28; refine Calls.mono (rend_any _ t (0 : Int)) ?_; obtain ⟨f1, f2⟩ := CP.fin P0.out; rw [f1, HFE.out]; rintro e wE ⟨rfl, m⟩; have HTC : Hid (({ op := (0 : Int) } : PC) = T.2.2) := Lib.hid (f2 HFE.out); have GE := Lib.hid (G0.out.nil m); obtain ⟨d0, d1, d2, d3, d4, d5, d6⟩ := GE.out.cb.seven; have ME := Lib.hid m; clear f1 f2)
        | (go_at_call 19; refine Calls.mono (HCK.out _ { op := (0 : Int) } none 0 0 [] rfl (Rws.nil _)) ?_; rw [HTC.out, HC.out]; rintro e wC ⟨rfl, m⟩; have GC := Lib.hid (GE.out.nil m); clear d0 d1 d2 d3 d4 d5 d6; obtain ⟨d0, d1, d2, d3, d4, d5, d6⟩ := GC.out.cb.seven; clear m)
        | (refine wpList_store_row rfl _ _ _ rfl rfl w.heap.size rfl _ (CC {} none 0 0) (CC { op := (0 : Int) } none 0 0) rfl GC.out.res rfl (CC_one _ _ _ _) CC_info (CC_cells _ _ _ _) ?_))
      have bF := GC.out.res.setRow (CC { op := (0 : Int) } none 0 0)
      have mF : Mods Nil w (wC.setRow w.heap.size (CC { op := (0 : Int) } none 0 0)) := Mods.setRow GC.out.m (fun h => by omega) _
      obtain ⟨W2, hW2⟩ : ∃ W2, wC.setRow w.heap.size (CC { op := (0 : Int) } none 0 0) = W2 := ⟨_, rfl⟩
      rw [hW2] at bF mF ⊢
      obtain ⟨y0, y1, y2, y3, y4, y5, y6⟩ := bF.seven
      clear hW2
      rw [← HTC.out]
      exact bodyPost_ret (v := .tuple #[.agg (CC { op := (0 : Int) } none 0 0), .int .i64 0]) (by simp [results, Try.results12, go_sem, y0, y1, y2, y3, y4, y5, y6, CC]) rfl ⟨none, 0, 0, rfl, ⟨[], rfl, Rws.nil _⟩, mF⟩
    · rw [if_pos hc] at HGE
      have hEE := HGE.out
      have hCC := HGC.out
      rw [hEE] at hCC
      rw [if_neg (by simp)] at hCC
      subst hEE
      subst hCC
      have HC := Lib.hid hc
      clear hc hFE HGE HGC
      go_enter Try.func12, Try.ntmps12
      have hckne : (chkC T.2.2 != 0) = true := by simp [HC.out]
      go_wp2_with (first
        | (go_at_call 28; refine Calls.mono (rend_any _ t (0 : Int)) ?_; obtain ⟨f1, f2⟩ := CP.fin P0.out; rw [f1, HFE.out]; rintro e wE ⟨rfl, m⟩; have HTC : Hid (({ op := (0 : Int) } : PC) = T.2.2) := Lib.hid (f2 HFE.out); have GE := Lib.hid (G0.out.nil m); obtain ⟨d0, d1, d2, d3, d4, d5, d6⟩ := GE.out.cb.seven; have ME := Lib.hid m; clear f1 f2)
        | (go_at_call 19; refine Calls.mono (HCK.out _ { op := (0 : Int) } none 0 0 [] rfl (Rws.nil _)) ?_; rw [HTC.out]; rintro e wC ⟨rfl, m⟩; have GC := Lib.hid (GE.out.nil m); clear d0 d1 d2 d3 d4 d5 d6; obtain ⟨d0, d1, d2, d3, d4, d5, d6⟩ := GC.out.cb.seven; clear m)
        | (refine wpList_store_row rfl _ _ _ rfl rfl w.heap.size rfl _ (CC {} none 0 0) (CC {} none 0 0) rfl GC.out.res rfl (CC_one _ _ _ _) CC_info (CC_cells _ _ _ _) ?_))
      have bF := GC.out.res.setRow (CC {} none 0 0)
      have mF : Mods Nil w (wC.setRow w.heap.size (CC {} none 0 0)) := Mods.setRow GC.out.m (fun h => by omega) _
      obtain ⟨W2, hW2⟩ : ∃ W2, wC.setRow w.heap.size (CC {} none 0 0) = W2 := ⟨_, rfl⟩
      rw [hW2] at bF mF ⊢
      obtain ⟨y0, y1, y2, y3, y4, y5, y6⟩ := bF.seven
      clear hW2
      exact bodyPost_ret (v := .tuple #[.agg (CC {} none 0 0), .int .i64 11]) (by simp [results, Try.results12, go_sem, y0, y1, y2, y3, y4, y5, y6, CC]) rfl ⟨none, 0, 0, rfl, ⟨[], rfl, Rws.nil _⟩, mF⟩
  · rw [if_pos hFE] at HGE
    have hEE := HGE.out
    have hCC := HGC.out
    rw [if_neg (by rw [hEE]; exact hFE)] at hCC
    subst hCC
    obtain ⟨FE, hfe⟩ : ∃ FE, fldsE T = FE := ⟨_, rfl⟩
    rw [hfe] at hEE hFE
    subst hEE
    have HFE := Lib.hid hfe
    have hne2 : (EE != 0) = true := by simp [hFE]
    clear hFE hfe HGE HGC
    go_enter Try.func12, Try.ntmps12
    go_wp2_with (first
      | (go_at_call 28; refine Calls.mono (rend_any _ t (0 : Int)) ?_; obtain ⟨f1, f2⟩ := CP.fin P0.out; rw [f1, HFE.out]; rintro e wE ⟨rfl, m⟩; have GE := Lib.hid (G0.out.nil m); clear m f1 f2)
      | (refine wpList_store_row rfl _ _ _ rfl rfl w.heap.size rfl _ (CC {} none 0 0) (CC {} none 0 0) rfl GE.out.res rfl (CC_one _ _ _ _) CC_info (CC_cells _ _ _ _) ?_))
    have bF := GE.out.res.setRow (CC {} none 0 0)
    have mF : Mods Nil w (wE.setRow w.heap.size (CC {} none 0 0)) := Mods.setRow GE.out.m (fun h => by omega) _
    obtain ⟨W2, hW2⟩ : ∃ W2, wE.setRow w.heap.size (CC {} none 0 0) = W2 := ⟨_, rfl⟩
    rw [hW2] at bF mF ⊢
    obtain ⟨y0, y1, y2, y3, y4, y5, y6⟩ := bF.seven
    clear hW2
    exact bodyPost_ret (v := .tuple #[.agg (CC {} none 0 0), .int .i64 EE]) (by simp [results, Try.results12, go_sem, y0, y1, y2, y3, y4, y5, y6, CC]) rfl ⟨none, 0, 0, rfl, ⟨[], rfl, Rws.nil _⟩, mF⟩
set_option maxHeartbeats 8000000 in
theorem r10get_1 (w : World) {t : List UInt8} (hl : t.length ≤ 140737488355328) {x : UInt8} (hx : x.toNat = 1) : Calls Try.prog 12 #[.string (strOf (x :: t))] w (GotR w (gC (x :: t)) (gE (x :: t))) := by
  have h4 : x.toNat ≤ 4 := by omega
  have hGT := gT_chain (t := t) h4
  rw [hx] at hGT
  have HOK := Lib.hid (fun h => gT_ok (t := t) h4 h)
  have HGE := Lib.hid (gE_cons (t := t) h4)
  have HGC : Hid (gC (x :: t) = if gE (x :: t) = 0 then (gT (x :: t)).2.2 else {}) := Lib.hid rfl
  generalize gE (x :: t) = EE at HGE HGC ⊢
  generalize gC (x :: t) = C at HGC ⊢
  generalize gT (x :: t) = T at HGE HGC HOK hGT
  have ks := strOf_toList (x :: t)
  have hidx : ∀ h, ((strOf (x :: t))[0]'h).toNat = 1 := fun h => hx
  have hsz : (strOf (x :: t)).size = t.length + 1 := by simp
  have hext : (strOf (x :: t)).extract 1 (t.length + 1) = strOf t := by rw [strOf_extract]; simp
  have P0 : Hid (CP T (ownFrom (1 : Int) 0) 0 t { op := (1 : Int) }) := Lib.hid ⟨fun _ => hGT, fun h => absurd rfl h⟩
  rw [show ownFrom (1 : Int) 0 = [0, 1, 2, 3] by decide] at P0
  have HL0 := Lib.hid hl
  have G0 := Lib.hid (GB.new w (1 : Int) t)
  have HCK := Lib.hid (fun W (c : PC) A n k (L : List RowP) (h1 : c.rows = pws L) (h : Rws W A n k L) => (show Calls Try.prog 19 #[.agg (CC c A n k)] W fun e w' => e = .returned (.int .i64 (chkC c)) ∧ Mods Nil W w' from by have h2 := r10check_any W (op := c.op) (shard := c.shard) (segs := c.segs) (client := c.client) (seq := c.seq) (pos := c.pos) h; rw [← h1] at h2; exact h2))
  clear hGT h4 hl
  by_cases hFE : fldsE T = 0
  · have HFE := Lib.hid hFE
    rw [hFE, if_neg (by simp)] at HGE
    by_cases hc : chkC T.2.2 = 0
    · rw [hc, if_neg (by simp)] at HGE
      have hEE := HGE.out
      have hCC := HGC.out
      rw [hEE] at hCC
      rw [if_pos rfl] at hCC
      subst hEE
      subst hCC
      have HC := Lib.hid hc
      clear hc hFE HGE HGC
      go_enter Try.func12, Try.ntmps12
      go_wp2_with (first
        | (go_at_call 24; have hq := P0; clear hq; refine Calls.mono (rread_any _ t (0 : Int) HL0.out) ?_; have HR1 := Lib.hid (fun B1 h => CP.read (B1 := B1) P0.out (by omega) h); generalize readUint (0 : Int) t = RR at HR1 ⊢; obtain ⟨E1, By1, x1⟩ := RR; dsimp only at HR1; rintro e w1 ⟨B1, rfl, hb, hlb, m⟩; unfold refOf; dsimp only; have P1 := Lib.hid (HR1.out B1 hb); have HL1 := Lib.hid (show B1.length ≤ 140737488355328 by have := HL0.out; omega); have g1 := G0.out.nil m; have g2 := g1.setR B1 E1; have G1 := Lib.hid (g2.setF (c' := { op := (1 : Int), client := x1 }) (A' := none) (n' := 0) (k' := 0) 1 (.int .u64 (x1 : Int)) rfl); obtain ⟨r0, r1, r2, r3⟩ := g1.rb.two; have c1 := g2.cb.cell 1; simp at c1; have c2 := g2.cb.frozen 1; obtain ⟨s0, s1, -, -⟩ := G1.out.rb.two; have d0 := G1.out.cb.seven.1; dsimp only at d0; clear m g1 g2 hb hlb P0 G0 HL0 HR1)
        | (go_at_call 24; have hq := P1; clear hq; refine Calls.mono (rread_any _ B1 E1 HL1.out) ?_; have HR2 := Lib.hid (fun B1 h => CP.read (B1 := B1) P1.out (by omega) h); generalize readUint E1 B1 = RR at HR2 ⊢; obtain ⟨E2, By2, x2⟩ := RR; dsimp only at HR2; rintro e w2 ⟨B2, rfl, hb, hlb, m⟩; unfold refOf; dsimp only; have P2 := Lib.hid (HR2.out B2 hb); have HL2 := Lib.hid (show B2.length ≤ 140737488355328 by have := HL1.out; omega); have g1 := G1.out.nil m; have g2 := g1.setR B2 E2; have G2 := Lib.hid (g2.setF (c' := { op := (1 : Int), client := x1, seq := x2 }) (A' := none) (n' := 0) (k' := 0) 2 (.int .u64 (x2 : Int)) rfl); clear r0 r1 r2 r3 c1 c2 s0 s1 d0; obtain ⟨r0, r1, r2, r3⟩ := g1.rb.two; have c1 := g2.cb.cell 2; simp at c1; have c2 := g2.cb.frozen 2; obtain ⟨s0, s1, -, -⟩ := G2.out.rb.two; have d0 := G2.out.cb.seven.1; dsimp only at d0; clear m g1 g2 hb hlb P1 G1 HL1 HR2)
        | (go_at_call 25; have hq := P2; clear hq; refine Calls.mono (r10small_any _ B2 E2 (lo := 0) (hi := 8) (by omega) HL2.out) ?_; have HR3 := Lib.hid (fun B1 h => CP.small (j := 2) P2.out (by omega) (smallP_of (E := E2) (B := B2) (B1 := B1) (lo := 0) (hi := 7) h)); rw [show 7 + 1 = 8 from rfl] at HR3; generalize smallS E2 B2 0 8 = RR at HR3 ⊢; obtain ⟨E3, By3, x3⟩ := RR; dsimp only at HR3; rintro e w3 ⟨B3, rfl, hb, hlb, m⟩; unfold refOf; dsimp only; have P3 := Lib.hid (HR3.out B3 hb); have HL3 := Lib.hid (show B3.length ≤ 140737488355328 by have := HL2.out; omega); have g1 := G2.out.nil m; have g2 := g1.setR B3 E3; have G3 := Lib.hid (g2.setF (c' := { op := (1 : Int), client := x1, seq := x2, shard := (x3 : Int) }) (A' := none) (n' := 0) (k' := 0) 3 (.int .i64 (x3 : Int)) rfl); clear r0 r1 r2 r3 c1 c2 s0 s1 d0; obtain ⟨r0, r1, r2, r3⟩ := g1.rb.two; have c1 := g2.cb.cell 3; simp at c1; have c2 := g2.cb.frozen 3; obtain ⟨s0, s1, -, -⟩ := G3.out.rb.two; have d0 := G3.out.cb.seven.1; dsimp only at d0; clear m g1 g2 hb hlb P2 G2 HL2 HR3)
        | (go_at_call 25; have hq := P3; clear hq; refine Calls.mono (r10small_any _ B3 E3 (lo := 1) (hi := 5) (by omega) HL3.out) ?_; have HR4 := Lib.hid (fun B1 h => CP.small (j := 3) P3.out (by omega) (smallP_of (E := E3) (B := B3) (B1 := B1) (lo := 1) (hi := 4) h)); rw [show 4 + 1 = 5 from rfl] at HR4; generalize smallS E3 B3 1 5 = RR at HR4 ⊢; obtain ⟨E4, By4, x4⟩ := RR; dsimp only at HR4; rintro e w4 ⟨B4, rfl, hb, hlb, m⟩; unfold refOf; dsimp only; have P4 := Lib.hid (HR4.out B4 hb); have HL4 := Lib.hid (show B4.length ≤ 140737488355328 by have := HL3.out; omega); have g1 := G3.out.nil m; have g2 := g1.setR B4 E4; have G4 := Lib.hid (g2.setF (c' := { op := (1 : Int), client := x1, seq := x2, shard := (x3 : Int), segs := (x4 : Int) }) (A' := none) (n' := 0) (k' := 0) 4 (.int .i64 (x4 : Int)) rfl); clear r0 r1 r2 r3 c1 c2 s0 s1 d0; obtain ⟨r0, r1, r2, r3⟩ := g1.rb.two; have c1 := g2.cb.cell 4; simp at c1; have c2 := g2.cb.frozen 4; obtain ⟨s0, s1, -, -⟩ := G4.out.rb.two; have d0 := G4.out.cb.seven.1; dsimp only at d0; clear m g1 g2 hb hlb P3 G3 HL3 HR4)
        | (go_at_call 28; refine Calls.mono (rend_any _ B4 E4) ?_; obtain ⟨f1, f2⟩ := CP.fin P4.out; rw [f1, HFE.out]; rintro e wE ⟨rfl, m⟩; have HTC : Hid (({ op := (1 : Int), client := x1, seq := x2, shard := (x3 : Int), segs := (x4 : Int) } : PC) = T.2.2) := Lib.hid (f2 HFE.out); have GE := Lib.hid (G4.out.nil m); clear r0 r1 r2 r3 c1 c2 s0 s1 d0; obtain ⟨d0, d1, d2, d3, d4, d5, d6⟩ := GE.out.cb.seven; have ME := Lib.hid m; clear f1 f2)
        | (go_at_call 19; refine Calls.mono (HCK.out _ { op := (1 : Int), client := x1, seq := x2, shard := (x3 : Int), segs := (x4 : Int) } none 0 0 [] rfl (Rws.nil _)) ?_; rw [HTC.out, HC.out]; rintro e wC ⟨rfl, m⟩; have GC := Lib.hid (GE.out.nil m); clear d0 d1 d2 d3 d4 d5 d6; obtain ⟨d0, d1, d2, d3, d4, d5, d6⟩ := GC.out.cb.seven; clear m)
        | (refine wpList_store_row rfl _ _ _ rfl rfl w.heap.size rfl _ (CC {} none 0 0) (CC { op := (1 : Int), client := x1, seq := x2, shard := (x3 : Int), segs := (x4 : Int) } none 0 0) rfl GC.out.res rfl (CC_one _ _ _ _) CC_info (CC_cells _ _ _ _) ?_))
      have bF := GC.out.res.setRow (CC { op := (1 : Int), client := x1, seq := x2, shard := (x3 : Int), segs := (x4 : Int) } none 0 0)
      have mF : Mods Nil w (wC.setRow w.heap.size (CC { op := (1 : Int), client := x1, seq := x2, shard := (x3 : Int), segs := (x4 : Int) } none 0 0)) := Mods.setRow GC.out.m (fun h => by omega) _
      obtain ⟨W2, hW2⟩ : ∃ W2, wC.setRow w.heap.size (CC { op := (1 : Int), client := x1, seq := x2, shard := (x3 : Int), segs := (x4 : Int) } none 0 0) = W2 := ⟨_, rfl⟩
      rw [hW2] at bF mF ⊢
      obtain ⟨y0, y1, y2, y3, y4, y5, y6⟩ := bF.seven
      clear hW2
      rw [← HTC.out]
      exact bodyPost_ret (v := .tuple #[.agg (CC { op := (1 : Int), client := x1, seq := x2, shard := (x3 : Int), segs := (x4 : Int) } none 0 0), .int .i64 0]) (by simp [results, Try.results12, go_sem, y0, y1, y2, y3, y4, y5, y6, CC]) rfl ⟨none, 0, 0, rfl, ⟨[], rfl, Rws.nil _⟩, mF⟩
    · rw [if_pos hc] at HGE
      have hEE := HGE.out
      have hCC := HGC.out
      rw [hEE] at hCC
      rw [if_neg (by simp)] at hCC
      subst hEE
      subst hCC
      have HC := Lib.hid hc
      clear hc hFE HGE HGC
      go_enter Try.func12, Try.ntmps12
      have hckne : (chkC T.2.2 != 0) = true := by simp [HC.out]
      go_wp2_with (first
        | (go_at_call 24; have hq := P0; clear hq; refine Calls.mono (rread_any _ t (0 : Int) HL0.out) ?_; have HR1 := Lib.hid (fun B1 h => CP.read (B1 := B1) P0.out (by omega) h); generalize readUint (0 : Int) t = RR at HR1 ⊢; obtain ⟨E1, By1, x1⟩ := RR; dsimp only at HR1; rintro e w1 ⟨B1, rfl, hb, hlb, m⟩; unfold refOf; dsimp only; have P1 := Lib.hid (HR1.out B1 hb); have HL1 := Lib.hid (show B1.length ≤ 140737488355328 by have := HL0.out; omega); have g1 := G0.out.nil m; have g2 := g1.setR B1 E1; have G1 := Lib.hid (g2.setF (c' := { op := (1 : Int), client := x1 }) (A' := none) (n' := 0) (k' := 0) 1 (.int .u64 (x1 : Int)) rfl); obtain ⟨r0, r1, r2, r3⟩ := g1.rb.two; have c1 := g2.cb.cell 1; simp at c1; have c2 := g2.cb.frozen 1; obtain ⟨s0, s1, -, -⟩ := G1.out.rb.two; have d0 := G1.out.cb.seven.1; dsimp only at d0; clear m g1 g2 hb hlb P0 G0 HL0 HR1)
        | (go_at_call 24; have hq := P1; clear hq; refine Calls.mono (rread_any _ B1 E1 HL1.out) ?_; have HR2 := Lib.hid (fun B1 h => CP.read (B1 := B1) P1.out (by omega) h); generalize readUint E1 B1 = RR at HR2 ⊢; obtain ⟨E2, By2, x2⟩ := RR; dsimp only at HR2; rintro e w2 ⟨B2, rfl, hb, hlb, m⟩; unfold refOf; dsimp only; have P2 := Lib.hid (HR2.out B2 hb); have HL2 := Lib.hid (show B2.length ≤ 140737488355328 by have := HL1.out; omega); have g1 := G1.out.nil m; have g2 := g1.setR B2 E2; have G2 := Lib.hid (g2.setF (c' := { op := (1 : Int), client := x1, seq := x2 }) (A' := none) (n' := 0) (k' := 0) 2 (.int .u64 (x2 : Int)) rfl); clear r0 r1 r2 r3 c1 c2 s0 s1 d0; obtain ⟨r0, r1, r2, r3⟩ := g1.rb.two; have c1 := g2.cb.cell 2; simp at c1; have c2 := g2.cb.frozen 2; obtain ⟨s0, s1, -, -⟩ := G2.out.rb.two; have d0 := G2.out.cb.seven.1; dsimp only at d0; clear m g1 g2 hb hlb P1 G1 HL1 HR2)
        | (go_at_call 25; have hq := P2; clear hq; refine Calls.mono (r10small_any _ B2 E2 (lo := 0) (hi := 8) (by omega) HL2.out) ?_; have HR3 := Lib.hid (fun B1 h => CP.small (j := 2) P2.out (by omega) (smallP_of (E := E2) (B := B2) (B1 := B1) (lo := 0) (hi := 7) h)); rw [show 7 + 1 = 8 from rfl] at HR3; generalize smallS E2 B2 0 8 = RR at HR3 ⊢; obtain ⟨E3, By3, x3⟩ := RR; dsimp only at HR3; rintro e w3 ⟨B3, rfl, hb, hlb, m⟩; unfold refOf; dsimp only; have P3 := Lib.hid (HR3.out B3 hb); have HL3 := Lib.hid (show B3.length ≤ 140737488355328 by have := HL2.out; omega); have g1 := G2.out.nil m; have g2 := g1.setR B3 E3; have G3 := Lib.hid (g2.setF (c' := { op := (1 : Int), client := x1, seq := x2, shard := (x3 : Int) }) (A' := none) (n' := 0) (k' := 0) 3 (.int .i64 (x3 : Int)) rfl); clear r0 r1 r2 r3 c1 c2 s0 s1 d0; obtain ⟨r0, r1, r2, r3⟩ := g1.rb.two; have c1 := g2.cb.cell 3; simp at c1; have c2 := g2.cb.frozen 3; obtain ⟨s0, s1, -, -⟩ := G3.out.rb.two; have d0 := G3.out.cb.seven.1; dsimp only at d0; clear m g1 g2 hb hlb P2 G2 HL2 HR3)
        | (go_at_call 25; have hq := P3; clear hq; refine Calls.mono (r10small_any _ B3 E3 (lo := 1) (hi := 5) (by omega) HL3.out) ?_; have HR4 := Lib.hid (fun B1 h => CP.small (j := 3) P3.out (by omega) (smallP_of (E := E3) (B := B3) (B1 := B1) (lo := 1) (hi := 4) h)); rw [show 4 + 1 = 5 from rfl] at HR4; generalize smallS E3 B3 1 5 = RR at HR4 ⊢; obtain ⟨E4, By4, x4⟩ := RR; dsimp only at HR4; rintro e w4 ⟨B4, rfl, hb, hlb, m⟩; unfold refOf; dsimp only; have P4 := Lib.hid (HR4.out B4 hb); have HL4 := Lib.hid (show B4.length ≤ 140737488355328 by have := HL3.out; omega); have g1 := G3.out.nil m; have g2 := g1.setR B4 E4; have G4 := Lib.hid (g2.setF (c' := { op := (1 : Int), client := x1, seq := x2, shard := (x3 : Int), segs := (x4 : Int) }) (A' := none) (n' := 0) (k' := 0) 4 (.int .i64 (x4 : Int)) rfl); clear r0 r1 r2 r3 c1 c2 s0 s1 d0; obtain ⟨r0, r1, r2, r3⟩ := g1.rb.two; have c1 := g2.cb.cell 4; simp at c1; have c2 := g2.cb.frozen 4; obtain ⟨s0, s1, -, -⟩ := G4.out.rb.two; have d0 := G4.out.cb.seven.1; dsimp only at d0; clear m g1 g2 hb hlb P3 G3 HL3 HR4)
        | (go_at_call 28; refine Calls.mono (rend_any _ B4 E4) ?_; obtain ⟨f1, f2⟩ := CP.fin P4.out; rw [f1, HFE.out]; rintro e wE ⟨rfl, m⟩; have HTC : Hid (({ op := (1 : Int), client := x1, seq := x2, shard := (x3 : Int), segs := (x4 : Int) } : PC) = T.2.2) := Lib.hid (f2 HFE.out); have GE := Lib.hid (G4.out.nil m); clear r0 r1 r2 r3 c1 c2 s0 s1 d0; obtain ⟨d0, d1, d2, d3, d4, d5, d6⟩ := GE.out.cb.seven; have ME := Lib.hid m; clear f1 f2)
        | (go_at_call 19; refine Calls.mono (HCK.out _ { op := (1 : Int), client := x1, seq := x2, shard := (x3 : Int), segs := (x4 : Int) } none 0 0 [] rfl (Rws.nil _)) ?_; rw [HTC.out]; rintro e wC ⟨rfl, m⟩; have GC := Lib.hid (GE.out.nil m); clear d0 d1 d2 d3 d4 d5 d6; obtain ⟨d0, d1, d2, d3, d4, d5, d6⟩ := GC.out.cb.seven; clear m)
        | (refine wpList_store_row rfl _ _ _ rfl rfl w.heap.size rfl _ (CC {} none 0 0) (CC {} none 0 0) rfl GC.out.res rfl (CC_one _ _ _ _) CC_info (CC_cells _ _ _ _) ?_))
      have bF := GC.out.res.setRow (CC {} none 0 0)
      have mF : Mods Nil w (wC.setRow w.heap.size (CC {} none 0 0)) := Mods.setRow GC.out.m (fun h => by omega) _
      obtain ⟨W2, hW2⟩ : ∃ W2, wC.setRow w.heap.size (CC {} none 0 0) = W2 := ⟨_, rfl⟩
      rw [hW2] at bF mF ⊢
      obtain ⟨y0, y1, y2, y3, y4, y5, y6⟩ := bF.seven
      clear hW2
      exact bodyPost_ret (v := .tuple #[.agg (CC {} none 0 0), .int .i64 11]) (by simp [results, Try.results12, go_sem, y0, y1, y2, y3, y4, y5, y6, CC]) rfl ⟨none, 0, 0, rfl, ⟨[], rfl, Rws.nil _⟩, mF⟩
  · rw [if_pos hFE] at HGE
    have hEE := HGE.out
    have hCC := HGC.out
    rw [if_neg (by rw [hEE]; exact hFE)] at hCC
    subst hCC
    obtain ⟨FE, hfe⟩ : ∃ FE, fldsE T = FE := ⟨_, rfl⟩
    rw [hfe] at hEE hFE
    subst hEE
    have HFE := Lib.hid hfe
    have hne2 : (EE != 0) = true := by simp [hFE]
    clear hFE hfe HGE HGC
    go_enter Try.func12, Try.ntmps12
    go_wp2_with (first
      | (go_at_call 24; have hq := P0; clear hq; refine Calls.mono (rread_any _ t (0 : Int) HL0.out) ?_; have HR1 := Lib.hid (fun B1 h => CP.read (B1 := B1) P0.out (by omega) h); generalize readUint (0 : Int) t = RR at HR1 ⊢; obtain ⟨E1, By1, x1⟩ := RR; dsimp only at HR1; rintro e w1 ⟨B1, rfl, hb, hlb, m⟩; unfold refOf; dsimp only; have P1 := Lib.hid (HR1.out B1 hb); have HL1 := Lib.hid (show B1.length ≤ 140737488355328 by have := HL0.out; omega); have g1 := G0.out.nil m; have g2 := g1.setR B1 E1; have G1 := Lib.hid (g2.setF (c' := { op := (1 : Int), client := x1 }) (A' := none) (n' := 0) (k' := 0) 1 (.int .u64 (x1 : Int)) rfl); obtain ⟨r0, r1, r2, r3⟩ := g1.rb.two; have c1 := g2.cb.cell 1; simp at c1; have c2 := g2.cb.frozen 1; obtain ⟨s0, s1, -, -⟩ := G1.out.rb.two; have d0 := G1.out.cb.seven.1; dsimp only at d0; clear m g1 g2 hb hlb P0 G0 HL0 HR1)
      | (go_at_call 24; have hq := P1; clear hq; refine Calls.mono (rread_any _ B1 E1 HL1.out) ?_; have HR2 := Lib.hid (fun B1 h => CP.read (B1 := B1) P1.out (by omega) h); generalize readUint E1 B1 = RR at HR2 ⊢; obtain ⟨E2, By2, x2⟩ := RR; dsimp only at HR2; rintro e w2 ⟨B2, rfl, hb, hlb, m⟩; unfold refOf; dsimp only; have P2 := Lib.hid (HR2.out B2 hb); have HL2 := Lib.hid (show B2.length ≤ 140737488355328 by have := HL1.out; omega); have g1 := G1.out.nil m; have g2 := g1.setR B2 E2; have G2 := Lib.hid (g2.setF (c' := { op := (1 : Int), client := x1, seq := x2 }) (A' := none) (n' := 0) (k' := 0) 2 (.int .u64 (x2 : Int)) rfl); clear r0 r1 r2 r3 c1 c2 s0 s1 d0; obtain ⟨r0, r1, r2, r3⟩ := g1.rb.two; have c1 := g2.cb.cell 2; simp at c1; have c2 := g2.cb.frozen 2; obtain ⟨s0, s1, -, -⟩ := G2.out.rb.two; have d0 := G2.out.cb.seven.1; dsimp only at d0; clear m g1 g2 hb hlb P1 G1 HL1 HR2)
      | (go_at_call 25; have hq := P2; clear hq; refine Calls.mono (r10small_any _ B2 E2 (lo := 0) (hi := 8) (by omega) HL2.out) ?_; have HR3 := Lib.hid (fun B1 h => CP.small (j := 2) P2.out (by omega) (smallP_of (E := E2) (B := B2) (B1 := B1) (lo := 0) (hi := 7) h)); rw [show 7 + 1 = 8 from rfl] at HR3; generalize smallS E2 B2 0 8 = RR at HR3 ⊢; obtain ⟨E3, By3, x3⟩ := RR; dsimp only at HR3; rintro e w3 ⟨B3, rfl, hb, hlb, m⟩; unfold refOf; dsimp only; have P3 := Lib.hid (HR3.out B3 hb); have HL3 := Lib.hid (show B3.length ≤ 140737488355328 by have := HL2.out; omega); have g1 := G2.out.nil m; have g2 := g1.setR B3 E3; have G3 := Lib.hid (g2.setF (c' := { op := (1 : Int), client := x1, seq := x2, shard := (x3 : Int) }) (A' := none) (n' := 0) (k' := 0) 3 (.int .i64 (x3 : Int)) rfl); clear r0 r1 r2 r3 c1 c2 s0 s1 d0; obtain ⟨r0, r1, r2, r3⟩ := g1.rb.two; have c1 := g2.cb.cell 3; simp at c1; have c2 := g2.cb.frozen 3; obtain ⟨s0, s1, -, -⟩ := G3.out.rb.two; have d0 := G3.out.cb.seven.1; dsimp only at d0; clear m g1 g2 hb hlb P2 G2 HL2 HR3)
      | (go_at_call 25; have hq := P3; clear hq; refine Calls.mono (r10small_any _ B3 E3 (lo := 1) (hi := 5) (by omega) HL3.out) ?_; have HR4 := Lib.hid (fun B1 h => CP.small (j := 3) P3.out (by omega) (smallP_of (E := E3) (B := B3) (B1 := B1) (lo := 1) (hi := 4) h)); rw [show 4 + 1 = 5 from rfl] at HR4; generalize smallS E3 B3 1 5 = RR at HR4 ⊢; obtain ⟨E4, By4, x4⟩ := RR; dsimp only at HR4; rintro e w4 ⟨B4, rfl, hb, hlb, m⟩; unfold refOf; dsimp only; have P4 := Lib.hid (HR4.out B4 hb); have HL4 := Lib.hid (show B4.length ≤ 140737488355328 by have := HL3.out; omega); have g1 := G3.out.nil m; have g2 := g1.setR B4 E4; have G4 := Lib.hid (g2.setF (c' := { op := (1 : Int), client := x1, seq := x2, shard := (x3 : Int), segs := (x4 : Int) }) (A' := none) (n' := 0) (k' := 0) 4 (.int .i64 (x4 : Int)) rfl); clear r0 r1 r2 r3 c1 c2 s0 s1 d0; obtain ⟨r0, r1, r2, r3⟩ := g1.rb.two; have c1 := g2.cb.cell 4; simp at c1; have c2 := g2.cb.frozen 4; obtain ⟨s0, s1, -, -⟩ := G4.out.rb.two; have d0 := G4.out.cb.seven.1; dsimp only at d0; clear m g1 g2 hb hlb P3 G3 HL3 HR4)
      | (go_at_call 28; refine Calls.mono (rend_any _ B4 E4) ?_; obtain ⟨f1, f2⟩ := CP.fin P4.out; rw [f1, HFE.out]; rintro e wE ⟨rfl, m⟩; have GE := Lib.hid (G4.out.nil m); clear r0 r1 r2 r3 c1 c2 s0 s1 d0; clear m f1 f2)
      | (refine wpList_store_row rfl _ _ _ rfl rfl w.heap.size rfl _ (CC {} none 0 0) (CC {} none 0 0) rfl GE.out.res rfl (CC_one _ _ _ _) CC_info (CC_cells _ _ _ _) ?_))
    have bF := GE.out.res.setRow (CC {} none 0 0)
    have mF : Mods Nil w (wE.setRow w.heap.size (CC {} none 0 0)) := Mods.setRow GE.out.m (fun h => by omega) _
    obtain ⟨W2, hW2⟩ : ∃ W2, wE.setRow w.heap.size (CC {} none 0 0) = W2 := ⟨_, rfl⟩
    rw [hW2] at bF mF ⊢
    obtain ⟨y0, y1, y2, y3, y4, y5, y6⟩ := bF.seven
    clear hW2
    exact bodyPost_ret (v := .tuple #[.agg (CC {} none 0 0), .int .i64 EE]) (by simp [results, Try.results12, go_sem, y0, y1, y2, y3, y4, y5, y6, CC]) rfl ⟨none, 0, 0, rfl, ⟨[], rfl, Rws.nil _⟩, mF⟩
set_option maxHeartbeats 8000000 in
theorem r10get_2 (w : World) {t : List UInt8} (hl : t.length ≤ 140737488355328) {x : UInt8} (hx : x.toNat = 2) : Calls Try.prog 12 #[.string (strOf (x :: t))] w (GotR w (gC (x :: t)) (gE (x :: t))) := by
  have h4 : x.toNat ≤ 4 := by omega
  have hGT := gT_chain (t := t) h4
  rw [hx] at hGT
  have HOK := Lib.hid (fun h => gT_ok (t := t) h4 h)
  have HGE := Lib.hid (gE_cons (t := t) h4)
  have HGC : Hid (gC (x :: t) = if gE (x :: t) = 0 then (gT (x :: t)).2.2 else {}) := Lib.hid rfl
  generalize gE (x :: t) = EE at HGE HGC ⊢
  generalize gC (x :: t) = C at HGC ⊢
  generalize gT (x :: t) = T at HGE HGC HOK hGT
  have ks := strOf_toList (x :: t)
  have hidx : ∀ h, ((strOf (x :: t))[0]'h).toNat = 2 := fun h => hx
  have hsz : (strOf (x :: t)).size = t.length + 1 := by simp
  have hext : (strOf (x :: t)).extract 1 (t.length + 1) = strOf t := by rw [strOf_extract]; simp
  have P0 : Hid (CP T (ownFrom (2 : Int) 0) 0 t { op := (2 : Int) }) := Lib.hid ⟨fun _ => hGT, fun h => absurd rfl h⟩
  rw [show ownFrom (2 : Int) 0 = [0, 1, 2, 5] by decide] at P0
  have HL0 := Lib.hid hl
  have G0 := Lib.hid (GB.new w (2 : Int) t)
  have HCK := Lib.hid (fun W (c : PC) A n k (L : List RowP) (h1 : c.rows = pws L) (h : Rws W A n k L) => (show Calls Try.prog 19 #[.agg (CC c A n k)] W fun e w' => e = .returned (.int .i64 (chkC c)) ∧ Mods Nil W w' from by have h2 := r10check_any W (op := c.op) (shard := c.shard) (segs := c.segs) (client := c.client) (seq := c.seq) (pos := c.pos) h; rw [← h1] at h2; exact h2))
  clear hGT h4 hl
  by_cases hFE : fldsE T = 0
  · have HFE := Lib.hid hFE
    rw [hFE, if_neg (by simp)] at HGE
    by_cases hc : chkC T.2.2 = 0
    · rw [hc, if_neg (by simp)] at HGE
      have hEE := HGE.out
      have hCC := HGC.out
      rw [hEE] at hCC
      rw [if_pos rfl] at hCC
      subst hEE
      subst hCC
      have HC := Lib.hid hc
      clear hc hFE HGE HGC
      go_enter Try.func12, Try.ntmps12
      go_wp2_with (first
        | (go_at_call 24; have hq := P0; clear hq; refine Calls.mono (rread_any _ t (0 : Int) HL0.out) ?_; have HR1 := Lib.hid (fun B1 h => CP.read (B1 := B1) P0.out (by omega) h); generalize readUint (0 : Int) t = RR at HR1 ⊢; obtain ⟨E1, By1, x1⟩ := RR; dsimp only at HR1; rintro e w1 ⟨B1, rfl, hb, hlb, m⟩; unfold refOf; dsimp only; have P1 := Lib.hid (HR1.out B1 hb); have HL1 := Lib.hid (show B1.length ≤ 140737488355328 by have := HL0.out; omega); have g1 := G0.out.nil m; have g2 := g1.setR B1 E1; have G1 := Lib.hid (g2.setF (c' := { op := (2 : Int), client := x1 }) (A' := none) (n' := 0) (k' := 0) 1 (.int .u64 (x1 : Int)) rfl); obtain ⟨r0, r1, r2, r3⟩ := g1.rb.two; have c1 := g2.cb.cell 1; simp at c1; have c2 := g2.cb.frozen 1; obtain ⟨s0, s1, -, -⟩ := G1.out.rb.two; have d0 := G1.out.cb.seven.1; dsimp only at d0; clear m g1 g2 hb hlb P0 G0 HL0 HR1)
        | (go_at_call 24; have hq := P1; clear hq; refine Calls.mono (rread_any _ B1 E1 HL1.out) ?_; have HR2 := Lib.hid (fun B1 h => CP.read (B1 := B1) P1.out (by omega) h); generalize readUint E1 B1 = RR at HR2 ⊢; obtain ⟨E2, By2, x2⟩ := RR; dsimp only at HR2; rintro e w2 ⟨B2, rfl, hb, hlb, m⟩; unfold refOf; dsimp only; have P2 := Lib.hid (HR2.out B2 hb); have HL2 := Lib.hid (show B2.length ≤ 140737488355328 by have := HL1.out; omega); have g1 := G1.out.nil m; have g2 := g1.setR B2 E2; have G2 := Lib.hid (g2.setF (c' := { op := (2 : Int), client := x1, seq := x2 }) (A' := none) (n' := 0) (k' := 0) 2 (.int .u64 (x2 : Int)) rfl); clear r0 r1 r2 r3 c1 c2 s0 s1 d0; obtain ⟨r0, r1, r2, r3⟩ := g1.rb.two; have c1 := g2.cb.cell 2; simp at c1; have c2 := g2.cb.frozen 2; obtain ⟨s0, s1, -, -⟩ := G2.out.rb.two; have d0 := G2.out.cb.seven.1; dsimp only at d0; clear m g1 g2 hb hlb P1 G1 HL1 HR2)
        | (go_at_call 25; have hq := P2; clear hq; refine Calls.mono (r10small_any _ B2 E2 (lo := 0) (hi := 8) (by omega) HL2.out) ?_; have HR3 := Lib.hid (fun B1 h => CP.small (j := 2) P2.out (by omega) (smallP_of (E := E2) (B := B2) (B1 := B1) (lo := 0) (hi := 7) h)); rw [show 7 + 1 = 8 from rfl] at HR3; generalize smallS E2 B2 0 8 = RR at HR3 ⊢; obtain ⟨E3, By3, x3⟩ := RR; dsimp only at HR3; rintro e w3 ⟨B3, rfl, hb, hlb, m⟩; unfold refOf; dsimp only; have P3 := Lib.hid (HR3.out B3 hb); have HL3 := Lib.hid (show B3.length ≤ 140737488355328 by have := HL2.out; omega); have g1 := G2.out.nil m; have g2 := g1.setR B3 E3; have G3 := Lib.hid (g2.setF (c' := { op := (2 : Int), client := x1, seq := x2, shard := (x3 : Int) }) (A' := none) (n' := 0) (k' := 0) 3 (.int .i64 (x3 : Int)) rfl); clear r0 r1 r2 r3 c1 c2 s0 s1 d0; obtain ⟨r0, r1, r2, r3⟩ := g1.rb.two; have c1 := g2.cb.cell 3; simp at c1; have c2 := g2.cb.frozen 3; obtain ⟨s0, s1, -, -⟩ := G3.out.rb.two; have d0 := G3.out.cb.seven.1; dsimp only at d0; clear m g1 g2 hb hlb P2 G2 HL2 HR3)
        | (go_at_call 27; have hq := P3; clear hq; refine Calls.mono (r10readRows_any _ B3 E3 HL3.out) ?_; have HR4 := Lib.hid (fun B1 l h => CP.rows (B1 := B1) (l := l) P3.out h); generalize allF E3 B3 = RR at HR4 ⊢; obtain ⟨E4, By4, lz⟩ := RR; dsimp only at HR4; rintro e w4 ⟨B4, AR, nR, kR, rfl, hb, m⟩; dsimp only at hb ⊢; have hlt := G3.out.rb.lt; have HROW : Hid (E4 = 0 → B4 = By4 ∧ ∃ L, lz = pws L ∧ Rws w4 AR nR kR L ∧ Rfar (w.heap.size + 3) AR L) := Lib.hid (fun h => by obtain ⟨h1, L, h2, h3, h4⟩ := hb h; exact ⟨h1, L, h2, h3, h4.mono (by omega)⟩); have HM := Lib.hid m; clear hb m hlt)
        | (go_at_call 26; refine Calls.mono (r10all_any _ B4 E4 AR nR kR) ?_; rintro e wx ⟨rfl, m⟩; unfold refOf; have P4 := Lib.hid (HR4.out B4 lz (fun h => ⟨(HROW.out h).1, rfl⟩)); have HRX : Hid (E4 = 0 → ∃ L, lz = pws L ∧ Rws (((wx.setCell ⟨w.heap.size + 1 + 1, 0, none⟩ (.string (strOf B4))).setCell ⟨w.heap.size + 1 + 1, 1, none⟩ (.int .i64 E4)).setCell ⟨w.heap.size + 1, 6, none⟩ (.slice AR nR kR)) AR nR kR L ∧ Rfar (w.heap.size + 3) AR L) := Lib.hid (fun h => by obtain ⟨-, L, h1, h2, h3⟩ := HROW.out h; exact ⟨L, h1, Rws.modsB (h2.mods m) h3 (Mods.setCell (S := fun i => i < w.heap.size + 3) (Mods.setCell (S := fun i => i < w.heap.size + 3) (Mods.setCell (S := fun i => i < w.heap.size + 3) (Mods.refl _ wx) (fun _ => by dsimp only; omega) _) (fun _ => by dsimp only; omega) _) (fun _ => by dsimp only; omega) _) (fun i h => h), h3⟩); have g1 := G3.out.nil (HM.out.trans m); have g2 := g1.setR B4 E4; have G4 := Lib.hid (g2.setF (c' := { op := (2 : Int), client := x1, seq := x2, shard := (x3 : Int), rows := lz }) (A' := AR) (n' := nR) (k' := kR) 6 (.slice AR nR kR) rfl); clear r0 r1 r2 r3 c1 c2 s0 s1 d0; obtain ⟨r0, r1, r2, r3⟩ := g1.rb.two; have c1 := g2.cb.cell 6; simp at c1; have c2 := g2.cb.frozen 6; obtain ⟨s0, s1, -, -⟩ := G4.out.rb.two; have d0 := G4.out.cb.seven.1; dsimp only at d0; clear m g1 g2 P3 G3 HR4 HROW HM)
        | (go_at_call 28; refine Calls.mono (rend_any _ B4 E4) ?_; obtain ⟨f1, f2⟩ := CP.fin P4.out; rw [f1, HFE.out]; rintro e wE ⟨rfl, m⟩; have HTC : Hid (({ op := (2 : Int), client := x1, seq := x2, shard := (x3 : Int), rows := lz } : PC) = T.2.2) := Lib.hid (f2 HFE.out); have GE := Lib.hid (G4.out.nil m); clear r0 r1 r2 r3 c1 c2 s0 s1 d0; obtain ⟨d0, d1, d2, d3, d4, d5, d6⟩ := GE.out.cb.seven; have ME := Lib.hid m; clear f1 f2; have hE0 : E4 = 0 := Classical.byContradiction (fun hE0 => hE0 ((P4.out.err hE0).symm.trans (fldsE_zero HFE.out))); obtain ⟨L, hL, hR, hF⟩ := HRX.out hE0; have HLL := Lib.hid hL; have HRF := Lib.hid hF; have HRW := Lib.hid (hR.mods m))
        | (go_at_call 19; refine Calls.mono (HCK.out _ { op := (2 : Int), client := x1, seq := x2, shard := (x3 : Int), rows := lz } AR nR kR L HLL.out HRW.out) ?_; rw [HTC.out, HC.out]; rintro e wC ⟨rfl, m⟩; have GC := Lib.hid (GE.out.nil m); have HRWC := Lib.hid (HRW.out.mods m); clear d0 d1 d2 d3 d4 d5 d6; obtain ⟨d0, d1, d2, d3, d4, d5, d6⟩ := GC.out.cb.seven; clear m)
        | (refine wpList_store_row rfl _ _ _ rfl rfl w.heap.size rfl _ (CC {} none 0 0) (CC { op := (2 : Int), client := x1, seq := x2, shard := (x3 : Int), rows := lz } AR nR kR) rfl GC.out.res rfl (CC_one _ _ _ _) CC_info (CC_cells _ _ _ _) ?_))
      have bF := GC.out.res.setRow (CC { op := (2 : Int), client := x1, seq := x2, shard := (x3 : Int), rows := lz } AR nR kR)
      have mF : Mods Nil w (wC.setRow w.heap.size (CC { op := (2 : Int), client := x1, seq := x2, shard := (x3 : Int), rows := lz } AR nR kR)) := Mods.setRow GC.out.m (fun h => by omega) _
      have hRF := HRWC.out
      obtain ⟨W2, hW2⟩ : ∃ W2, wC.setRow w.heap.size (CC { op := (2 : Int), client := x1, seq := x2, shard := (x3 : Int), rows := lz } AR nR kR) = W2 := ⟨_, rfl⟩
      have hRF2 : Rws W2 AR nR kR L := Rws.modsB hRF HRF.out (by rw [← hW2]; exact Mods.setRow (S := (· = w.heap.size)) (Mods.refl _ _) (fun _ => rfl) _) (fun i h => by omega)
      rw [hW2] at bF mF ⊢
      obtain ⟨y0, y1, y2, y3, y4, y5, y6⟩ := bF.seven
      clear hW2
      rw [← HTC.out]
      exact bodyPost_ret (v := .tuple #[.agg (CC { op := (2 : Int), client := x1, seq := x2, shard := (x3 : Int), rows := lz } AR nR kR), .int .i64 0]) (by simp [results, Try.results12, go_sem, y0, y1, y2, y3, y4, y5, y6, CC]) rfl ⟨AR, nR, kR, rfl, ⟨L, HLL.out, hRF2⟩, mF⟩
    · rw [if_pos hc] at HGE
      have hEE := HGE.out
      have hCC := HGC.out
      rw [hEE] at hCC
      rw [if_neg (by simp)] at hCC
      subst hEE
      subst hCC
      have HC := Lib.hid hc
      clear hc hFE HGE HGC
      go_enter Try.func12, Try.ntmps12
      have hckne : (chkC T.2.2 != 0) = true := by simp [HC.out]
      go_wp2_with (first
        | (go_at_call 24; have hq := P0; clear hq; refine Calls.mono (rread_any _ t (0 : Int) HL0.out) ?_; have HR1 := Lib.hid (fun B1 h => CP.read (B1 := B1) P0.out (by omega) h); generalize readUint (0 : Int) t = RR at HR1 ⊢; obtain ⟨E1, By1, x1⟩ := RR; dsimp only at HR1; rintro e w1 ⟨B1, rfl, hb, hlb, m⟩; unfold refOf; dsimp only; have P1 := Lib.hid (HR1.out B1 hb); have HL1 := Lib.hid (show B1.length ≤ 140737488355328 by have := HL0.out; omega); have g1 := G0.out.nil m; have g2 := g1.setR B1 E1; have G1 := Lib.hid (g2.setF (c' := { op := (2 : Int), client := x1 }) (A' := none) (n' := 0) (k' := 0) 1 (.int .u64 (x1 : Int)) rfl); obtain ⟨r0, r1, r2, r3⟩ := g1.rb.two; have c1 := g2.cb.cell 1; simp at c1; have c2 := g2.cb.frozen 1; obtain ⟨s0, s1, -, -⟩ := G1.out.rb.two; have d0 := G1.out.cb.seven.1; dsimp only at d0; clear m g1 g2 hb hlb P0 G0 HL0 HR1)
        | (go_at_call 24; have hq := P1; clear hq; refine Calls.mono (rread_any _ B1 E1 HL1.out) ?_; have HR2 := Lib.hid (fun B1 h => CP.read (B1 := B1) P1.out (by omega) h); generalize readUint E1 B1 = RR at HR2 ⊢; obtain ⟨E2, By2, x2⟩ := RR; dsimp only at HR2; rintro e w2 ⟨B2, rfl, hb, hlb, m⟩; unfold refOf; dsimp only; have P2 := Lib.hid (HR2.out B2 hb); have HL2 := Lib.hid (show B2.length ≤ 140737488355328 by have := HL1.out; omega); have g1 := G1.out.nil m; have g2 := g1.setR B2 E2; have G2 := Lib.hid (g2.setF (c' := { op := (2 : Int), client := x1, seq := x2 }) (A' := none) (n' := 0) (k' := 0) 2 (.int .u64 (x2 : Int)) rfl); clear r0 r1 r2 r3 c1 c2 s0 s1 d0; obtain ⟨r0, r1, r2, r3⟩ := g1.rb.two; have c1 := g2.cb.cell 2; simp at c1; have c2 := g2.cb.frozen 2; obtain ⟨s0, s1, -, -⟩ := G2.out.rb.two; have d0 := G2.out.cb.seven.1; dsimp only at d0; clear m g1 g2 hb hlb P1 G1 HL1 HR2)
        | (go_at_call 25; have hq := P2; clear hq; refine Calls.mono (r10small_any _ B2 E2 (lo := 0) (hi := 8) (by omega) HL2.out) ?_; have HR3 := Lib.hid (fun B1 h => CP.small (j := 2) P2.out (by omega) (smallP_of (E := E2) (B := B2) (B1 := B1) (lo := 0) (hi := 7) h)); rw [show 7 + 1 = 8 from rfl] at HR3; generalize smallS E2 B2 0 8 = RR at HR3 ⊢; obtain ⟨E3, By3, x3⟩ := RR; dsimp only at HR3; rintro e w3 ⟨B3, rfl, hb, hlb, m⟩; unfold refOf; dsimp only; have P3 := Lib.hid (HR3.out B3 hb); have HL3 := Lib.hid (show B3.length ≤ 140737488355328 by have := HL2.out; omega); have g1 := G2.out.nil m; have g2 := g1.setR B3 E3; have G3 := Lib.hid (g2.setF (c' := { op := (2 : Int), client := x1, seq := x2, shard := (x3 : Int) }) (A' := none) (n' := 0) (k' := 0) 3 (.int .i64 (x3 : Int)) rfl); clear r0 r1 r2 r3 c1 c2 s0 s1 d0; obtain ⟨r0, r1, r2, r3⟩ := g1.rb.two; have c1 := g2.cb.cell 3; simp at c1; have c2 := g2.cb.frozen 3; obtain ⟨s0, s1, -, -⟩ := G3.out.rb.two; have d0 := G3.out.cb.seven.1; dsimp only at d0; clear m g1 g2 hb hlb P2 G2 HL2 HR3)
        | (go_at_call 27; have hq := P3; clear hq; refine Calls.mono (r10readRows_any _ B3 E3 HL3.out) ?_; have HR4 := Lib.hid (fun B1 l h => CP.rows (B1 := B1) (l := l) P3.out h); generalize allF E3 B3 = RR at HR4 ⊢; obtain ⟨E4, By4, lz⟩ := RR; dsimp only at HR4; rintro e w4 ⟨B4, AR, nR, kR, rfl, hb, m⟩; dsimp only at hb ⊢; have hlt := G3.out.rb.lt; have HROW : Hid (E4 = 0 → B4 = By4 ∧ ∃ L, lz = pws L ∧ Rws w4 AR nR kR L ∧ Rfar (w.heap.size + 3) AR L) := Lib.hid (fun h => by obtain ⟨h1, L, h2, h3, h4⟩ := hb h; exact ⟨h1, L, h2, h3, h4.mono (by omega)⟩); have HM := Lib.hid m; clear hb m hlt)
        | (go_at_call 26; refine Calls.mono (r10all_any _ B4 E4 AR nR kR) ?_; rintro e wx ⟨rfl, m⟩; unfold refOf; have P4 := Lib.hid (HR4.out B4 lz (fun h => ⟨(HROW.out h).1, rfl⟩)); have HRX : Hid (E4 = 0 → ∃ L, lz = pws L ∧ Rws (((wx.setCell ⟨w.heap.size + 1 + 1, 0, none⟩ (.string (strOf B4))).setCell ⟨w.heap.size + 1 + 1, 1, none⟩ (.int .i64 E4)).setCell ⟨w.heap.size + 1, 6, none⟩ (.slice AR nR kR)) AR nR kR L ∧ Rfar (w.heap.size + 3) AR L) := Lib.hid (fun h => by obtain ⟨-, L, h1, h2, h3⟩ := HROW.out h; exact ⟨L, h1, Rws.modsB (h2.mods m) h3 (Mods.setCell (S := fun i => i < w.heap.size + 3) (Mods.setCell (S := fun i => i < w.heap.size + 3) (Mods.setCell (S := fun i => i < w.heap.size + 3) (Mods.refl _ wx) (fun _ => by dsimp only; omega) _) (fun _ => by dsimp only; omega) _) (fun _ => by dsimp only; omega) _) (fun i h => h), h3⟩); have g1 := G3.out.nil (HM.out.trans m); have g2 := g1.setR B4 E4; have G4 := Lib.hid (g2.setF (c' := { op := (2 : Int), client := x1, seq := x2, shard := (x3 : Int), rows := lz }) (A' := AR) (n' := nR) (k' := kR) 6 (.slice AR nR kR) rfl); clear r0 r1 r2 r3 c1 c2 s0 s1 d0; obtain ⟨r0, r1, r2, r3⟩ := g1.rb.two; have c1 := g2.cb.cell 6; simp at c1; have c2 := g2.cb.frozen 6; obtain ⟨s0, s1, -, -⟩ := G4.out.rb.two; have d0 := G4.out.cb.seven.1; dsimp only at d0; clear m g1 g2 P3 G3 HR4 HROW HM)
        | (go_at_call 28; refine Calls.mono (rend_any _ B4 E4) ?_; obtain ⟨f1, f2⟩ := CP.fin P4.out; rw [f1, HFE.out]; rintro e wE ⟨rfl, m⟩; have HTC : Hid (({ op := (2 : Int), client := x1, seq := x2, shard := (x3 : Int), rows := lz } : PC) = T.2.2) := Lib.hid (f2 HFE.out); have GE := Lib.hid (G4.out.nil m); clear r0 r1 r2 r3 c1 c2 s0 s1 d0; obtain ⟨d0, d1, d2, d3, d4, d5, d6⟩ := GE.out.cb.seven; have ME := Lib.hid m; clear f1 f2; have hE0 : E4 = 0 := Classical.byContradiction (fun hE0 => hE0 ((P4.out.err hE0).symm.trans (fldsE_zero HFE.out))); obtain ⟨L, hL, hR, hF⟩ := HRX.out hE0; have HLL := Lib.hid hL; have HRF := Lib.hid hF; have HRW := Lib.hid (hR.mods m))
        | (go_at_call 19; refine Calls.mono (HCK.out _ { op := (2 : Int), client := x1, seq := x2, shard := (x3 : Int), rows := lz } AR nR kR L HLL.out HRW.out) ?_; rw [HTC.out]; rintro e wC ⟨rfl, m⟩; have GC := Lib.hid (GE.out.nil m); have HRWC := Lib.hid (HRW.out.mods m); clear d0 d1 d2 d3 d4 d5 d6; obtain ⟨d0, d1, d2, d3, d4, d5, d6⟩ := GC.out.cb.seven; clear m)
        | (refine wpList_store_row rfl _ _ _ rfl rfl w.heap.size rfl _ (CC {} none 0 0) (CC {} none 0 0) rfl GC.out.res rfl (CC_one _ _ _ _) CC_info (CC_cells _ _ _ _) ?_))
      have bF := GC.out.res.setRow (CC {} none 0 0)
      have mF : Mods Nil w (wC.setRow w.heap.size (CC {} none 0 0)) := Mods.setRow GC.out.m (fun h => by omega) _
      obtain ⟨W2, hW2⟩ : ∃ W2, wC.setRow w.heap.size (CC {} none 0 0) = W2 := ⟨_, rfl⟩
      rw [hW2] at bF mF ⊢
      obtain ⟨y0, y1, y2, y3, y4, y5, y6⟩ := bF.seven
      clear hW2
      exact bodyPost_ret (v := .tuple #[.agg (CC {} none 0 0), .int .i64 11]) (by simp [results, Try.results12, go_sem, y0, y1, y2, y3, y4, y5, y6, CC]) rfl ⟨none, 0, 0, rfl, ⟨[], rfl, Rws.nil _⟩, mF⟩
  · rw [if_pos hFE] at HGE
    have hEE := HGE.out
    have hCC := HGC.out
    rw [if_neg (by rw [hEE]; exact hFE)] at hCC
    subst hCC
    obtain ⟨FE, hfe⟩ : ∃ FE, fldsE T = FE := ⟨_, rfl⟩
    rw [hfe] at hEE hFE
    subst hEE
    have HFE := Lib.hid hfe
    have hne2 : (EE != 0) = true := by simp [hFE]
    clear hFE hfe HGE HGC
    go_enter Try.func12, Try.ntmps12
    go_wp2_with (first
      | (go_at_call 24; have hq := P0; clear hq; refine Calls.mono (rread_any _ t (0 : Int) HL0.out) ?_; have HR1 := Lib.hid (fun B1 h => CP.read (B1 := B1) P0.out (by omega) h); generalize readUint (0 : Int) t = RR at HR1 ⊢; obtain ⟨E1, By1, x1⟩ := RR; dsimp only at HR1; rintro e w1 ⟨B1, rfl, hb, hlb, m⟩; unfold refOf; dsimp only; have P1 := Lib.hid (HR1.out B1 hb); have HL1 := Lib.hid (show B1.length ≤ 140737488355328 by have := HL0.out; omega); have g1 := G0.out.nil m; have g2 := g1.setR B1 E1; have G1 := Lib.hid (g2.setF (c' := { op := (2 : Int), client := x1 }) (A' := none) (n' := 0) (k' := 0) 1 (.int .u64 (x1 : Int)) rfl); obtain ⟨r0, r1, r2, r3⟩ := g1.rb.two; have c1 := g2.cb.cell 1; simp at c1; have c2 := g2.cb.frozen 1; obtain ⟨s0, s1, -, -⟩ := G1.out.rb.two; have d0 := G1.out.cb.seven.1; dsimp only at d0; clear m g1 g2 hb hlb P0 G0 HL0 HR1)
      | (go_at_call 24; have hq := P1; clear hq; refine Calls.mono (rread_any _ B1 E1 HL1.out) ?_; have HR2 := Lib.hid (fun B1 h => CP.read (B1 := B1) P1.out (by omega) h); generalize readUint E1 B1 = RR at HR2 ⊢; obtain ⟨E2, By2, x2⟩ := RR; dsimp only at HR2; rintro e w2 ⟨B2, rfl, hb, hlb, m⟩; unfold refOf; dsimp only; have P2 := Lib.hid (HR2.out B2 hb); have HL2 := Lib.hid (show B2.length ≤ 140737488355328 by have := HL1.out; omega); have g1 := G1.out.nil m; have g2 := g1.setR B2 E2; have G2 := Lib.hid (g2.setF (c' := { op := (2 : Int), client := x1, seq := x2 }) (A' := none) (n' := 0) (k' := 0) 2 (.int .u64 (x2 : Int)) rfl); clear r0 r1 r2 r3 c1 c2 s0 s1 d0; obtain ⟨r0, r1, r2, r3⟩ := g1.rb.two; have c1 := g2.cb.cell 2; simp at c1; have c2 := g2.cb.frozen 2; obtain ⟨s0, s1, -, -⟩ := G2.out.rb.two; have d0 := G2.out.cb.seven.1; dsimp only at d0; clear m g1 g2 hb hlb P1 G1 HL1 HR2)
      | (go_at_call 25; have hq := P2; clear hq; refine Calls.mono (r10small_any _ B2 E2 (lo := 0) (hi := 8) (by omega) HL2.out) ?_; have HR3 := Lib.hid (fun B1 h => CP.small (j := 2) P2.out (by omega) (smallP_of (E := E2) (B := B2) (B1 := B1) (lo := 0) (hi := 7) h)); rw [show 7 + 1 = 8 from rfl] at HR3; generalize smallS E2 B2 0 8 = RR at HR3 ⊢; obtain ⟨E3, By3, x3⟩ := RR; dsimp only at HR3; rintro e w3 ⟨B3, rfl, hb, hlb, m⟩; unfold refOf; dsimp only; have P3 := Lib.hid (HR3.out B3 hb); have HL3 := Lib.hid (show B3.length ≤ 140737488355328 by have := HL2.out; omega); have g1 := G2.out.nil m; have g2 := g1.setR B3 E3; have G3 := Lib.hid (g2.setF (c' := { op := (2 : Int), client := x1, seq := x2, shard := (x3 : Int) }) (A' := none) (n' := 0) (k' := 0) 3 (.int .i64 (x3 : Int)) rfl); clear r0 r1 r2 r3 c1 c2 s0 s1 d0; obtain ⟨r0, r1, r2, r3⟩ := g1.rb.two; have c1 := g2.cb.cell 3; simp at c1; have c2 := g2.cb.frozen 3; obtain ⟨s0, s1, -, -⟩ := G3.out.rb.two; have d0 := G3.out.cb.seven.1; dsimp only at d0; clear m g1 g2 hb hlb P2 G2 HL2 HR3)
      | (go_at_call 27; have hq := P3; clear hq; refine Calls.mono (r10readRows_any _ B3 E3 HL3.out) ?_; have HR4 := Lib.hid (fun B1 l h => CP.rows (B1 := B1) (l := l) P3.out h); generalize allF E3 B3 = RR at HR4 ⊢; obtain ⟨E4, By4, lz⟩ := RR; dsimp only at HR4; rintro e w4 ⟨B4, AR, nR, kR, rfl, hb, m⟩; dsimp only at hb ⊢; have hlt := G3.out.rb.lt; have HROW : Hid (E4 = 0 → B4 = By4 ∧ ∃ L, lz = pws L ∧ Rws w4 AR nR kR L ∧ Rfar (w.heap.size + 3) AR L) := Lib.hid (fun h => by obtain ⟨h1, L, h2, h3, h4⟩ := hb h; exact ⟨h1, L, h2, h3, h4.mono (by omega)⟩); have HM := Lib.hid m; clear hb m hlt)
      | (go_at_call 26; refine Calls.mono (r10all_any _ B4 E4 AR nR kR) ?_; rintro e wx ⟨rfl, m⟩; unfold refOf; have P4 := Lib.hid (HR4.out B4 lz (fun h => ⟨(HROW.out h).1, rfl⟩)); have HRX : Hid (E4 = 0 → ∃ L, lz = pws L ∧ Rws (((wx.setCell ⟨w.heap.size + 1 + 1, 0, none⟩ (.string (strOf B4))).setCell ⟨w.heap.size + 1 + 1, 1, none⟩ (.int .i64 E4)).setCell ⟨w.heap.size + 1, 6, none⟩ (.slice AR nR kR)) AR nR kR L ∧ Rfar (w.heap.size + 3) AR L) := Lib.hid (fun h => by obtain ⟨-, L, h1, h2, h3⟩ := HROW.out h; exact ⟨L, h1, Rws.modsB (h2.mods m) h3 (Mods.setCell (S := fun i => i < w.heap.size + 3) (Mods.setCell (S := fun i => i < w.heap.size + 3) (Mods.setCell (S := fun i => i < w.heap.size + 3) (Mods.refl _ wx) (fun _ => by dsimp only; omega) _) (fun _ => by dsimp only; omega) _) (fun _ => by dsimp only; omega) _) (fun i h => h), h3⟩); have g1 := G3.out.nil (HM.out.trans m); have g2 := g1.setR B4 E4; have G4 := Lib.hid (g2.setF (c' := { op := (2 : Int), client := x1, seq := x2, shard := (x3 : Int), rows := lz }) (A' := AR) (n' := nR) (k' := kR) 6 (.slice AR nR kR) rfl); clear r0 r1 r2 r3 c1 c2 s0 s1 d0; obtain ⟨r0, r1, r2, r3⟩ := g1.rb.two; have c1 := g2.cb.cell 6; simp at c1; have c2 := g2.cb.frozen 6; obtain ⟨s0, s1, -, -⟩ := G4.out.rb.two; have d0 := G4.out.cb.seven.1; dsimp only at d0; clear m g1 g2 P3 G3 HR4 HROW HM)
      | (go_at_call 28; refine Calls.mono (rend_any _ B4 E4) ?_; obtain ⟨f1, f2⟩ := CP.fin P4.out; rw [f1, HFE.out]; rintro e wE ⟨rfl, m⟩; have GE := Lib.hid (G4.out.nil m); clear r0 r1 r2 r3 c1 c2 s0 s1 d0; clear m f1 f2)
      | (refine wpList_store_row rfl _ _ _ rfl rfl w.heap.size rfl _ (CC {} none 0 0) (CC {} none 0 0) rfl GE.out.res rfl (CC_one _ _ _ _) CC_info (CC_cells _ _ _ _) ?_))
    have bF := GE.out.res.setRow (CC {} none 0 0)
    have mF : Mods Nil w (wE.setRow w.heap.size (CC {} none 0 0)) := Mods.setRow GE.out.m (fun h => by omega) _
    obtain ⟨W2, hW2⟩ : ∃ W2, wE.setRow w.heap.size (CC {} none 0 0) = W2 := ⟨_, rfl⟩
    rw [hW2] at bF mF ⊢
    obtain ⟨y0, y1, y2, y3, y4, y5, y6⟩ := bF.seven
    clear hW2
    exact bodyPost_ret (v := .tuple #[.agg (CC {} none 0 0), .int .i64 EE]) (by simp [results, Try.results12, go_sem, y0, y1, y2, y3, y4, y5, y6, CC]) rfl ⟨none, 0, 0, rfl, ⟨[], rfl, Rws.nil _⟩, mF⟩
set_option maxHeartbeats 8000000 in
theorem r10get_3 (w : World) {t : List UInt8} (hl : t.length ≤ 140737488355328) {x : UInt8} (hx : x.toNat = 3) : Calls Try.prog 12 #[.string (strOf (x :: t))] w (GotR w (gC (x :: t)) (gE (x :: t))) := by
  have h4 : x.toNat ≤ 4 := by omega
  have hGT := gT_chain (t := t) h4
  rw [hx] at hGT
  have HOK := Lib.hid (fun h => gT_ok (t := t) h4 h)
  have HGE := Lib.hid (gE_cons (t := t) h4)
  have HGC : Hid (gC (x :: t) = if gE (x :: t) = 0 then (gT (x :: t)).2.2 else {}) := Lib.hid rfl
  generalize gE (x :: t) = EE at HGE HGC ⊢
  generalize gC (x :: t) = C at HGC ⊢
  generalize gT (x :: t) = T at HGE HGC HOK hGT
  have ks := strOf_toList (x :: t)
  have hidx : ∀ h, ((strOf (x :: t))[0]'h).toNat = 3 := fun h => hx
  have hsz : (strOf (x :: t)).size = t.length + 1 := by simp
  have hext : (strOf (x :: t)).extract 1 (t.length + 1) = strOf t := by rw [strOf_extract]; simp
  have P0 : Hid (CP T (ownFrom (3 : Int) 0) 0 t { op := (3 : Int) }) := Lib.hid ⟨fun _ => hGT, fun h => absurd rfl h⟩
  rw [show ownFrom (3 : Int) 0 = [0, 1, 4] by decide] at P0
  have HL0 := Lib.hid hl
  have G0 := Lib.hid (GB.new w (3 : Int) t)
  have HCK := Lib.hid (fun W (c : PC) A n k (L : List RowP) (h1 : c.rows = pws L) (h : Rws W A n k L) => (show Calls Try.prog 19 #[.agg (CC c A n k)] W fun e w' => e = .returned (.int .i64 (chkC c)) ∧ Mods Nil W w' from by have h2 := r10check_any W (op := c.op) (shard := c.shard) (segs := c.segs) (client := c.client) (seq := c.seq) (pos := c.pos) h; rw [← h1] at h2; exact h2))
  clear hGT h4 hl
  by_cases hFE : fldsE T = 0
  · have HFE := Lib.hid hFE
    rw [hFE, if_neg (by simp)] at HGE
    by_cases hc : chkC T.2.2 = 0
    · rw [hc, if_neg (by simp)] at HGE
      have hEE := HGE.out
      have hCC := HGC.out
      rw [hEE] at hCC
      rw [if_pos rfl] at hCC
      subst hEE
      subst hCC
      have HC := Lib.hid hc
      clear hc hFE HGE HGC
      go_enter Try.func12, Try.ntmps12
      go_wp2_with (first
        | (go_at_call 24; have hq := P0; clear hq; refine Calls.mono (rread_any _ t (0 : Int) HL0.out) ?_; have HR1 := Lib.hid (fun B1 h => CP.read (B1 := B1) P0.out (by omega) h); generalize readUint (0 : Int) t = RR at HR1 ⊢; obtain ⟨E1, By1, x1⟩ := RR; dsimp only at HR1; rintro e w1 ⟨B1, rfl, hb, hlb, m⟩; unfold refOf; dsimp only; have P1 := Lib.hid (HR1.out B1 hb); have HL1 := Lib.hid (show B1.length ≤ 140737488355328 by have := HL0.out; omega); have g1 := G0.out.nil m; have g2 := g1.setR B1 E1; have G1 := Lib.hid (g2.setF (c' := { op := (3 : Int), client := x1 }) (A' := none) (n' := 0) (k' := 0) 1 (.int .u64 (x1 : Int)) rfl); obtain ⟨r0, r1, r2, r3⟩ := g1.rb.two; have c1 := g2.cb.cell 1; simp at c1; have c2 := g2.cb.frozen 1; obtain ⟨s0, s1, -, -⟩ := G1.out.rb.two; have d0 := G1.out.cb.seven.1; dsimp only at d0; clear m g1 g2 hb hlb P0 G0 HL0 HR1)
        | (go_at_call 24; have hq := P1; clear hq; refine Calls.mono (rread_any _ B1 E1 HL1.out) ?_; have HR2 := Lib.hid (fun B1 h => CP.read (B1 := B1) P1.out (by omega) h); generalize readUint E1 B1 = RR at HR2 ⊢; obtain ⟨E2, By2, x2⟩ := RR; dsimp only at HR2; rintro e w2 ⟨B2, rfl, hb, hlb, m⟩; unfold refOf; dsimp only; have P2 := Lib.hid (HR2.out B2 hb); have HL2 := Lib.hid (show B2.length ≤ 140737488355328 by have := HL1.out; omega); have g1 := G1.out.nil m; have g2 := g1.setR B2 E2; have G2 := Lib.hid (g2.setF (c' := { op := (3 : Int), client := x1, seq := x2 }) (A' := none) (n' := 0) (k' := 0) 2 (.int .u64 (x2 : Int)) rfl); clear r0 r1 r2 r3 c1 c2 s0 s1 d0; obtain ⟨r0, r1, r2, r3⟩ := g1.rb.two; have c1 := g2.cb.cell 2; simp at c1; have c2 := g2.cb.frozen 2; obtain ⟨s0, s1, -, -⟩ := G2.out.rb.two; have d0 := G2.out.cb.seven.1; dsimp only at d0; clear m g1 g2 hb hlb P1 G1 HL1 HR2)
        | (go_at_call 24; have hq := P2; clear hq; refine Calls.mono (rread_any _ B2 E2 HL2.out) ?_; have HR3 := Lib.hid (fun B1 h => CP.read (B1 := B1) P2.out (by omega) h); generalize readUint E2 B2 = RR at HR3 ⊢; obtain ⟨E3, By3, x3⟩ := RR; dsimp only at HR3; rintro e w3 ⟨B3, rfl, hb, hlb, m⟩; unfold refOf; dsimp only; have P3 := Lib.hid (HR3.out B3 hb); have HL3 := Lib.hid (show B3.length ≤ 140737488355328 by have := HL2.out; omega); have g1 := G2.out.nil m; have g2 := g1.setR B3 E3; have G3 := Lib.hid (g2.setF (c' := { op := (3 : Int), client := x1, seq := x2, pos := x3 }) (A' := none) (n' := 0) (k' := 0) 5 (.int .u64 (x3 : Int)) rfl); clear r0 r1 r2 r3 c1 c2 s0 s1 d0; obtain ⟨r0, r1, r2, r3⟩ := g1.rb.two; have c1 := g2.cb.cell 5; simp at c1; have c2 := g2.cb.frozen 5; obtain ⟨s0, s1, -, -⟩ := G3.out.rb.two; have d0 := G3.out.cb.seven.1; dsimp only at d0; clear m g1 g2 hb hlb P2 G2 HL2 HR3)
        | (go_at_call 28; refine Calls.mono (rend_any _ B3 E3) ?_; obtain ⟨f1, f2⟩ := CP.fin P3.out; rw [f1, HFE.out]; rintro e wE ⟨rfl, m⟩; have HTC : Hid (({ op := (3 : Int), client := x1, seq := x2, pos := x3 } : PC) = T.2.2) := Lib.hid (f2 HFE.out); have GE := Lib.hid (G3.out.nil m); clear r0 r1 r2 r3 c1 c2 s0 s1 d0; obtain ⟨d0, d1, d2, d3, d4, d5, d6⟩ := GE.out.cb.seven; have ME := Lib.hid m; clear f1 f2)
        | (go_at_call 19; refine Calls.mono (HCK.out _ { op := (3 : Int), client := x1, seq := x2, pos := x3 } none 0 0 [] rfl (Rws.nil _)) ?_; rw [HTC.out, HC.out]; rintro e wC ⟨rfl, m⟩; have GC := Lib.hid (GE.out.nil m); clear d0 d1 d2 d3 d4 d5 d6; obtain ⟨d0, d1, d2, d3, d4, d5, d6⟩ := GC.out.cb.seven; clear m)
        | (refine wpList_store_row rfl _ _ _ rfl rfl w.heap.size rfl _ (CC {} none 0 0) (CC { op := (3 : Int), client := x1, seq := x2, pos := x3 } none 0 0) rfl GC.out.res rfl (CC_one _ _ _ _) CC_info (CC_cells _ _ _ _) ?_))
      have bF := GC.out.res.setRow (CC { op := (3 : Int), client := x1, seq := x2, pos := x3 } none 0 0)
      have mF : Mods Nil w (wC.setRow w.heap.size (CC { op := (3 : Int), client := x1, seq := x2, pos := x3 } none 0 0)) := Mods.setRow GC.out.m (fun h => by omega) _
      obtain ⟨W2, hW2⟩ : ∃ W2, wC.setRow w.heap.size (CC { op := (3 : Int), client := x1, seq := x2, pos := x3 } none 0 0) = W2 := ⟨_, rfl⟩
      rw [hW2] at bF mF ⊢
      obtain ⟨y0, y1, y2, y3, y4, y5, y6⟩ := bF.seven
      clear hW2
      rw [← HTC.out]
      exact bodyPost_ret (v := .tuple #[.agg (CC { op := (3 : Int), client := x1, seq := x2, pos := x3 } none 0 0), .int .i64 0]) (by simp [results, Try.results12, go_sem, y0, y1, y2, y3, y4, y5, y6, CC]) rfl ⟨none, 0, 0, rfl, ⟨[], rfl, Rws.nil _⟩, mF⟩
    · rw [if_pos hc] at HGE
      have hEE := HGE.out
      have hCC := HGC.out
      rw [hEE] at hCC
      rw [if_neg (by simp)] at hCC
      subst hEE
      subst hCC
      have HC := Lib.hid hc
      clear hc hFE HGE HGC
      go_enter Try.func12, Try.ntmps12
      have hckne : (chkC T.2.2 != 0) = true := by simp [HC.out]
      go_wp2_with (first
        | (go_at_call 24; have hq := P0; clear hq; refine Calls.mono (rread_any _ t (0 : Int) HL0.out) ?_; have HR1 := Lib.hid (fun B1 h => CP.read (B1 := B1) P0.out (by omega) h); generalize readUint (0 : Int) t = RR at HR1 ⊢; obtain ⟨E1, By1, x1⟩ := RR; dsimp only at HR1; rintro e w1 ⟨B1, rfl, hb, hlb, m⟩; unfold refOf; dsimp only; have P1 := Lib.hid (HR1.out B1 hb); have HL1 := Lib.hid (show B1.length ≤ 140737488355328 by have := HL0.out; omega); have g1 := G0.out.nil m; have g2 := g1.setR B1 E1; have G1 := Lib.hid (g2.setF (c' := { op := (3 : Int), client := x1 }) (A' := none) (n' := 0) (k' := 0) 1 (.int .u64 (x1 : Int)) rfl); obtain ⟨r0, r1, r2, r3⟩ := g1.rb.two; have c1 := g2.cb.cell 1; simp at c1; have c2 := g2.cb.frozen 1; obtain ⟨s0, s1, -, -⟩ := G1.out.rb.two; have d0 := G1.out.cb.seven.1; dsimp only at d0; clear m g1 g2 hb hlb P0 G0 HL0 HR1)
        | (go_at_call 24; have hq := P1; clear hq; refine Calls.mono (rread_any _ B1 E1 HL1.out) ?_; have HR2 := Lib.hid (fun B1 h => CP.read (B1 := B1) P1.out (by omega) h); generalize readUint E1 B1 = RR at HR2 ⊢; obtain ⟨E2, By2, x2⟩ := RR; dsimp only at HR2; rintro e w2 ⟨B2, rfl, hb, hlb, m⟩; unfold refOf; dsimp only; have P2 := Lib.hid (HR2.out B2 hb); have HL2 := Lib.hid (show B2.length ≤ 140737488355328 by have := HL1.out; omega); have g1 := G1.out.nil m; have g2 := g1.setR B2 E2; have G2 := Lib.hid (g2.setF (c' := { op := (3 : Int), client := x1, seq := x2 }) (A' := none) (n' := 0) (k' := 0) 2 (.int .u64 (x2 : Int)) rfl); clear r0 r1 r2 r3 c1 c2 s0 s1 d0; obtain ⟨r0, r1, r2, r3⟩ := g1.rb.two; have c1 := g2.cb.cell 2; simp at c1; have c2 := g2.cb.frozen 2; obtain ⟨s0, s1, -, -⟩ := G2.out.rb.two; have d0 := G2.out.cb.seven.1; dsimp only at d0; clear m g1 g2 hb hlb P1 G1 HL1 HR2)
        | (go_at_call 24; have hq := P2; clear hq; refine Calls.mono (rread_any _ B2 E2 HL2.out) ?_; have HR3 := Lib.hid (fun B1 h => CP.read (B1 := B1) P2.out (by omega) h); generalize readUint E2 B2 = RR at HR3 ⊢; obtain ⟨E3, By3, x3⟩ := RR; dsimp only at HR3; rintro e w3 ⟨B3, rfl, hb, hlb, m⟩; unfold refOf; dsimp only; have P3 := Lib.hid (HR3.out B3 hb); have HL3 := Lib.hid (show B3.length ≤ 140737488355328 by have := HL2.out; omega); have g1 := G2.out.nil m; have g2 := g1.setR B3 E3; have G3 := Lib.hid (g2.setF (c' := { op := (3 : Int), client := x1, seq := x2, pos := x3 }) (A' := none) (n' := 0) (k' := 0) 5 (.int .u64 (x3 : Int)) rfl); clear r0 r1 r2 r3 c1 c2 s0 s1 d0; obtain ⟨r0, r1, r2, r3⟩ := g1.rb.two; have c1 := g2.cb.cell 5; simp at c1; have c2 := g2.cb.frozen 5; obtain ⟨s0, s1, -, -⟩ := G3.out.rb.two; have d0 := G3.out.cb.seven.1; dsimp only at d0; clear m g1 g2 hb hlb P2 G2 HL2 HR3)
        | (go_at_call 28; refine Calls.mono (rend_any _ B3 E3) ?_; obtain ⟨f1, f2⟩ := CP.fin P3.out; rw [f1, HFE.out]; rintro e wE ⟨rfl, m⟩; have HTC : Hid (({ op := (3 : Int), client := x1, seq := x2, pos := x3 } : PC) = T.2.2) := Lib.hid (f2 HFE.out); have GE := Lib.hid (G3.out.nil m); clear r0 r1 r2 r3 c1 c2 s0 s1 d0; obtain ⟨d0, d1, d2, d3, d4, d5, d6⟩ := GE.out.cb.seven; have ME := Lib.hid m; clear f1 f2)
        | (go_at_call 19; refine Calls.mono (HCK.out _ { op := (3 : Int), client := x1, seq := x2, pos := x3 } none 0 0 [] rfl (Rws.nil _)) ?_; rw [HTC.out]; rintro e wC ⟨rfl, m⟩; have GC := Lib.hid (GE.out.nil m); clear d0 d1 d2 d3 d4 d5 d6; obtain ⟨d0, d1, d2, d3, d4, d5, d6⟩ := GC.out.cb.seven; clear m)
        | (refine wpList_store_row rfl _ _ _ rfl rfl w.heap.size rfl _ (CC {} none 0 0) (CC {} none 0 0) rfl GC.out.res rfl (CC_one _ _ _ _) CC_info (CC_cells _ _ _ _) ?_))
      have bF := GC.out.res.setRow (CC {} none 0 0)
      have mF : Mods Nil w (wC.setRow w.heap.size (CC {} none 0 0)) := Mods.setRow GC.out.m (fun h => by omega) _
      obtain ⟨W2, hW2⟩ : ∃ W2, wC.setRow w.heap.size (CC {} none 0 0) = W2 := ⟨_, rfl⟩
      rw [hW2] at bF mF ⊢
      obtain ⟨y0, y1, y2, y3, y4, y5, y6⟩ := bF.seven
      clear hW2
      exact bodyPost_ret (v := .tuple #[.agg (CC {} none 0 0), .int .i64 11]) (by simp [results, Try.results12, go_sem, y0, y1, y2, y3, y4, y5, y6, CC]) rfl ⟨none, 0, 0, rfl, ⟨[], rfl, Rws.nil _⟩, mF⟩
  · rw [if_pos hFE] at HGE
    have hEE := HGE.out
    have hCC := HGC.out
    rw [if_neg (by rw [hEE]; exact hFE)] at hCC
    subst hCC
    obtain ⟨FE, hfe⟩ : ∃ FE, fldsE T = FE := ⟨_, rfl⟩
    rw [hfe] at hEE hFE
    subst hEE
    have HFE := Lib.hid hfe
    have hne2 : (EE != 0) = true := by simp [hFE]
    clear hFE hfe HGE HGC
    go_enter Try.func12, Try.ntmps12
    go_wp2_with (first
      | (go_at_call 24; have hq := P0; clear hq; refine Calls.mono (rread_any _ t (0 : Int) HL0.out) ?_; have HR1 := Lib.hid (fun B1 h => CP.read (B1 := B1) P0.out (by omega) h); generalize readUint (0 : Int) t = RR at HR1 ⊢; obtain ⟨E1, By1, x1⟩ := RR; dsimp only at HR1; rintro e w1 ⟨B1, rfl, hb, hlb, m⟩; unfold refOf; dsimp only; have P1 := Lib.hid (HR1.out B1 hb); have HL1 := Lib.hid (show B1.length ≤ 140737488355328 by have := HL0.out; omega); have g1 := G0.out.nil m; have g2 := g1.setR B1 E1; have G1 := Lib.hid (g2.setF (c' := { op := (3 : Int), client := x1 }) (A' := none) (n' := 0) (k' := 0) 1 (.int .u64 (x1 : Int)) rfl); obtain ⟨r0, r1, r2, r3⟩ := g1.rb.two; have c1 := g2.cb.cell 1; simp at c1; have c2 := g2.cb.frozen 1; obtain ⟨s0, s1, -, -⟩ := G1.out.rb.two; have d0 := G1.out.cb.seven.1; dsimp only at d0; clear m g1 g2 hb hlb P0 G0 HL0 HR1)
      | (go_at_call 24; have hq := P1; clear hq; refine Calls.mono (rread_any _ B1 E1 HL1.out) ?_; have HR2 := Lib.hid (fun B1 h => CP.read (B1 := B1) P1.out (by omega) h); generalize readUint E1 B1 = RR at HR2 ⊢; obtain ⟨E2, By2, x2⟩ := RR; dsimp only at HR2; rintro e w2 ⟨B2, rfl, hb, hlb, m⟩; unfold refOf; dsimp only; have P2 := Lib.hid (HR2.out B2 hb); have HL2 := Lib.hid (show B2.length ≤ 140737488355328 by have := HL1.out; omega); have g1 := G1.out.nil m; have g2 := g1.setR B2 E2; have G2 := Lib.hid (g2.setF (c' := { op := (3 : Int), client := x1, seq := x2 }) (A' := none) (n' := 0) (k' := 0) 2 (.int .u64 (x2 : Int)) rfl); clear r0 r1 r2 r3 c1 c2 s0 s1 d0; obtain ⟨r0, r1, r2, r3⟩ := g1.rb.two; have c1 := g2.cb.cell 2; simp at c1; have c2 := g2.cb.frozen 2; obtain ⟨s0, s1, -, -⟩ := G2.out.rb.two; have d0 := G2.out.cb.seven.1; dsimp only at d0; clear m g1 g2 hb hlb P1 G1 HL1 HR2)
      | (go_at_call 24; have hq := P2; clear hq; refine Calls.mono (rread_any _ B2 E2 HL2.out) ?_; have HR3 := Lib.hid (fun B1 h => CP.read (B1 := B1) P2.out (by omega) h); generalize readUint E2 B2 = RR at HR3 ⊢; obtain ⟨E3, By3, x3⟩ := RR; dsimp only at HR3; rintro e w3 ⟨B3, rfl, hb, hlb, m⟩; unfold refOf; dsimp only; have P3 := Lib.hid (HR3.out B3 hb); have HL3 := Lib.hid (show B3.length ≤ 140737488355328 by have := HL2.out; omega); have g1 := G2.out.nil m; have g2 := g1.setR B3 E3; have G3 := Lib.hid (g2.setF (c' := { op := (3 : Int), client := x1, seq := x2, pos := x3 }) (A' := none) (n' := 0) (k' := 0) 5 (.int .u64 (x3 : Int)) rfl); clear r0 r1 r2 r3 c1 c2 s0 s1 d0; obtain ⟨r0, r1, r2, r3⟩ := g1.rb.two; have c1 := g2.cb.cell 5; simp at c1; have c2 := g2.cb.frozen 5; obtain ⟨s0, s1, -, -⟩ := G3.out.rb.two; have d0 := G3.out.cb.seven.1; dsimp only at d0; clear m g1 g2 hb hlb P2 G2 HL2 HR3)
      | (go_at_call 28; refine Calls.mono (rend_any _ B3 E3) ?_; obtain ⟨f1, f2⟩ := CP.fin P3.out; rw [f1, HFE.out]; rintro e wE ⟨rfl, m⟩; have GE := Lib.hid (G3.out.nil m); clear r0 r1 r2 r3 c1 c2 s0 s1 d0; clear m f1 f2)
      | (refine wpList_store_row rfl _ _ _ rfl rfl w.heap.size rfl _ (CC {} none 0 0) (CC {} none 0 0) rfl GE.out.res rfl (CC_one _ _ _ _) CC_info (CC_cells _ _ _ _) ?_))
    have bF := GE.out.res.setRow (CC {} none 0 0)
    have mF : Mods Nil w (wE.setRow w.heap.size (CC {} none 0 0)) := Mods.setRow GE.out.m (fun h => by omega) _
    obtain ⟨W2, hW2⟩ : ∃ W2, wE.setRow w.heap.size (CC {} none 0 0) = W2 := ⟨_, rfl⟩
    rw [hW2] at bF mF ⊢
    obtain ⟨y0, y1, y2, y3, y4, y5, y6⟩ := bF.seven
    clear hW2
    exact bodyPost_ret (v := .tuple #[.agg (CC {} none 0 0), .int .i64 EE]) (by simp [results, Try.results12, go_sem, y0, y1, y2, y3, y4, y5, y6, CC]) rfl ⟨none, 0, 0, rfl, ⟨[], rfl, Rws.nil _⟩, mF⟩
set_option maxHeartbeats 8000000 in
theorem r10get_4 (w : World) {t : List UInt8} (hl : t.length ≤ 140737488355328) {x : UInt8} (hx : x.toNat = 4) : Calls Try.prog 12 #[.string (strOf (x :: t))] w (GotR w (gC (x :: t)) (gE (x :: t))) := by
  have h4 : x.toNat ≤ 4 := by omega
  have hGT := gT_chain (t := t) h4
  rw [hx] at hGT
  have HOK := Lib.hid (fun h => gT_ok (t := t) h4 h)
  have HGE := Lib.hid (gE_cons (t := t) h4)
  have HGC : Hid (gC (x :: t) = if gE (x :: t) = 0 then (gT (x :: t)).2.2 else {}) := Lib.hid rfl
  generalize gE (x :: t) = EE at HGE HGC ⊢
  generalize gC (x :: t) = C at HGC ⊢
  generalize gT (x :: t) = T at HGE HGC HOK hGT
  have ks := strOf_toList (x :: t)
  have hidx : ∀ h, ((strOf (x :: t))[0]'h).toNat = 4 := fun h => hx
  have hsz : (strOf (x :: t)).size = t.length + 1 := by simp
  have hext : (strOf (x :: t)).extract 1 (t.length + 1) = strOf t := by rw [strOf_extract]; simp
  have P0 : Hid (CP T (ownFrom (4 : Int) 0) 0 t { op := (4 : Int) }) := Lib.hid ⟨fun _ => hGT, fun h => absurd rfl h⟩
  rw [show ownFrom (4 : Int) 0 = [5] by decide] at P0
  have HL0 := Lib.hid hl
  have G0 := Lib.hid (GB.new w (4 : Int) t)
  have HCK := Lib.hid (fun W (c : PC) A n k (L : List RowP) (h1 : c.rows = pws L) (h : Rws W A n k L) => (show Calls Try.prog 19 #[.agg (CC c A n k)] W fun e w' => e = .returned (.int .i64 (chkC c)) ∧ Mods Nil W w' from by have h2 := r10check_any W (op := c.op) (shard := c.shard) (segs := c.segs) (client := c.client) (seq := c.seq) (pos := c.pos) h; rw [← h1] at h2; exact h2))
  clear hGT h4 hl
  by_cases hFE : fldsE T = 0
  · have HFE := Lib.hid hFE
    rw [hFE, if_neg (by simp)] at HGE
    by_cases hc : chkC T.2.2 = 0
    · rw [hc, if_neg (by simp)] at HGE
      have hEE := HGE.out
      have hCC := HGC.out
      rw [hEE] at hCC
      rw [if_pos rfl] at hCC
      subst hEE
      subst hCC
      have HC := Lib.hid hc
      clear hc hFE HGE HGC
      go_enter Try.func12, Try.ntmps12
      go_wp2_with (first
        | (go_at_call 27; have hq := P0; clear hq; refine Calls.mono (r10readRows_any _ t (0 : Int) HL0.out) ?_; have HR1 := Lib.hid (fun B1 l h => CP.rows (B1 := B1) (l := l) P0.out h); generalize allF (0 : Int) t = RR at HR1 ⊢; obtain ⟨E1, By1, lz⟩ := RR; dsimp only at HR1; rintro e w1 ⟨B1, AR, nR, kR, rfl, hb, m⟩; dsimp only at hb ⊢; have hlt := G0.out.rb.lt; have HROW : Hid (E1 = 0 → B1 = By1 ∧ ∃ L, lz = pws L ∧ Rws w1 AR nR kR L ∧ Rfar (w.heap.size + 3) AR L) := Lib.hid (fun h => by obtain ⟨h1, L, h2, h3, h4⟩ := hb h; exact ⟨h1, L, h2, h3, h4.mono (by omega)⟩); have HM := Lib.hid m; clear hb m hlt)
        | (go_at_call 26; refine Calls.mono (r10all_any _ B1 E1 AR nR kR) ?_; rintro e wx ⟨rfl, m⟩; unfold refOf; have P1 := Lib.hid (HR1.out B1 lz (fun h => ⟨(HROW.out h).1, rfl⟩)); have HRX : Hid (E1 = 0 → ∃ L, lz = pws L ∧ Rws (((wx.setCell ⟨w.heap.size + 1 + 1, 0, none⟩ (.string (strOf B1))).setCell ⟨w.heap.size + 1 + 1, 1, none⟩ (.int .i64 E1)).setCell ⟨w.heap.size + 1, 6, none⟩ (.slice AR nR kR)) AR nR kR L ∧ Rfar (w.heap.size + 3) AR L) := Lib.hid (fun h => by obtain ⟨-, L, h1, h2, h3⟩ := HROW.out h; exact ⟨L, h1, Rws.modsB (h2.mods m) h3 (Mods.setCell (S := fun i => i < w.heap.size + 3) (Mods.setCell (S := fun i => i < w.heap.size + 3) (Mods.setCell (S := fun i => i < w.heap.size + 3) (Mods.refl _ wx) (fun _ => by dsimp only; omega) _) (fun _ => by dsimp only; omega) _) (fun _ => by dsimp only; omega) _) (fun i h => h), h3⟩); have g1 := G0.out.nil (HM.out.trans m); have g2 := g1.setR B1 E1; have G1 := Lib.hid (g2.setF (c' := { op := (4 : Int), rows := lz }) (A' := AR) (n' := nR) (k' := kR) 6 (.slice AR nR kR) rfl); obtain ⟨r0, r1, r2, r3⟩ := g1.rb.two; have c1 := g2.cb.cell 6; simp at c1; have c2 := g2.cb.frozen 6; obtain ⟨s0, s1, -, -⟩ := G1.out.rb.two; have d0 := G1.out.cb.seven.1; dsimp only at d0; clear m g1 g2 P0 G0 HR1 HROW HM)
        | (go_at_call 28; refine Calls.mono (rend_any _ B1 E1) ?_; obtain ⟨f1, f2⟩ := CP.fin P1.out; rw [f1, HFE.out]; rintro e wE ⟨rfl, m⟩; have HTC : Hid (({ op := (4 : Int), rows := lz } : PC) = T.2.2) := Lib.hid (f2 HFE.out); have GE := Lib.hid (G1.out.nil m); clear r0 r1 r2 r3 c1 c2 s0 s1 d0; obtain ⟨d0, d1, d2, d3, d4, d5, d6⟩ := GE.out.cb.seven; have ME := Lib.hid m; clear f1 f2; have hE0 : E1 = 0 := Classical.byContradiction (fun hE0 => hE0 ((P1.out.err hE0).symm.trans (fldsE_zero HFE.out))); obtain ⟨L, hL, hR, hF⟩ := HRX.out hE0; have HLL := Lib.hid hL; have HRF := Lib.hid hF; have HRW := Lib.hid (hR.mods m))
        | (go_at_call 19; refine Calls.mono (HCK.out _ { op := (4 : Int), rows := lz } AR nR kR L HLL.out HRW.out) ?_; rw [HTC.out, HC.out]; rintro e wC ⟨rfl, m⟩; have GC := Lib.hid (GE.out.nil m); have HRWC := Lib.hid (HRW.out.mods m); clear d0 d1 d2 d3 d4 d5 d6; obtain ⟨d0, d1, d2, d3, d4, d5, d6⟩ := GC.out.cb.seven; clear m)
        | (refine wpList_store_row rfl _ _ _ rfl rfl w.heap.size rfl _ (CC {} none 0 0) (CC { op := (4 : Int), rows := lz } AR nR kR) rfl GC.out.res rfl (CC_one _ _ _ _) CC_info (CC_cells _ _ _ _) ?_))
      have bF := GC.out.res.setRow (CC { op := (4 : Int), rows := lz } AR nR kR)
      have mF : Mods Nil w (wC.setRow w.heap.size (CC { op := (4 : Int), rows := lz } AR nR kR)) := Mods.setRow GC.out.m (fun h => by omega) _
      have hRF := HRWC.out
      obtain ⟨W2, hW2⟩ : ∃ W2, wC.setRow w.heap.size (CC { op := (4 : Int), rows := lz } AR nR kR) = W2 := ⟨_, rfl⟩
      have hRF2 : Rws W2 AR nR kR L := Rws.modsB hRF HRF.out (by rw [← hW2]; exact Mods.setRow (S := (· = w.heap.size)) (Mods.refl _ _) (fun _ => rfl) _) (fun i h => by omega)
      rw [hW2] at bF mF ⊢
      obtain ⟨y0, y1, y2, y3, y4, y5, y6⟩ := bF.seven
      clear hW2
      rw [← HTC.out]
      exact bodyPost_ret (v := .tuple #[.agg (CC { op := (4 : Int), rows := lz } AR nR kR), .int .i64 0]) (by simp [results, Try.results12, go_sem, y0, y1, y2, y3, y4, y5, y6, CC]) rfl ⟨AR, nR, kR, rfl, ⟨L, HLL.out, hRF2⟩, mF⟩
    · rw [if_pos hc] at HGE
      have hEE := HGE.out
      have hCC := HGC.out
      rw [hEE] at hCC
      rw [if_neg (by simp)] at hCC
      subst hEE
      subst hCC
      have HC := Lib.hid hc
      clear hc hFE HGE HGC
      go_enter Try.func12, Try.ntmps12
      have hckne : (chkC T.2.2 != 0) = true := by simp [HC.out]
      go_wp2_with (first
        | (go_at_call 27; have hq := P0; clear hq; refine Calls.mono (r10readRows_any _ t (0 : Int) HL0.out) ?_; have HR1 := Lib.hid (fun B1 l h => CP.rows (B1 := B1) (l := l) P0.out h); generalize allF (0 : Int) t = RR at HR1 ⊢; obtain ⟨E1, By1, lz⟩ := RR; dsimp only at HR1; rintro e w1 ⟨B1, AR, nR, kR, rfl, hb, m⟩; dsimp only at hb ⊢; have hlt := G0.out.rb.lt; have HROW : Hid (E1 = 0 → B1 = By1 ∧ ∃ L, lz = pws L ∧ Rws w1 AR nR kR L ∧ Rfar (w.heap.size + 3) AR L) := Lib.hid (fun h => by obtain ⟨h1, L, h2, h3, h4⟩ := hb h; exact ⟨h1, L, h2, h3, h4.mono (by omega)⟩); have HM := Lib.hid m; clear hb m hlt)
        | (go_at_call 26; refine Calls.mono (r10all_any _ B1 E1 AR nR kR) ?_; rintro e wx ⟨rfl, m⟩; unfold refOf; have P1 := Lib.hid (HR1.out B1 lz (fun h => ⟨(HROW.out h).1, rfl⟩)); have HRX : Hid (E1 = 0 → ∃ L, lz = pws L ∧ Rws (((wx.setCell ⟨w.heap.size + 1 + 1, 0, none⟩ (.string (strOf B1))).setCell ⟨w.heap.size + 1 + 1, 1, none⟩ (.int .i64 E1)).setCell ⟨w.heap.size + 1, 6, none⟩ (.slice AR nR kR)) AR nR kR L ∧ Rfar (w.heap.size + 3) AR L) := Lib.hid (fun h => by obtain ⟨-, L, h1, h2, h3⟩ := HROW.out h; exact ⟨L, h1, Rws.modsB (h2.mods m) h3 (Mods.setCell (S := fun i => i < w.heap.size + 3) (Mods.setCell (S := fun i => i < w.heap.size + 3) (Mods.setCell (S := fun i => i < w.heap.size + 3) (Mods.refl _ wx) (fun _ => by dsimp only; omega) _) (fun _ => by dsimp only; omega) _) (fun _ => by dsimp only; omega) _) (fun i h => h), h3⟩); have g1 := G0.out.nil (HM.out.trans m); have g2 := g1.setR B1 E1; have G1 := Lib.hid (g2.setF (c' := { op := (4 : Int), rows := lz }) (A' := AR) (n' := nR) (k' := kR) 6 (.slice AR nR kR) rfl); obtain ⟨r0, r1, r2, r3⟩ := g1.rb.two; have c1 := g2.cb.cell 6; simp at c1; have c2 := g2.cb.frozen 6; obtain ⟨s0, s1, -, -⟩ := G1.out.rb.two; have d0 := G1.out.cb.seven.1; dsimp only at d0; clear m g1 g2 P0 G0 HR1 HROW HM)
        | (go_at_call 28; refine Calls.mono (rend_any _ B1 E1) ?_; obtain ⟨f1, f2⟩ := CP.fin P1.out; rw [f1, HFE.out]; rintro e wE ⟨rfl, m⟩; have HTC : Hid (({ op := (4 : Int), rows := lz } : PC) = T.2.2) := Lib.hid (f2 HFE.out); have GE := Lib.hid (G1.out.nil m); clear r0 r1 r2 r3 c1 c2 s0 s1 d0; obtain ⟨d0, d1, d2, d3, d4, d5, d6⟩ := GE.out.cb.seven; have ME := Lib.hid m; clear f1 f2; have hE0 : E1 = 0 := Classical.byContradiction (fun hE0 => hE0 ((P1.out.err hE0).symm.trans (fldsE_zero HFE.out))); obtain ⟨L, hL, hR, hF⟩ := HRX.out hE0; have HLL := Lib.hid hL; have HRF := Lib.hid hF; have HRW := Lib.hid (hR.mods m))
        | (go_at_call 19; refine Calls.mono (HCK.out _ { op := (4 : Int), rows := lz } AR nR kR L HLL.out HRW.out) ?_; rw [HTC.out]; rintro e wC ⟨rfl, m⟩; have GC := Lib.hid (GE.out.nil m); have HRWC := Lib.hid (HRW.out.mods m); clear d0 d1 d2 d3 d4 d5 d6; obtain ⟨d0, d1, d2, d3, d4, d5, d6⟩ := GC.out.cb.seven; clear m)
        | (refine wpList_store_row rfl _ _ _ rfl rfl w.heap.size rfl _ (CC {} none 0 0) (CC {} none 0 0) rfl GC.out.res rfl (CC_one _ _ _ _) CC_info (CC_cells _ _ _ _) ?_))
      have bF := GC.out.res.setRow (CC {} none 0 0)
      have mF : Mods Nil w (wC.setRow w.heap.size (CC {} none 0 0)) := Mods.setRow GC.out.m (fun h => by omega) _
      obtain ⟨W2, hW2⟩ : ∃ W2, wC.setRow w.heap.size (CC {} none 0 0) = W2 := ⟨_, rfl⟩
      rw [hW2] at bF mF ⊢
      obtain ⟨y0, y1, y2, y3, y4, y5, y6⟩ := bF.seven
      clear hW2
      exact bodyPost_ret (v := .tuple #[.agg (CC {} none 0 0), .int .i64 11]) (by simp [results, Try.results12, go_sem, y0, y1, y2, y3, y4, y5, y6, CC]) rfl ⟨none, 0, 0, rfl, ⟨[], rfl, Rws.nil _⟩, mF⟩
  · rw [if_pos hFE] at HGE
    have hEE := HGE.out
    have hCC := HGC.out
    rw [if_neg (by rw [hEE]; exact hFE)] at hCC
    subst hCC
    obtain ⟨FE, hfe⟩ : ∃ FE, fldsE T = FE := ⟨_, rfl⟩
    rw [hfe] at hEE hFE
    subst hEE
    have HFE := Lib.hid hfe
    have hne2 : (EE != 0) = true := by simp [hFE]
    clear hFE hfe HGE HGC
    go_enter Try.func12, Try.ntmps12
    go_wp2_with (first
      | (go_at_call 27; have hq := P0; clear hq; refine Calls.mono (r10readRows_any _ t (0 : Int) HL0.out) ?_; have HR1 := Lib.hid (fun B1 l h => CP.rows (B1 := B1) (l := l) P0.out h); generalize allF (0 : Int) t = RR at HR1 ⊢; obtain ⟨E1, By1, lz⟩ := RR; dsimp only at HR1; rintro e w1 ⟨B1, AR, nR, kR, rfl, hb, m⟩; dsimp only at hb ⊢; have hlt := G0.out.rb.lt; have HROW : Hid (E1 = 0 → B1 = By1 ∧ ∃ L, lz = pws L ∧ Rws w1 AR nR kR L ∧ Rfar (w.heap.size + 3) AR L) := Lib.hid (fun h => by obtain ⟨h1, L, h2, h3, h4⟩ := hb h; exact ⟨h1, L, h2, h3, h4.mono (by omega)⟩); have HM := Lib.hid m; clear hb m hlt)
      | (go_at_call 26; refine Calls.mono (r10all_any _ B1 E1 AR nR kR) ?_; rintro e wx ⟨rfl, m⟩; unfold refOf; have P1 := Lib.hid (HR1.out B1 lz (fun h => ⟨(HROW.out h).1, rfl⟩)); have HRX : Hid (E1 = 0 → ∃ L, lz = pws L ∧ Rws (((wx.setCell ⟨w.heap.size + 1 + 1, 0, none⟩ (.string (strOf B1))).setCell ⟨w.heap.size + 1 + 1, 1, none⟩ (.int .i64 E1)).setCell ⟨w.heap.size + 1, 6, none⟩ (.slice AR nR kR)) AR nR kR L ∧ Rfar (w.heap.size + 3) AR L) := Lib.hid (fun h => by obtain ⟨-, L, h1, h2, h3⟩ := HROW.out h; exact ⟨L, h1, Rws.modsB (h2.mods m) h3 (Mods.setCell (S := fun i => i < w.heap.size + 3) (Mods.setCell (S := fun i => i < w.heap.size + 3) (Mods.setCell (S := fun i => i < w.heap.size + 3) (Mods.refl _ wx) (fun _ => by dsimp only; omega) _) (fun _ => by dsimp only; omega) _) (fun _ => by dsimp only; omega) _) (fun i h => h), h3⟩); have g1 := G0.out.nil (HM.out.trans m); have g2 := g1.setR B1 E1; have G1 := Lib.hid (g2.setF (c' := { op := (4 : Int), rows := lz }) (A' := AR) (n' := nR) (k' := kR) 6 (.slice AR nR kR) rfl); obtain ⟨r0, r1, r2, r3⟩ := g1.rb.two; have c1 := g2.cb.cell 6; simp at c1; have c2 := g2.cb.frozen 6; obtain ⟨s0, s1, -, -⟩ := G1.out.rb.two; have d0 := G1.out.cb.seven.1; dsimp only at d0; clear m g1 g2 P0 G0 HR1 HROW HM)
      | (go_at_call 28; refine Calls.mono (rend_any _ B1 E1) ?_; obtain ⟨f1, f2⟩ := CP.fin P1.out; rw [f1, HFE.out]; rintro e wE ⟨rfl, m⟩; have GE := Lib.hid (G1.out.nil m); clear r0 r1 r2 r3 c1 c2 s0 s1 d0; clear m f1 f2)
      | (refine wpList_store_row rfl _ _ _ rfl rfl w.heap.size rfl _ (CC {} none 0 0) (CC {} none 0 0) rfl GE.out.res rfl (CC_one _ _ _ _) CC_info (CC_cells _ _ _ _) ?_))
    have bF := GE.out.res.setRow (CC {} none 0 0)
    have mF : Mods Nil w (wE.setRow w.heap.size (CC {} none 0 0)) := Mods.setRow GE.out.m (fun h => by omega) _
    obtain ⟨W2, hW2⟩ : ∃ W2, wE.setRow w.heap.size (CC {} none 0 0) = W2 := ⟨_, rfl⟩
    rw [hW2] at bF mF ⊢
    obtain ⟨y0, y1, y2, y3, y4, y5, y6⟩ := bF.seven
    clear hW2
    exact bodyPost_ret (v := .tuple #[.agg (CC {} none 0 0), .int .i64 EE]) (by simp [results, Try.results12, go_sem, y0, y1, y2, y3, y4, y5, y6, CC]) rfl ⟨none, 0, 0, rfl, ⟨[], rfl, Rws.nil _⟩, mF⟩
set_option maxHeartbeats 8000000 in
theorem r10get_nil (w : World) : Calls Try.prog 12 #[.string (strOf [])] w (GotR w {} 10) := by
  have ks := strOf_toList []
  have B0 := Lib.hid (Blk.new w 33 (CC {} none 0 0))
  go_enter Try.func12, Try.ntmps12
  go_wp2_with (refine wpList_store_row rfl _ _ _ rfl rfl w.heap.size rfl _ (CC {} none 0 0) (CC {} none 0 0) rfl B0.out rfl (CC_one _ _ _ _) CC_info (CC_cells _ _ _ _) ?_)
  have bF := B0.out.setRow (CC {} none 0 0)
  have mF : Mods Nil w ((w.alloc (.cells (CC {} none 0 0) 33)).setRow w.heap.size (CC {} none 0 0)) := Mods.setRow ((Mods.refl _ _).alloc _) (fun h => by omega) _
  generalize hW2 : World.setRow _ _ _ = W2
  replace bF : Blk W2 w.heap.size 33 (CC {} none 0 0) := by rw [← hW2]; exact bF
  replace mF : Mods Nil w W2 := by rw [← hW2]; exact mF
  obtain ⟨y0, y1, y2, y3, y4, y5, y6⟩ := bF.seven
  clear hW2
  exact bodyPost_ret (v := .tuple #[.agg (CC {} none 0 0), .int .i64 10]) (by simp [results, Try.results12, go_sem, y0, y1, y2, y3, y4, y5, y6, CC]) rfl ⟨none, 0, 0, rfl, ⟨[], rfl, Rws.nil _⟩, mF⟩
set_option maxHeartbeats 8000000 in
theorem r10get_big (w : World) {x : UInt8} {t : List UInt8} (h4 : 4 < x.toNat) : Calls Try.prog 12 #[.string (strOf (x :: t))] w (GotR w {} 11) := by
  have ks := strOf_toList (x :: t)
  have hx256 := x.toNat_lt
  obtain ⟨X, hX⟩ : ∃ X, x.toNat = X := ⟨_, rfl⟩
  have hidx : ∀ h, ((strOf (x :: t))[0]'h).toNat = X := fun h => hX
  have hsz : (strOf (x :: t)).size = t.length + 1 := by simp
  have hwx : IntKind.i64.wrap ((X : Nat) : Int) = ((X : Nat) : Int) := IntWalk.i64_in _ (by omega)
  have h4I : (4 : Int) < ((X : Nat) : Int) := by omega
  have hX2 : X < 256 := by omega
  have B0 := Lib.hid ((Blk.new w 33 (CC {} none 0 0)).alloc (.cells (CC { op := (X : Int) } none 0 0) 33))
  clear hX h4 hx256
  go_enter Try.func12, Try.ntmps12
  go_wp2_with (refine wpList_store_row rfl _ _ _ rfl rfl w.heap.size rfl _ (CC {} none 0 0) (CC {} none 0 0) rfl B0.out rfl (CC_one _ _ _ _) CC_info (CC_cells _ _ _ _) ?_)
  have bF := B0.out.setRow (CC {} none 0 0)
  have mF : Mods Nil w (((w.alloc (.cells (CC {} none 0 0) 33)).alloc (.cells (CC { op := (X : Int) } none 0 0) 33)).setRow w.heap.size (CC {} none 0 0)) := Mods.setRow (((Mods.refl _ _).alloc _).alloc _) (fun h => by omega) _
  generalize hW2 : World.setRow _ _ _ = W2
  replace bF : Blk W2 w.heap.size 33 (CC {} none 0 0) := by rw [← hW2]; exact bF
  replace mF : Mods Nil w W2 := by rw [← hW2]; exact mF
  obtain ⟨y0, y1, y2, y3, y4, y5, y6⟩ := bF.seven
  clear hW2
  exact bodyPost_ret (v := .tuple #[.agg (CC {} none 0 0), .int .i64 11]) (by simp [results, Try.results12, go_sem, y0, y1, y2, y3, y4, y5, y6, CC]) rfl ⟨none, 0, 0, rfl, ⟨[], rfl, Rws.nil _⟩, mF⟩
theorem r10get_any (w : World) {xs : List UInt8} (hl : xs.length ≤ 140737488355328) : Calls Try.prog 12 #[.string (strOf xs)] w (GotR w (gC xs) (gE xs)) := by
  cases xs with
  | nil =>
    have h1 : gE [] = 10 := rfl
    rw [gC_bad (by rw [h1]; simp), h1]
    exact r10get_nil w
  | cons x t =>
    have hl' : t.length ≤ 140737488355328 := by simp at hl; omega
    by_cases h4 : 4 < x.toNat
    · have h1 := get_op (xs := t) h4
      rw [gC_bad (by rw [h1]; simp), h1]
      exact r10get_big w h4
    · obtain h | h | h | h | h : x.toNat = 0 ∨ x.toNat = 1 ∨ x.toNat = 2 ∨ x.toNat = 3 ∨ x.toNat = 4 := by omega
      · exact r10get_0 w hl' h
      · exact r10get_1 w hl' h
      · exact r10get_2 w hl' h
      · exact r10get_3 w hl' h
      · exact r10get_4 w hl' h
end Go.Proofs.Ytcncgjiaefjmhaa
