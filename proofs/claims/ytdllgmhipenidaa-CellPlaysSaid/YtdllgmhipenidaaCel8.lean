/- Package cell: Set. -/
import Derived.Test.YtdllgmhipenidaaCel7
namespace Go.Proofs.Ytdllgmhipenidaa
set_option maxRecDepth 100000
open Go.RowKit
set_option linter.unusedVariables false

theorem setCells_blk {g : Nat} {t : TypeId} : ∀ (vs : List Value) (o : Nat) (w : World) (cs : List Value), Blk w g t cs.toArray → o + vs.length ≤ cs.length → Blk (w.setCells g o vs) g t (cs.take o ++ vs ++ cs.drop (o + vs.length)).toArray
  | [], o, w, cs, h, _ => by simpa [World.setCells] using h
  | u :: r, o, w, cs, h, hl => by
    have h1 := h.set_ o u
    have e : cs.toArray.setIfInBounds o u = (cs.set o u).toArray := by simp
    rw [e] at h1
    have := setCells_blk r (o + 1) (w.setCell ⟨g, o, none⟩ u) (cs.set o u) h1 (by simp at hl ⊢; omega)
    rw [set_splice cs o u r (by simpa using hl)] at this
    exact this
theorem blk_there {w : World} {g : Nat} {t : TypeId} {cs : Array Value} (h : Blk w g t cs) {o n : Nat} (hn : o + n ≤ cs.size) : w.there g o n := fun j hj => by
  refine ⟨?_, h.frozen _⟩
  rw [h.cell, Array.getElem?_eq_getElem (by omega)]
  rfl
section
variable {w : World} {base cb db : Nat} {c : PCell} {d : PD}
theorem cellC_setErr (e : Int) (h : c.told.length = 64) : (cellC db c).set 75 (.int .i64 e) = cellC db (c.fail e) := by
  have e1 : cellC db c = (([.pointer (some ⟨db, 0, none⟩), .int .i64 (c.at_ : Int), .int .i64 (c.spare : Int)] : List Value) ++ bts c.told ++ bts (eight c.great)) ++ [.int .i64 c.err] := rfl
  have hl : (([.pointer (some ⟨db, 0, none⟩), .int .i64 (c.at_ : Int), .int .i64 (c.spare : Int)] : List Value) ++ bts c.told ++ bts (eight c.great)).length = 75 := by simp [h, eight_length]
  rw [e1, List.set_append_right _ _ (by omega), hl]
  rfl
theorem CellIn.setErr (h : CellIn w base cb db c) {e : Int} (he : -1000 ≤ e ∧ e ≤ 1000) : CellIn (w.setCell ⟨cb, 75, none⟩ (.int .i64 e)) base cb db (c.fail e) ∧ Mods (fun k => k = cb) w (w.setCell ⟨cb, 75, none⟩ (.int .i64 e)) := by
  have hm : Mods (fun k => k = cb) w (w.setCell ⟨cb, 75, none⟩ (.int .i64 e)) := Mods.setCell (S := fun k => k = cb) (p := ⟨cb, 75, none⟩) (Mods.refl _ _) (fun _ => rfl) _
  refine ⟨⟨?_, h.le, h.ok.fail he⟩, hm⟩
  have := h.blk.set_ 75 (.int .i64 e)
  have e1 : (cellC db c).toArray.setIfInBounds 75 (.int .i64 e) = ((cellC db c).set 75 (.int .i64 e)).toArray := by simp
  rw [e1, cellC_setErr e h.ok.len] at this
  exact this
theorem cellC_tell (b : List UInt8) (t spare : Nat) (h : c.told.length = 64) (hb : b.length = 64) :
    ((((cellC db c).take 3 ++ bts b ++ (cellC db c).drop (3 + (bts b).length)).set 2 (.int .i64 (spare : Int))).take 67 ++ bts (eight t) ++ (((cellC db c).take 3 ++ bts b ++ (cellC db c).drop (3 + (bts b).length)).set 2 (.int .i64 (spare : Int))).drop (67 + (bts (eight t)).length)) =
      cellC db { c with told := b, spare := spare, great := t } := by
  have hl3 : (bts c.told).length = 64 := by simp [h]
  have hb3 : (bts b).length = 64 := by simp [hb]
  have e1 : (cellC db c).take 3 ++ bts b ++ (cellC db c).drop (3 + (bts b).length) = [.pointer (some ⟨db, 0, none⟩), .int .i64 (c.at_ : Int), .int .i64 (c.spare : Int)] ++ (bts b ++ (bts (eight c.great) ++ [.int .i64 c.err])) := by
    rw [cellC_split, hb3, List.take_left' (by rfl), show 3 + 64 = ([.pointer (some ⟨db, 0, none⟩), .int .i64 (c.at_ : Int), .int .i64 (c.spare : Int)] : List Value).length + 64 by rfl, List.drop_length_add_append, ← hl3, List.drop_left' rfl, List.append_assoc]
  have e2 : (([.pointer (some ⟨db, 0, none⟩), .int .i64 (c.at_ : Int), .int .i64 (c.spare : Int)] : List Value) ++ (bts b ++ (bts (eight c.great) ++ ([.int .i64 c.err] : List Value)))).set 2 (.int .i64 (spare : Int)) = (([.pointer (some ⟨db, 0, none⟩), .int .i64 (c.at_ : Int), .int .i64 (spare : Int)] : List Value) ++ bts b) ++ (bts (eight c.great) ++ [.int .i64 c.err]) := by simp
  have h67 : (([.pointer (some ⟨db, 0, none⟩), .int .i64 (c.at_ : Int), .int .i64 (spare : Int)] : List Value) ++ bts b).length = 67 := by simp [hb]
  have h8 : (bts (eight t)).length = 8 := by simp [eight_length]
  have h8' : (bts (eight c.great)).length = 8 := by simp [eight_length]
  rw [e1, e2, List.take_left' h67, h8, ← h67, List.drop_length_add_append, ← h8', List.drop_left' rfl]
  simp [cellC]
/-- What a call that tells leaves. -/
theorem CellIn.tellW (h : CellIn w base cb db c) {b : List UInt8} (hb : b.length = 64) {t spare : Nat} {W : World} (hW : W = (((w.setCells cb 3 (bts b)).setCell ⟨cb, 2, none⟩ (.int .i64 (spare : Int))).setCells cb 67 (bts (eight t)))) (hok : ({ c with told := b, spare := spare, great := t } : PCell).Ok) :
    CellIn W base cb db { c with told := b, spare := spare, great := t } ∧ Mods (fun k => k = cb) w W := by
  subst hW
  have hl := cellC_length (db := db) h.ok.len
  have b1 := setCells_blk (bts b) 3 w (cellC db c) h.blk (by rw [hl, bts_length]; omega)
  have b2 := b1.set_ 2 (.int .i64 (spare : Int))
  have e : ((cellC db c).take 3 ++ bts b ++ (cellC db c).drop (3 + (bts b).length)).toArray.setIfInBounds 2 (.int .i64 (spare : Int)) = (((cellC db c).take 3 ++ bts b ++ (cellC db c).drop (3 + (bts b).length)).set 2 (.int .i64 (spare : Int))).toArray := by simp
  rw [e] at b2
  have b3 := setCells_blk (bts (eight t)) 67 _ _ b2 (by rw [List.length_set, splice_length (by rw [hl, bts_length]; omega), hl, bts_length, eight_length]; omega)
  rw [cellC_tell b t spare h.ok.len hb] at b3
  exact ⟨⟨b3, h.le, hok⟩, ((setCells_mods (bts b) 3 w).trans (Mods.setCell (S := fun k => k = cb) (p := ⟨cb, 2, none⟩) (Mods.refl _ _) (fun _ => rfl) _)).trans (setCells_mods (bts (eight t)) 67 _)⟩
theorem PD.write_err (d : PD) (i : Int) (b : List UInt8) : -1000 ≤ (d.write i b).2 ∧ (d.write i b).2 ≤ 1000 := by
  have h2 : -1000 ≤ d.count.2 ∧ d.count.2 ≤ 1000 := by unfold PD.count; split <;> simp
  have h3 : -1000 ≤ d.at_ i ∧ d.at_ i ≤ 1000 := by unfold PD.at_; split <;> (try split) <;> simp
  unfold PD.write
  split
  · exact h3
  · split
    · simp
    · split
      · exact h2
      · simp
theorem PD.sync_errC (d : PD) : -1000 ≤ d.sync.2 ∧ d.sync.2 ≤ 1000 := by
  have h2 : -1000 ≤ d.count.2 ∧ d.count.2 ≤ 1000 := by unfold PD.count; split <;> simp
  unfold PD.sync
  split
  · simp
  · split
    · exact h2
    · simp
theorem PCell.put_err (c : PCell) (d : PD) (b : List UInt8) : -1000 ≤ (c.put d b).2 ∧ (c.put d b).2 ≤ 1000 := by
  unfold PCell.put
  split
  · exact d.write_err _ _
  · exact PD.sync_errC _
theorem cset_big (h : CellAt w base cb db d c) {A : Option Addr} {cc n : Nat} (hn : 43 < n) : Calls Try.prog 36 #[.pointer (some ⟨cb, 0, none⟩), .slice A n cc] w fun e w' => e = .returned (.int .i64 13) ∧ w = w' := by
  have hI : (43 : Int) < (n : Int) := by omega
  clear h hn
  go_enter Try.func36, Try.ntmps36
  go_wp2
  go_ret
  exact ⟨rfl, rfl⟩
theorem cset_err (h : CellIn w base cb db c) {A : Option Addr} {cc n : Nat} (hn : n ≤ 43) {er : Int} (her : c.err = er) (hz : er ≠ 0) : Calls Try.prog 36 #[.pointer (some ⟨cb, 0, none⟩), .slice A n cc] w fun e w' => e = .returned (.int .i64 er) ∧ w = w' := by
  have hI : (n : Int) ≤ 43 := by omega
  have c75 := h.cells.2.2.2
  rw [her] at c75
  have hzB : (er != 0) = true := by simpa using hz
  clear h hn her hz
  go_enter Try.func36, Try.ntmps36
  go_wp2
  go_ret
  exact ⟨rfl, rfl⟩
theorem build_turn0 {a : Act} : Try.prog.built 144 ((#[] : Array (Nat × Operand)).map fun (i, x) => (i, a.eval x)).toList = some (bts (eight 0)).toArray := by rw [Array.map_empty]; kernel_rfl
set_option maxHeartbeats 3200000 in
theorem cset_worn (h : CellIn w base cb db c) {A : Option Addr} {cc n : Nat} (hn : n ≤ 43) (her : c.err = 0) (hg : c.great + 1 = 18446744073709551616) : Calls Try.prog 36 #[.pointer (some ⟨cb, 0, none⟩), .slice A n cc] w fun e w' => e = .returned (.int .i64 37) ∧ Mods Nil w w' := by
  have hI : (n : Int) ≤ 43 := by omega
  have c75 := h.cells.2.2.2
  rw [her] at c75
  have HG := Lib.hid h.great
  have hlt : c.great < 18446744073709551616 := by omega
  have HNX := Lib.hid (fun W => cnext_any W hlt)
  rw [hg, Nat.mod_self] at HNX
  obtain ⟨g, hgg⟩ : ∃ g, c.great = g := ⟨_, rfl⟩
  rw [hgg] at HG HNX
  have heq := fun V => run_equal_turns V (x := 0) (y := 0) (by omega) (by omega)
  rw [decide_eq_true rfl] at heq
  clear h hn her hg hlt hgg
  go_enter Try.func36, Try.ntmps36
  go_wp2_with (first
    | (refine gw_alloc_of run_alloc_ct rfl rfl ?_; intro W2 b9 m9 s9; have B2 := Lib.hid b9; have M2 := Lib.hid (M1.out.trans m9); have S2 := Lib.hid (show w.heap.size ≤ W1.heap.size from M1.out.size); clear b9 m9 s9)
    | (refine gw_load_mid (by rfl) 144 _ rfl W1.heap.size 0 rfl (bts (eight 0)) _ (blkL_range B3.out) Try.underlying144 rfl (infoCTl 0) ?_)
    | (refine gw_load_mid (by rfl) 144 _ rfl cb 67 rfl (bts (eight g)) _ HG.out Try.underlying144 rfl (infoCTl g) ?_)
    | (go_at_call 96; refine (HNX.out _).mono ?_; rintro e W1 ⟨rfl, m9⟩; have M1 := Lib.hid m9; clear m9)
    | (refine wpList_store_mk rfl 144 (.tmp 5) (.tmp 25) rfl rfl W1.heap.size rfl 144 (bts (eight 0)).toArray (bts (eight 0)).toArray rfl B2.out rfl (btsA_all _) (infoCTa 0) rfl ?_; intro W3 b9 m9; have B3 := Lib.hid b9; have M3 := Lib.hid (M2.out.nil_trans m9 (fun i hi => by have := S2.out; omega)); clear b9 m9)
    | (refine wpList_build_at rfl 144 #[] rfl (bts (eight 0)).toArray build_turn0 ?_))
  go_ret
  exact ⟨rfl, M3.out⟩
end
end Go.Proofs.Ytdllgmhipenidaa
