/- MsgUnlike's walk: all together. -/
import Derived.Test.YtlheaicojmjdpaaDoorMsgUnlikeB
namespace Go.Proofs.YtlheaicojmjdpaaDoor
set_option maxRecDepth 100000
open Go.RowKit
set_option linter.unusedVariables false

theorem putTo {a : PM} {La : Loc} (ho : a.ok) {E : Int} (hc : chk a = E) : Hid (PutTo a La (pOut a) (pOut a).length E) := by
  intro W h1 h2
  have := mput_all ho h1 h2
  rw [hc] at this
  exact this
theorem outs_eq {a b : PM} (ha : a.ok) (hb : b.ok) (ca : chk a = 0) (cb : chk b = 0) : pOut a = pOut b ↔ a = b := by
  have ga := chk_zero.1 ca
  have gb := chk_zero.1 cb
  unfold pOut
  rw [if_pos ca, if_pos cb]
  exact ⟨fun h => put_inj ha ga hb gb h, fun h => by rw [h]⟩
theorem msgUnlike_walk (w : World) (hT : Tab w) {a : PM} {La : Loc} (hia : In w a La) (hoka : a.vec.length ≤ 140737488355328 → a.body.length ≤ 140737488355328 → a.ok)
    {b : PM} {Lb : Loc} (hib : In w b Lb) (hokb : b.vec.length ≤ 140737488355328 → b.body.length ≤ 140737488355328 → b.ok) (same : Bool) :
    Calls Tryd.prog 8 #[.agg (MC a La), .agg (MC b Lb), .bool same] w fun e w' => e = .returned (.bool true) ∧ Mods Nil w w' := by
  have P0 := Lib.hid (two4 hT hia hib)
  by_cases h1 : 50 < a.vec.length
  · exact msgUnlike_big1 P0 same (by omega)
  by_cases h2 : 200 < a.body.length
  · exact msgUnlike_big2 P0 same (by omega) (by omega)
  by_cases h3 : 50 < b.vec.length
  · exact msgUnlike_big3 P0 same (by omega) (by omega) (by omega)
  by_cases h4 : 200 < b.body.length
  · exact msgUnlike_big4 P0 same (by omega) (by omega) (by omega) (by omega)
  have oa := hoka (by omega) (by omega)
  have ob := hokb (by omega) (by omega)
  have hb1 : (a.vec.length : Int) ≤ 50 := by omega
  have hb2 : (a.body.length : Int) ≤ 200 := by omega
  have hb3 : (b.vec.length : Int) ≤ 50 := by omega
  have hb4 : (b.body.length : Int) ≤ 200 := by omega
  cases same with
  | true =>
    rcases chk_kinds a with ca | ca
    · refine msgUnlike_same_00 (r := true) P0 hb1 hb2 hb3 hb4 (Lib.hid rfl) (Lib.hid rfl) (putTo oa ca) (putTo oa ca) ?_ (by simp) (by simp) (strOf_toList _) (strOf_toList _)
      obtain ⟨r, hr, h⟩ := rsame_all a a
      obtain rfl : r = true := hr.2 rfl
      exact h
    · exact msgUnlike_same_11 P0 hb1 hb2 hb3 hb4 (Lib.hid rfl) (Lib.hid rfl) (putTo oa ca) (putTo oa ca)
  | false =>
    rcases chk_kinds a with ca | ca
    · rcases chk_kinds b with cb | cb
      · obtain ⟨r, hr, h⟩ := rsame_all a b
        have hq : pOut a = pOut b ↔ r = true := (outs_eq oa ob ca cb).trans hr.symm
        refine msgUnlike_two_00 (r := r) P0 hb1 hb2 hb3 hb4 (Lib.hid rfl) (Lib.hid rfl) (putTo oa ca) (putTo ob cb) h (Bool.eq_iff_iff.2 (by rw [beq_iff_eq]; exact hq)) (Bool.eq_iff_iff.2 (by rw [decide_eq_true_eq]; exact hq)) (strOf_toList _) (strOf_toList _)
      · exact msgUnlike_two_01 P0 hb1 hb2 hb3 hb4 (Lib.hid rfl) (Lib.hid rfl) (putTo oa ca) (putTo ob cb)
    · rcases chk_kinds b with cb | cb
      · exact msgUnlike_two_10 P0 hb1 hb2 hb3 hb4 (Lib.hid rfl) (Lib.hid rfl) (putTo oa ca) (putTo ob cb)
      · exact msgUnlike_two_11 P0 hb1 hb2 hb3 hb4 (Lib.hid rfl) (Lib.hid rfl) (putTo oa ca) (putTo ob cb)
end Go.Proofs.YtlheaicojmjdpaaDoor
