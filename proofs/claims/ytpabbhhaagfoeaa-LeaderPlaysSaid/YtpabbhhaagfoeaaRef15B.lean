/- Texts laid as one: Ref15e, Ref15f, Ref15g, Ref15h. -/
import Derived.Test.YtpabbhhaagfoeaaRef15A
import Derived.Test.YtpabbhhaagfoeaaArrM

section
/- The reference of layer 15: Accepted, heard. -/
namespace Go.Proofs.Ytpabbhhaagfoeaa
set_option maxRecDepth 100000
open Go.RowKit
set_option linter.unusedVariables false
set_option linter.unusedSimpArgs false
theorem voteO_far {many node s : Nat} {x : POp} (h : x.v.slot ≠ s) : voteO many node s x = some x := if_pos h
theorem voteO_won {many node s : Nat} {x : POp} (h : x.v.slot = s) (h2 : many / 2 < (addW x.who node).length) : voteO many node s x = none := by
  unfold voteO
  rw [if_neg (fun k => k h), if_pos h2]
theorem voteO_more {many node s : Nat} {x : POp} (h : x.v.slot = s) (h2 : ¬ many / 2 < (addW x.who node).length) : voteO many node s x = some ⟨x.v, addW x.who node⟩ := by
  unfold voteO
  rw [if_neg (fun k => k h), if_neg h2]
/-- Where Accepted is, behind i of the row. -/
structure AcAt (w w1 wr : World) (l : PLd) (L : List ROp) (nd s i : Nat) (v z : Value) (Lo : List ROp) : Prop where
  own : wr.ownsRow (w.heap.size + 4) 99 4 v Lo.length (opCs Lo)
  val : Lo.map ROp.o = (l.opn.take i).filterMap (voteO l.many nd s)
  who : ∀ x ∈ Lo, RNs wr x.A x.c x.o.who.length x.o.who ∧ ∀ a, x.A = some a → (∃ y ∈ L, y.A = some a) ∨ w.heap.size + 4 ≤ a.block
  is_ : z = .bool (chosenO l.many nd s (l.opn.take i)).isSome
  box : Blk wr (w.heap.size + 1 + 1 + 1) 53 #[.int .u64 ((orZ (chosenO l.many nd s (l.opn.take i))).slot : Int), .int .u64 ((orZ (chosenO l.many nd s (l.opn.take i))).bal : Int), .string (strOf (orZ (chosenO l.many nd s (l.opn.take i))).val)]
  mods : Mods (fun k => k = w.heap.size + 1 + 1 + 1) w1 wr
  nil : Mods Nil w wr
theorem AcAt.len {w w1 wr : World} {l : PLd} {L : List ROp} {nd s i : Nat} {v z : Value} {Lo : List ROp} (h : AcAt w w1 wr l L nd s i v z Lo) : Lo.length ≤ i := by
  have h1 : Lo.length = ((l.opn.take i).filterMap (voteO l.many nd s)).length := by rw [← h.val, List.length_map]
  have h2 := List.length_filterMap_le (voteO l.many nd s) (l.opn.take i)
  have h3 : (l.opn.take i).length ≤ i := by rw [List.length_take]; omega
  omega
/-- Nothing of it moves while blocks that are no one's of it change. -/
theorem AcAt.nilm {w w1 wr W : World} {l : PLd} {L : List ROp} {nd s i : Nat} {v z : Value} {Lo : List ROp} (h : AcAt w w1 wr l L nd s i v z Lo) (hm : Mods Nil wr W) : AcAt w w1 W l L nd s i v z Lo :=
  ⟨own_mods h.own hm (fun _ _ h => h), h.val, fun x hx => ⟨(h.who x hx).1.nil hm, (h.who x hx).2⟩, h.is_, h.box.mods hm (fun h => h), h.mods.trans (hm.mono (fun _ _ h => h.elim)), h.nil.trans hm⟩
/-- One more of the row is kept. -/
theorem AcAt.push {w w1 wr W : World} {l : PLd} {L : List ROp} {nd s i : Nat} {v v' z : Value} {Lo : List ROp} (h : AcAt w w1 wr l L nd s i v z Lo) (hw1 : w1.heap.size = w.heap.size + 4) {x : POp} (hx : l.opn[i]? = some x) {y : ROp}
    (hy : voteO l.many nd s x = some y.o) (hc : ¬ (x.v.slot = s ∧ l.many / 2 < (addW x.who nd).length)) (hW : RNs wr y.A y.c y.o.who.length y.o.who) (hA : ∀ a, y.A = some a → (∃ y ∈ L, y.A = some a) ∨ w.heap.size + 4 ≤ a.block)
    (ho : W.ownsRow (w.heap.size + 4) 99 4 v' (Lo.length + 1) (opCs (Lo ++ [y]))) (hm : Mods (fun k => v.ownBlock = some k) wr W) : AcAt w w1 W l L nd s (i + 1) v' z (Lo ++ [y]) := by
  have hsn : l.opn.take (i + 1) = l.opn.take i ++ [x] := by rw [List.take_add_one, hx]; rfl
  have hch : chosenO l.many nd s (l.opn.take (i + 1)) = chosenO l.many nd s (l.opn.take i) := by rw [hsn, chosenO_snoc, if_neg hc]
  have hwho : ∀ {A : Option Addr} {c n : Nat} {q : List Nat}, RNs wr A c n q → RNs W A c n q := fun r => r.mods hm (fun a ha e => by obtain ⟨cs, hb⟩ := r.ty a ha; exact own_blk_ne h.own hb (by decide) e)
  refine ⟨by rw [List.length_append]; exact ho, ?_, fun q hq => ?_, by rw [hch]; exact h.is_, by rw [hch]; exact h.box.mods hm (fun e => own_blk_ne h.own h.box (by decide) e), h.mods.trans2 hm (fun k hk e => ?_), h.nil.trans2 hm (fun k hk e => ?_)⟩
  · rw [hsn, List.filterMap_append, ← h.val]
    simp [hy]
  · rcases List.mem_append.1 hq with hq | hq
    · exact ⟨hwho (h.who q hq).1, (h.who q hq).2⟩
    · obtain rfl : q = y := by simpa using hq
      exact ⟨hwho hW, hA⟩
  · have := (h.own.lt k e).1
    omega
  · have := (h.own.lt k e).1
    omega
/-- One of the row is chosen. -/
theorem AcAt.won {w w1 wr W : World} {l : PLd} {L : List ROp} {nd s i : Nat} {v z : Value} {Lo : List ROp} (h : AcAt w w1 wr l L nd s i v z Lo) {x : POp} (hx : l.opn[i]? = some x)
    (hs : x.v.slot = s) (hq : l.many / 2 < (addW x.who nd).length) (hb : Blk W (w.heap.size + 1 + 1 + 1) 53 #[.int .u64 (x.v.slot : Int), .int .u64 (x.v.bal : Int), .string (strOf x.v.val)])
    (hm : Mods (fun k => k = w.heap.size + 1 + 1 + 1) wr W) : AcAt w w1 W l L nd s (i + 1) v (.bool true) Lo := by
  have hsn : l.opn.take (i + 1) = l.opn.take i ++ [x] := by rw [List.take_add_one, hx]; rfl
  have hch : chosenO l.many nd s (l.opn.take (i + 1)) = some x.v := by rw [hsn, chosenO_snoc, if_pos ⟨hs, hq⟩]
  refine ⟨own_mods h.own hm (fun k hk e => own_blk_ne h.own h.box (by decide) (e ▸ hk)), ?_, fun q hq => ⟨(h.who q hq).1.mods hm (fun a ha e => ?_), (h.who q hq).2⟩, by rw [hch]; rfl, by rw [hch]; exact hb, h.mods.trans hm, h.nil.trans2 hm (fun k hk e => by omega)⟩
  · rw [hsn, List.filterMap_append, ← h.val]
    simp [voteO_won hs hq]
  · obtain ⟨cs, hb⟩ := (h.who q hq).1.ty a ha
    have hx := h.box
    rw [e] at hb
    unfold Blk at hb hx
    rw [hb] at hx
    injection hx with hx
    injection hx with _ h2
    revert h2
    decide
end Go.Proofs.Ytpabbhhaagfoeaa
end

section
/- The reference of layer 15: Accepted, walked. -/
namespace Go.Proofs.Ytpabbhhaagfoeaa
set_option maxRecDepth 100000
open Go.RowKit
set_option linter.unusedVariables false
set_option linter.unusedSimpArgs false
theorem wrap64_n15 (k : Nat) (h : k < 9223372036854775808) : wrap64 (k : Int) = (k : Int) := by unfold wrap64; omega
theorem blk_two {w : World} {g : Nat} {t u : TypeId} {cs ds : Array Value} (h : Blk w g t cs) (k : Blk w g u ds) (hne : t ≠ u) : False := by
  unfold Blk at h k
  rw [h] at k
  injection k with k
  injection k with _ k
  exact hne k
set_option maxHeartbeats 6400000 in
theorem r15heard_any (w : World) (l : PLd) (p : LdA) {L : List ROp} (h : ROs w p.oA p.oc p.on L l.opn) (hn : p.on ≤ 900000) (hmy : l.many ≤ 1000000) (hwl : ∀ x ∈ L, x.o.who.length ≤ 1000) (nd b s : Nat) (hm : ¬ l.mute nd b) :
    Calls Try.prog 21 #[.agg (ldC l p), .int .i64 (nd : Int), .int .u64 (b : Int), .int .u64 (s : Int)] w (RAcd w l p L nd b s) := by
  have HE := Lib.hid (accept_hearsR hm s)
  have H := Lib.hid h
  have HWL := Lib.hid hwl
  have g1 : ((l.stage : Int) != 2) = false := by unfold PLd.mute at hm; simp; omega
  have g2 : ((b : Int) != (l.bal : Int)) = false := by unfold PLd.mute at hm; simp; omega
  have g4 : ¬ (l.many : Int) ≤ (nd : Int) := by unfold PLd.mute at hm; omega
  have g3 : ¬ (nd : Int) < 0 := by omega
  have hqt : (l.many : Int).tdiv 2 = ((l.many / 2 : Nat) : Int) := by rw [Int.tdiv_eq_ediv_of_nonneg (by omega)]; omega
  obtain ⟨N, hN⟩ : ∃ N, p.on = N := ⟨_, rfl⟩
  have HN := Lib.hid hN
  have HLN := Lib.hid h.lenL
  clear h hm hwl
  go_enter Try.func21, Try.ntmps21
  go_wp2
  have b1 := (((Blk.new w 33 (ldC l p)).alloc (.cells #[.int .i64 0, .int .i64 0, .int .u64 0, .int .u64 0, .int .u64 0, .slice none 0 0, .slice none 0 0, .slice none 0 0] 33)).alloc (.cells #[.int .u64 0, .int .u64 0, .string ⟨#[]⟩] 53)).alloc (.cells #[.int .u64 0, .int .u64 0, .string ⟨#[]⟩] 53)
  have b2 := ((Blk.new (w.alloc (.cells (ldC l p) 33)) 33 #[.int .i64 0, .int .i64 0, .int .u64 0, .int .u64 0, .int .u64 0, .slice none 0 0, .slice none 0 0, .slice none 0 0]).alloc (.cells #[.int .u64 0, .int .u64 0, .string ⟨#[]⟩] 53)).alloc (.cells #[.int .u64 0, .int .u64 0, .string ⟨#[]⟩] 53)
  have b3 := (Blk.new ((w.alloc (.cells (ldC l p) 33)).alloc (.cells #[.int .i64 0, .int .i64 0, .int .u64 0, .int .u64 0, .int .u64 0, .slice none 0 0, .slice none 0 0, .slice none 0 0] 33)) 53 #[.int .u64 0, .int .u64 0, .string ⟨#[]⟩]).alloc (.cells #[.int .u64 0, .int .u64 0, .string ⟨#[]⟩] 53)
  have b4 := Blk.new (((w.alloc (.cells (ldC l p) 33)).alloc (.cells #[.int .i64 0, .int .i64 0, .int .u64 0, .int .u64 0, .int .u64 0, .slice none 0 0, .slice none 0 0, .slice none 0 0] 33)).alloc (.cells #[.int .u64 0, .int .u64 0, .string ⟨#[]⟩] 53)) 53 #[.int .u64 0, .int .u64 0, .string ⟨#[]⟩]
  have m1 : Mods Nil w _ := ((((Mods.refl Nil w).alloc (.cells (ldC l p) 33)).alloc (.cells #[.int .i64 0, .int .i64 0, .int .u64 0, .int .u64 0, .int .u64 0, .slice none 0 0, .slice none 0 0, .slice none 0 0] 33)).alloc (.cells #[.int .u64 0, .int .u64 0, .string ⟨#[]⟩] 53)).alloc (.cells #[.int .u64 0, .int .u64 0, .string ⟨#[]⟩] 53)
  have hsz : ((((w.alloc (.cells (ldC l p) 33)).alloc (.cells #[.int .i64 0, .int .i64 0, .int .u64 0, .int .u64 0, .int .u64 0, .slice none 0 0, .slice none 0 0, .slice none 0 0] 33)).alloc (.cells #[.int .u64 0, .int .u64 0, .string ⟨#[]⟩] 53)).alloc (.cells #[.int .u64 0, .int .u64 0, .string ⟨#[]⟩] 53)).heap.size = w.heap.size + 4 := by simp
  simp only [World.size_alloc] at b2 b3 b4
  obtain ⟨w1, hw1⟩ : ∃ w1, (((w.alloc (.cells (ldC l p) 33)).alloc (.cells #[.int .i64 0, .int .i64 0, .int .u64 0, .int .u64 0, .int .u64 0, .slice none 0 0, .slice none 0 0, .slice none 0 0] 33)).alloc (.cells #[.int .u64 0, .int .u64 0, .string ⟨#[]⟩] 53)).alloc (.cells #[.int .u64 0, .int .u64 0, .string ⟨#[]⟩] 53) = w1 := ⟨_, rfl⟩
  rw [hw1] at b1 b2 b3 b4 m1 hsz
  rw [hw1]
  clear hw1
  have M1 := Lib.hid m1
  have B1 := Lib.hid b1
  have B2 := Lib.hid b2
  have B3 := Lib.hid b3
  have HSZ := Lib.hid hsz
  have B4 := Lib.hid b4
  clear m1 b1 b2 b3 b4 hsz
  go_loopw [11, 13, 14] (fun v z x wr => ∃ (i : Nat) (Lo : List ROp), i ≤ N ∧ x = .int .i64 (i : Int) ∧ Hid (AcAt w w1 wr l L nd s i v z Lo)) (fun _ _ x _ => N - (intOf x).toNat)
  case atStart =>
    exact ⟨0, [], Nat.zero_le _, rfl, Lib.hid ⟨World.ownsRow_nil _ _ _ _, rfl, (fun x hx => by cases hx), rfl, B4.out, Mods.refl _ _, M1.out⟩⟩
  case round =>
    obtain ⟨i, Lo, hi, rfl, HAT⟩ := hrel
    obtain ⟨A6, c6, rfl, -⟩ := own_sls HAT.out.own
    have y7 := (B1.out.mods HAT.out.mods (by omega)).cell 7
    simp at y7
    rw [hN] at y7
    by_cases hlt : i < N
    · have hltI : (i : Int) < (N : Int) := by omega
      have hiL : i < L.length := by rw [H.out.len, HN.out]; exact hlt
      obtain ⟨x, hx⟩ : ∃ x, L[i]? = some x := ⟨_, List.getElem?_eq_getElem hiL⟩
      have hxo : l.opn[i]? = some x.o := by rw [← H.out.val, List.getElem?_map, hx]; rfl
      have hxm : x ∈ L := List.mem_of_getElem? hx
      obtain ⟨b2, o2, hA, hb2, c0, c1, c2, c3⟩ := (H.out.nil HAT.out.nil).at_ hx
      rw [hA] at y7
      have hRW := (H.out.who x hxm).nil HAT.out.nil
      have hRL := HWL.out x hxm
      have HXA : Hid (∀ a, x.A = some a → (∃ y ∈ L, y.A = some a) ∨ w.heap.size + 4 ≤ a.block) := Lib.hid (fun a ha => .inl ⟨x, hxm, ha⟩)
      obtain ⟨⟨⟨s2, bl, vv⟩, wh⟩, Ax, cx⟩ := x
      simp only at c0 c1 c2 c3 hRW hRL
      have HXO := Lib.hid hxo
      have HRW := Lib.hid hRW
      obtain ⟨k, hk⟩ : ∃ k, wh.length = k := ⟨_, rfl⟩
      rw [hk] at c3 hRL
      have HK := Lib.hid hk
      clear hx hxo hxm hiL hA hRW hk
      by_cases he : s2 = s
      · have heI : ((s2 : Int) != (s : Int)) = false := by simp; omega
        have HEQ := Lib.hid he
        obtain ⟨m2, hm2⟩ : ∃ m2, l.many / 2 = m2 := ⟨_, rfl⟩
        rw [hm2] at hqt
        have hm2b : m2 ≤ 500000 := by clear hqt; omega
        have HM2 := Lib.hid hm2
        have HRK : Hid (RNs wr Ax cx k wh) := Lib.hid (by rw [← HK.out]; exact HRW.out)
        have HB1 := Lib.hid (B1.out.mods HAT.out.mods (by omega))
        clear he hm2
        by_cases hin : nd ∈ wh
        · have HDE : Hid (decide (0 ≤ (nd : Int) ∧ (nd : Int).toNat ∈ wh) = true) := Lib.hid (by simp [hin])
          have HAD := Lib.hid (show addW wh nd = wh from if_pos hin)
          clear hin
          by_cases hq : m2 < k
          · have hqI : (m2 : Int) < (k : Int) := by omega
            have HQ : Hid (l.many / 2 < (addW wh nd).length) := Lib.hid (by rw [HAD.out, HM2.out, HK.out]; exact hq)
            go_wp2_with (first
              | (go_at_call 43; refine (r15in_any _ HR5.out (by omega) (nd : Int)).mono ?_; rintro e w6 ⟨rfl, m6⟩; rw [HDE.out]; have HO6 := Lib.hid (own_mods HO5.out m6 (fun _ _ h => h)); have HR6 := Lib.hid (HR5.out.nil m6); have M6 := Lib.hid (M5.out.trans m6); have bb6 := BB5.out.mods m6 (fun h => h); have t0 := bb6.cell 0; have t1 := bb6.cell 1; have t2 := bb6.cell 2; have y0 := (HB1.out.mods M6.out (fun h => h)).cell 0; simp at t0 t1 t2 y0; have HAT6 := Lib.hid (HAT.out.nilm M6.out); have BB6 := Lib.hid bb6; clear m6 bb6)
              | (at_builtin; refine copy_who rfl _ _ rfl (W := wr.alloc (.cells #[.int .u64 (s2 : Int), .int .u64 (bl : Int), .string (strOf vv), .slice Ax k cx] 99)) (base := wr.heap.size) rfl rfl (HRK.out.nil ((Mods.refl Nil wr).alloc _)) (by omega) (by simp) ?_; intro v5 w5 o5 m5; obtain ⟨A5, c5, rfl, r5, a5⟩ := rns_own o5 HK.out; have HO5 := Lib.hid o5; have HR5 := Lib.hid r5; have HA5 := Lib.hid a5; have M5 := Lib.hid (((Mods.refl Nil wr).alloc (.cells #[.int .u64 (s2 : Int), .int .u64 (bl : Int), .string (strOf vv), .slice Ax k cx] 99)).trans m5); have bb := (Blk.new wr 99 #[.int .u64 (s2 : Int), .int .u64 (bl : Int), .string (strOf vv), .slice Ax k cx]).mods m5 (fun h => h); have BB5 := Lib.hid bb; clear o5 m5 r5 a5 bb)
              | (refine wpList_store_mk rfl 53 (.tmp 12) (.tmp 79) rfl rfl (w.heap.size + 1 + 1 + 1) rfl 53 _ #[.int .u64 (s2 : Int), .int .u64 (bl : Int), .string (strOf vv)] rfl HAT6.out.box rfl (by simp [Value.oneCell']) v13_info (by simp [Value.cells]) ?_; intro w9 b9 m9; have HA9 := Lib.hid (HAT6.out.won HXO.out HEQ.out HQ.out b9 m9); clear b9 m9))
            exact ⟨⟨i + 1, _, by omega, by go_num, HA9⟩, by simp [intOf]; omega⟩
          · have hqI : ¬ (m2 : Int) < (k : Int) := by omega
            have HQ : Hid (¬ l.many / 2 < (addW wh nd).length) := Lib.hid (by rw [HAD.out, HM2.out, HK.out]; exact hq)
            go_wp2_with (first
              | (go_at_call 43; refine (r15in_any _ HR5.out (by omega) (nd : Int)).mono ?_; rintro e w6 ⟨rfl, m6⟩; rw [HDE.out]; have HO6 := Lib.hid (own_mods HO5.out m6 (fun _ _ h => h)); have HR6 := Lib.hid (HR5.out.nil m6); have M6 := Lib.hid (M5.out.trans m6); have bb6 := BB5.out.mods m6 (fun h => h); have t0 := bb6.cell 0; have t1 := bb6.cell 1; have t2 := bb6.cell 2; have y0 := (HB1.out.mods M6.out (fun h => h)).cell 0; simp at t0 t1 t2 y0; have HAT6 := Lib.hid (HAT.out.nilm M6.out); have BB6 := Lib.hid bb6; clear m6 bb6)
              | (at_builtin; refine copy_who rfl _ _ rfl (W := wr.alloc (.cells #[.int .u64 (s2 : Int), .int .u64 (bl : Int), .string (strOf vv), .slice Ax k cx] 99)) (base := wr.heap.size) rfl rfl (HRK.out.nil ((Mods.refl Nil wr).alloc _)) (by omega) (by simp) ?_; intro v5 w5 o5 m5; obtain ⟨A5, c5, rfl, r5, a5⟩ := rns_own o5 HK.out; have HO5 := Lib.hid o5; have HR5 := Lib.hid r5; have HA5 := Lib.hid a5; have M5 := Lib.hid (((Mods.refl Nil wr).alloc (.cells #[.int .u64 (s2 : Int), .int .u64 (bl : Int), .string (strOf vv), .slice Ax k cx] 99)).trans m5); have bb := (Blk.new wr 99 #[.int .u64 (s2 : Int), .int .u64 (bl : Int), .string (strOf vv), .slice Ax k cx]).mods m5 (fun h => h); have BB5 := Lib.hid bb; clear o5 m5 r5 a5 bb)
              | (at_builtin; refine push_op rfl _ _ rfl ⟨⟨⟨s2, bl, vv⟩, wh⟩, A5, c5⟩ (W := w6) HK.out rfl HAT6.out.own rfl (by have := HAT.out.len; omega) (by have := HAT6.out.mods.size; have := HSZ.out; omega) ?_; intro v9 w9 o9 m9; have HA9 := Lib.hid (HAT6.out.push HSZ.out HXO.out (by rw [voteO_more HEQ.out HQ.out, HAD.out]) (fun h => HQ.out h.2) (by show RNs w6 A5 c5 (wh).length (wh); rw [HK.out]; exact HR6.out) (fun a ha => .inr (by have := HA5.out a ha; have := HAT.out.mods.size; have := HSZ.out; omega)) o9 m9); clear o9 m9))
            exact ⟨⟨i + 1, _, by omega, by go_num, HA9⟩, by simp [intOf]; omega⟩
        · have HDE : Hid (decide (0 ≤ (nd : Int) ∧ (nd : Int).toNat ∈ wh) = false) := Lib.hid (by simp [hin])
          have HAD := Lib.hid (show addW wh nd = wh ++ [nd] from if_neg hin)
          obtain ⟨k1, hk1⟩ : ∃ k1, k + 1 = k1 := ⟨_, rfl⟩
          have HK1 := Lib.hid hk1
          have HKL : Hid ((wh ++ [nd]).length = k1) := Lib.hid (by rw [List.length_append, HK.out]; exact hk1)
          clear hin
          by_cases hq : m2 < k1
          · have hqI : (m2 : Int) < (k1 : Int) := by omega
            have HQ : Hid (l.many / 2 < (addW wh nd).length) := Lib.hid (by rw [HAD.out, HM2.out, HKL.out]; exact hq)
            clear hk1
            go_wp2_with (first
              | (go_at_call 43; refine (r15in_any _ HR5.out (by omega) (nd : Int)).mono ?_; rintro e w6 ⟨rfl, m6⟩; rw [HDE.out]; have HO6 := Lib.hid (own_mods HO5.out m6 (fun _ _ h => h)); have HR6 := Lib.hid (HR5.out.nil m6); have M6 := Lib.hid (M5.out.trans m6); have bb6 := BB5.out.mods m6 (fun h => h); have HAT6 := Lib.hid (HAT.out.nilm M6.out); have BB6 := Lib.hid bb6; clear m6 bb6)
              | (at_builtin; refine copy_who rfl _ _ rfl (W := wr.alloc (.cells #[.int .u64 (s2 : Int), .int .u64 (bl : Int), .string (strOf vv), .slice Ax k cx] 99)) (base := wr.heap.size) rfl rfl (HRK.out.nil ((Mods.refl Nil wr).alloc _)) (by omega) (by simp) ?_; intro v5 w5 o5 m5; obtain ⟨A5, c5, rfl, r5, a5⟩ := rns_own o5 HK.out; have HO5 := Lib.hid o5; have HR5 := Lib.hid r5; have HA5 := Lib.hid a5; have M5 := Lib.hid (((Mods.refl Nil wr).alloc (.cells #[.int .u64 (s2 : Int), .int .u64 (bl : Int), .string (strOf vv), .slice Ax k cx] 99)).trans m5); have bb := (Blk.new wr 99 #[.int .u64 (s2 : Int), .int .u64 (bl : Int), .string (strOf vv), .slice Ax k cx]).mods m5 (fun h => h); have BB5 := Lib.hid bb; clear o5 m5 r5 a5 bb)
              | (at_builtin; refine push_who rfl _ _ rfl (W := w6) nd rfl HO6.out rfl (by omega) M6.out.size ?_; intro v7 w7 o7 m7; rw [HK1.out] at o7; obtain ⟨A7, c7, rfl, r7, a7⟩ := rns_own o7 HKL.out; have HR7 := Lib.hid r7; have HA7 := Lib.hid a7; have M7 := Lib.hid (M6.out.nil_trans m7 (fun q hq => (HO6.out.lt q hq).1)); have bb6 := BB6.out.mods m7 (fun e => own_blk_ne HO6.out BB6.out (by decide) e); have t0 := bb6.cell 0; have t1 := bb6.cell 1; have t2 := bb6.cell 2; have y0 := (HB1.out.mods M7.out (fun h => h)).cell 0; simp at t0 t1 t2 y0; have HAT7 := Lib.hid (HAT.out.nilm M7.out); clear o7 m7 r7 a7 bb6)
              | (refine wpList_store_mk rfl 53 (.tmp 12) (.tmp 79) rfl rfl (w.heap.size + 1 + 1 + 1) rfl 53 _ #[.int .u64 (s2 : Int), .int .u64 (bl : Int), .string (strOf vv)] rfl HAT7.out.box rfl (by simp [Value.oneCell']) v13_info (by simp [Value.cells]) ?_; intro w9 b9 m9; have HA9 := Lib.hid (HAT7.out.won HXO.out HEQ.out HQ.out b9 m9); clear b9 m9))
            exact ⟨⟨i + 1, _, by omega, by go_num, HA9⟩, by simp [intOf]; omega⟩
          · have hqI : ¬ (m2 : Int) < (k1 : Int) := by omega
            have HQ : Hid (¬ l.many / 2 < (addW wh nd).length) := Lib.hid (by rw [HAD.out, HM2.out, HKL.out]; exact hq)
            clear hk1
            go_wp2_with (first
              | (go_at_call 43; refine (r15in_any _ HR5.out (by omega) (nd : Int)).mono ?_; rintro e w6 ⟨rfl, m6⟩; rw [HDE.out]; have HO6 := Lib.hid (own_mods HO5.out m6 (fun _ _ h => h)); have HR6 := Lib.hid (HR5.out.nil m6); have M6 := Lib.hid (M5.out.trans m6); have bb6 := BB5.out.mods m6 (fun h => h); have HAT6 := Lib.hid (HAT.out.nilm M6.out); have BB6 := Lib.hid bb6; clear m6 bb6)
              | (at_builtin; refine copy_who rfl _ _ rfl (W := wr.alloc (.cells #[.int .u64 (s2 : Int), .int .u64 (bl : Int), .string (strOf vv), .slice Ax k cx] 99)) (base := wr.heap.size) rfl rfl (HRK.out.nil ((Mods.refl Nil wr).alloc _)) (by omega) (by simp) ?_; intro v5 w5 o5 m5; obtain ⟨A5, c5, rfl, r5, a5⟩ := rns_own o5 HK.out; have HO5 := Lib.hid o5; have HR5 := Lib.hid r5; have HA5 := Lib.hid a5; have M5 := Lib.hid (((Mods.refl Nil wr).alloc (.cells #[.int .u64 (s2 : Int), .int .u64 (bl : Int), .string (strOf vv), .slice Ax k cx] 99)).trans m5); have bb := (Blk.new wr 99 #[.int .u64 (s2 : Int), .int .u64 (bl : Int), .string (strOf vv), .slice Ax k cx]).mods m5 (fun h => h); have BB5 := Lib.hid bb; clear o5 m5 r5 a5 bb)
              | (at_builtin; refine push_who rfl _ _ rfl (W := w6) nd rfl HO6.out rfl (by omega) M6.out.size ?_; intro v7 w7 o7 m7; rw [HK1.out] at o7; obtain ⟨A7, c7, rfl, r7, a7⟩ := rns_own o7 HKL.out; have HR7 := Lib.hid r7; have HA7 := Lib.hid a7; have M7 := Lib.hid (M6.out.nil_trans m7 (fun q hq => (HO6.out.lt q hq).1)); have bb6 := BB6.out.mods m7 (fun e => own_blk_ne HO6.out BB6.out (by decide) e); have t0 := bb6.cell 0; have t1 := bb6.cell 1; have t2 := bb6.cell 2; have y0 := (HB1.out.mods M7.out (fun h => h)).cell 0; simp at t0 t1 t2 y0; have HAT7 := Lib.hid (HAT.out.nilm M7.out); clear o7 m7 r7 a7 bb6)
              | (at_builtin; refine push_op rfl _ _ rfl ⟨⟨⟨s2, bl, vv⟩, wh ++ [nd]⟩, A7, c7⟩ (W := w7) HKL.out rfl HAT7.out.own rfl (by have := HAT.out.len; omega) (by have := HAT7.out.mods.size; have := HSZ.out; omega) ?_; intro v9 w9 o9 m9; have HA9 := Lib.hid (HAT7.out.push HSZ.out HXO.out (by rw [voteO_more HEQ.out HQ.out, HAD.out]) (fun h => HQ.out h.2) (by show RNs w7 A7 c7 (wh ++ [nd]).length (wh ++ [nd]); rw [HKL.out]; exact HR7.out) (fun a ha => .inr (by have := HA7.out a ha; have := HAT.out.mods.size; have := HSZ.out; omega)) o9 m9); clear o9 m9))
            exact ⟨⟨i + 1, _, by omega, by go_num, HA9⟩, by simp [intOf]; omega⟩
      · have heI : ((s2 : Int) != (s : Int)) = true := by simp; omega
        have HNE := Lib.hid he
        have HA2 := Lib.hid (HAT.out.nilm ((Mods.refl Nil wr).alloc (.cells #[.int .u64 (s2 : Int), .int .u64 (bl : Int), .string (strOf vv), .slice Ax k cx] 99)))
        have HRW2 := Lib.hid (HRW.out.nil ((Mods.refl Nil wr).alloc (.cells #[.int .u64 (s2 : Int), .int .u64 (bl : Int), .string (strOf vv), .slice Ax k cx] 99)))
        go_wp2_with (at_builtin; (refine push_op rfl _ _ rfl ⟨⟨⟨s2, bl, vv⟩, wh⟩, Ax, cx⟩ (W := wr.alloc (.cells #[.int .u64 (s2 : Int), .int .u64 (bl : Int), .string (strOf vv), .slice Ax k cx] 99)) HK.out rfl HA2.out.own (by simp only [World.size_alloc]; rfl) (by have := HAT.out.len; omega) (by have := HA2.out.mods.size; have := HSZ.out; omega) ?_; intro v4 w4 o4 m4; have HA4 := Lib.hid (HA2.out.push HSZ.out HXO.out (voteO_far HNE.out) (fun h => HNE.out h.1) HRW2.out HXA.out o4 m4); clear o4 m4))
        exact ⟨⟨i + 1, _, by omega, by go_num, HA4⟩, by simp [intOf]; omega⟩
    · obtain rfl : i = N := by omega
      have htk : l.opn.take i = l.opn := List.take_of_length_le (by rw [HLN.out, HN.out]; exact Nat.le_refl _)
      obtain ⟨ci, hci⟩ : ∃ ci, (chosenO l.many nd s (l.opn.take i)).isSome = ci := ⟨_, rfl⟩
      obtain ⟨cv, hcv⟩ : ∃ cv, orZ (chosenO l.many nd s (l.opn.take i)) = cv := ⟨_, rfl⟩
      obtain ⟨ln, hln⟩ : ∃ ln, Lo.length = ln := ⟨_, rfl⟩
      have hz := HAT.out.is_
      rw [hci] at hz
      subst hz
      have hbx := HAT.out.box
      rw [hcv] at hbx
      have how := HAT.out.own
      rw [hln] at how
      have HLE := Lib.hid HAT.out.len
      have HBX := Lib.hid hbx
      have HOW := Lib.hid how
      have HB1 := Lib.hid (B1.out.mods HAT.out.mods (by omega))
      have HB2 := Lib.hid (B2.out.mods HAT.out.mods (by omega))
      have HB3 := Lib.hid (B3.out.mods HAT.out.mods (by omega))
      have HCI := Lib.hid hci
      have HCV := Lib.hid hcv
      have HTK := Lib.hid htk
      have HL := Lib.hid hln
      rw [hln]
      clear hci hcv htk hbx how hln
      have f7 := HB1.out.frozen 7
      go_wp2
      have E2 : Blk _ w.heap.size 33 #[.int .i64 (l.many : Int), .int .i64 (l.stage : Int), .int .u64 (l.bal : Int), .int .u64 (l.first : Int), .int .u64 (l.next : Int), .slice p.pA p.pn p.pc, .slice p.kA p.kn p.kc, .slice A6 ln c6] := HB1.out.set_ 7 (.slice A6 ln c6)
      have E4 := HB2.out.setOther15 (show w.heap.size + 1 ≠ w.heap.size by omega) 7 (.slice A6 ln c6)
      have E5 := HB3.out.setOther15 (show w.heap.size + 1 + 1 ≠ w.heap.size by omega) 7 (.slice A6 ln c6)
      have E7 := HBX.out.setOther15 (show w.heap.size + 1 + 1 + 1 ≠ w.heap.size by omega) 7 (.slice A6 ln c6)
      have M7 := set_mods15 wr w.heap.size 7 (.slice A6 ln c6)
      have MN := Lib.hid (HAT.out.nil.nil_trans M7 (fun k hk => by omega))
      have HO7 := Lib.hid (own_mods HOW.out M7 (fun k hk hS => own_blk_ne HOW.out HB1.out (by decide) (hS ▸ hk)))
      have HW7 : Hid (∀ x ∈ Lo, RNs _ x.A x.c x.o.who.length x.o.who) := Lib.hid (fun x hx => (HAT.out.who x hx).1.mods M7 (fun a ha e => by
        obtain ⟨cs, hb⟩ := (HAT.out.who x hx).1.ty a ha
        exact blk_two hb (e ▸ HB1.out) (by decide)))
      generalize wr.setCell ⟨w.heap.size, 7, none⟩ (.slice A6 ln c6) = w7 at E2 E4 E5 E7 MN HO7 HW7 ⊢
      clear M7 f7
      obtain ⟨s0, s1, s2, s3, s4, s5, s6, s7⟩ := E2.eight
      obtain ⟨q0, q1, q2, q3, q4, q5, q6, q7⟩ := E4.eight
      have h0 := E4.frozen 0; have h1 := E4.frozen 1; have h2 := E4.frozen 2; have h3 := E4.frozen 3; have h4 := E4.frozen 4; have h5 := E4.frozen 5; have h6 := E4.frozen 6; have h7 := E4.frozen 7
      obtain ⟨r0, r1, r2⟩ := E5.three
      have f0 := E5.frozen 0; have f1 := E5.frozen 1; have f2 := E5.frozen 2
      obtain ⟨x0, x1, x2⟩ := E7.three
      have HE4 := Lib.hid E4
      have HE5 := Lib.hid E5
      clear E2 E4 E5 E7
      go_region
      go_wp2
      refine with_ret15 (Q := fun W => bodyPost _ _ _ Exit.ret _ W.drew) (by omega) HE4.out HE5.out ?_
      intro w8 F4 F5 FM
      clear s0 s1 s2 s3 s4 s5 s6 s7 q0 q1 q2 q3 q4 q5 q6 q7 h0 h1 h2 h3 h4 h5 h6 h7 r0 r1 r2 f0 f1 f2 x0 x1 x2
      obtain ⟨y0, y1, y2, y3, y4, y5, y6, y7⟩ := F4.eight
      obtain ⟨z0, z1, z2⟩ := F5.three
      have hMT : Mods Nil w w8.drew := (MN.out.nil_trans FM (fun k hk => by rcases hk with h | h <;> omega)).drew
      have ho8 := own_mods HO7.out FM.drew (fun k hk hS => by
        rcases hS with h | h
        · exact own_blk_ne HO7.out HE4.out (by decide) (h ▸ hk)
        · exact own_blk_ne HO7.out HE5.out (by decide) (h ▸ hk))
      obtain ⟨A', c', hv, hR, hA⟩ := ros_own ho8 HL.out (fun x hx => (HW7.out x hx).mods FM.drew (fun a ha e => by
        obtain ⟨cs, hb⟩ := (HW7.out x hx).ty a ha
        rcases e with e | e
        · exact blk_two hb (e ▸ HE4.out) (by decide)
        · exact blk_two hb (e ▸ HE5.out) (by decide)))
      injection hv with hv1 _ hv2
      subst hv1 hv2
      have HM := Lib.hid hMT
      have HR := Lib.hid hR
      have HA := Lib.hid hA
      clear hMT ho8 hR hA
      refine bodyPost_ret (v := .tuple #[.agg #[.int .i64 (l.many : Int), .int .i64 (l.stage : Int), .int .u64 (l.bal : Int), .int .u64 (l.first : Int), .int .u64 (l.next : Int), .slice p.pA p.pn p.pc, .slice p.kA p.kn p.kc, .slice A6 ln c6], .agg #[.int .u64 (cv.slot : Int), .int .u64 (cv.bal : Int), .string (strOf cv.val)], .bool ci]) (by simp [results, Try.results21, go_sem, y0, y1, y2, y3, y4, y5, y6, y7, z0, z1, z2]) rfl ?_
      have hch : l.chosen (nd : Int) b s = chosenO l.many nd s (l.opn.take i) := by rw [HE.out.2, HTK.out]; rfl
      refine ⟨{ p with oA := A6, on := ln, oc := c6 }, Lo, ?_, rfl, rfl, rfl, rfl, rfl, rfl, ?_, by have := HLE.out; have := HL.out; have := HN.out; show ln ≤ p.on; omega, fun a ha => .inr (by have := HA.out a ha; omega), fun x hx a ha => ?_, HM.out⟩
      · rw [hch, HCI.out, HCV.out, HE.out.1]
      · have h9 := HR.out
        rw [HAT.out.val, HTK.out] at h9
        rw [HE.out.1]
        exact h9
      · rcases (HAT.out.who x hx).2 a ha with h | h
        · exact .inl h
        · exact .inr (by omega)
theorem r15accepted_any (w : World) (l : PLd) (p : LdA) {L : List ROp} (h : ROs w p.oA p.oc p.on L l.opn) (hn : p.on ≤ 900000) (hmy : l.many ≤ 1000000) (hwl : ∀ x ∈ L, x.o.who.length ≤ 1000) (node : Int) (b s : Nat) :
    Calls Try.prog 21 #[.agg (ldC l p), .int .i64 node, .int .u64 (b : Int), .int .u64 (s : Int)] w (RAcd w l p L node b s) := by
  by_cases hm : l.mute node b
  · exact r15mute_any w l p h node b s hm
  · have h0 : 0 ≤ node := by unfold PLd.mute at hm; omega
    obtain ⟨nd, rfl⟩ := Int.eq_ofNat_of_zero_le h0
    exact r15heard_any w l p h hn hmy hwl nd b s hm
end Go.Proofs.Ytpabbhhaagfoeaa
end

section
/- The reference of layer 15: Promise: what it tells; who hears nothing. -/
namespace Go.Proofs.Ytpabbhhaagfoeaa
set_option maxRecDepth 100000
open Go.RowKit
set_option linter.unusedVariables false
set_option linter.unusedSimpArgs false
/-- What Promise tells. -/
def RPrm (w : World) (l : PLd) (p : LdA) (L : List ROp) (node : Int) (b low n : Nat) (vs : List PVt) (e : Ending) (w' : World) : Prop :=
  ∃ p' L' A' c' n', e = .returned (.tuple #[.agg (ldC (l.promise node b low vs) p'), .slice A' n' c', .bool (l.promB node b low vs)]) ∧ RL w' (l.promise node b low vs) p' L' ∧ RVs w' A' c' n' (l.promV node b low vs) ∧
    (p'.pn ≤ p.pn + 1 ∧ p'.kn ≤ p.kn + n ∧ p'.on ≤ p.on + 4096) ∧ (∀ a, p'.pA = some a → p.pA = some a ∨ w.heap.size ≤ a.block) ∧ (∀ a, p'.kA = some a → p.kA = some a ∨ w.heap.size ≤ a.block) ∧ (∀ a, p'.oA = some a → p.oA = some a ∨ w.heap.size ≤ a.block) ∧ (∀ x ∈ L', ∀ a, x.A = some a → (∃ y ∈ L, y.A = some a) ∨ w.heap.size ≤ a.block) ∧ Mods Nil w w'
theorem promise_deafR {l : PLd} {node : Int} {b : Nat} (h : l.deaf node b) (low : Nat) (vs : List PVt) : l.promise node b low vs = l ∧ l.promV node b low vs = [] ∧ l.promB node b low vs = false := ⟨if_pos h, if_pos h, if_pos h⟩
theorem promise_hearsR {l : PLd} {node : Int} {b : Nat} (h : ¬ l.deaf node b) (low : Nat) (vs : List PVt) : l.promise node b low vs = (l.note node.toNat low vs).tally ∧ l.promV node b low vs = (l.note node.toNat low vs).tallyV ∧ l.promB node b low vs = (l.note node.toNat low vs).tallyB := ⟨if_neg h, if_neg h, if_neg h⟩
set_option maxHeartbeats 6400000 in
theorem r15deaf_any (w : World) (l : PLd) (p : LdA) {L : List ROp} (h : RL w l p L) (hpn : p.pn ≤ 1000000) (node : Int) (b low : Nat) {A : Option Addr} {c n : Nat} (vs : List PVt) (hd : l.deaf node b) :
    Calls Try.prog 14 #[.agg (ldC l p), .int .i64 node, .int .u64 (b : Int), .int .u64 (low : Int), .slice A n c] w (RPrm w l p L node b low n vs) := by
  have HE := Lib.hid (promise_deafR hd low vs)
  have H := Lib.hid h
  have HIN : Hid (∀ V, Mods Nil w V → Calls Try.prog 43 #[.slice p.pA p.pn p.pc, .int .i64 node] V fun e w' => e = .returned (.bool (decide (0 ≤ node ∧ node.toNat ∈ l.prom))) ∧ Mods Nil V w') := Lib.hid (fun V hV => r15in_any V (h.prom.nil hV) hpn node)
  have hC : ((l.stage : Int) != 1) = true ∨ (((l.stage : Int) != 1) = false ∧ ((b : Int) != (l.bal : Int)) = true) ∨ (((l.stage : Int) != 1) = false ∧ ((b : Int) != (l.bal : Int)) = false ∧ node < 0) ∨ (((l.stage : Int) != 1) = false ∧ ((b : Int) != (l.bal : Int)) = false ∧ ¬ node < 0 ∧ (l.many : Int) ≤ node) ∨ (((l.stage : Int) != 1) = false ∧ ((b : Int) != (l.bal : Int)) = false ∧ ¬ node < 0 ∧ ¬ (l.many : Int) ≤ node ∧ Hid (decide (0 ≤ node ∧ node.toNat ∈ l.prom) = true)) := by
    unfold PLd.deaf at hd
    by_cases e1 : l.stage ≠ 1
    · left; simp; omega
    · by_cases e2 : b ≠ l.bal
      · right; left; exact ⟨by simp; omega, by simp; omega⟩
      · by_cases e3 : node < 0
        · right; right; left; exact ⟨by simp; omega, by simp; omega, e3⟩
        · by_cases e4 : (l.many : Int) ≤ node
          · right; right; right; left; exact ⟨by simp; omega, by simp; omega, e3, e4⟩
          · right; right; right; right
            refine ⟨by simp; omega, by simp; omega, e3, e4, Lib.hid ?_⟩
            rcases hd with h | h | h | h | h
            · exact absurd h e1
            · exact absurd h e2
            · exact absurd h e3
            · exact absurd h e4
            · simp only [decide_eq_true_eq]; exact ⟨by omega, h⟩
  clear h hd
  rcases hC with g1 | ⟨g1, g2⟩ | ⟨g1, g2, g3⟩ | ⟨g1, g2, g3, g4⟩ | ⟨g1, g2, g3, g4, g5⟩
  case inr.inr.inr.inr =>
    have b1 := (Blk.new w 33 (ldC l p)).alloc (.cells #[.int .i64 0, .int .i64 0, .int .u64 0, .int .u64 0, .int .u64 0, .slice none 0 0, .slice none 0 0, .slice none 0 0] 33)
    have b2 := Blk.new (w.alloc (.cells (ldC l p) 33)) 33 #[.int .i64 0, .int .i64 0, .int .u64 0, .int .u64 0, .int .u64 0, .slice none 0 0, .slice none 0 0, .slice none 0 0]
    have m1 : Mods Nil w ((w.alloc (.cells (ldC l p) 33)).alloc (.cells #[.int .i64 0, .int .i64 0, .int .u64 0, .int .u64 0, .int .u64 0, .slice none 0 0, .slice none 0 0, .slice none 0 0] 33)) := ((Mods.refl Nil w).alloc _).alloc _
    simp only [World.size_alloc] at b2
    obtain ⟨w1, hw1⟩ : ∃ w1, (w.alloc (.cells (ldC l p) 33)).alloc (.cells #[.int .i64 0, .int .i64 0, .int .u64 0, .int .u64 0, .int .u64 0, .slice none 0 0, .slice none 0 0, .slice none 0 0] 33) = w1 := ⟨_, rfl⟩
    rw [hw1] at b1 b2 m1
    obtain ⟨y0, y1, y2, y3, y4, y5, y6, y7⟩ := b1.eight
    have B1 := Lib.hid b1
    have B2 := Lib.hid b2
    have M1 := Lib.hid m1
    clear b1 b2 m1
    go_enter Try.func14, Try.ntmps14
    go_wp2_with (first
      | (go_at_call 43; refine (HIN.out _ M1.out).mono ?_; rintro e w2 ⟨rfl, m2⟩; rw [g5.out]; have M2 := Lib.hid (M1.out.trans m2); have BL := Lib.hid (B1.out.mods m2 (fun h => h)); have BR := Lib.hid (B2.out.mods m2 (fun h => h)); obtain ⟨z0, z1, z2, z3, z4, z5, z6, z7⟩ := BL.out.eight; clear m2)
      | (refine wpList_store_mk rfl 33 (.tmp 10) (.tmp 49) rfl rfl (w.heap.size + 1) rfl 33 _ (ldC l p) rfl BR.out rfl (by simp [Value.oneCell']) ld_info (by simp [Value.cells]) ?_; intro w9 b9 m9; have B9 := Lib.hid b9; have M9 := Lib.hid m9; clear b9 m9))
    obtain ⟨x0, x1, x2, x3, x4, x5, x6, x7⟩ := B9.out.eight
    have m9 : Mods Nil w w9 := M2.out.nil_trans M9.out (fun i h => by omega)
    refine bodyPost_ret (v := .tuple #[.agg (ldC l p), .slice none 0 0, .bool false]) (by simp [results, Try.results14, go_sem, x0, x1, x2, x3, x4, x5, x6, x7]) rfl ?_
    refine ⟨p, L, none, 0, 0, ?_, ?_, ?_, ⟨by omega, by omega, by omega⟩, fun a ha => .inl ha, fun a ha => .inl ha, fun a ha => .inl ha, fun x hx a ha => .inl ⟨x, hx, ha⟩, m9⟩
    · rw [HE.out.1, HE.out.2.2]
    · rw [HE.out.1]; exact H.out.nil m9
    · rw [HE.out.2.1]; exact RVs.none_ _
  all_goals
    go_enter Try.func14, Try.ntmps14
    go_wp2
    have e0 := Blk.new (w.alloc (.cells (ldC l p) 33)) 33 (ldC l p)
    simp only [World.size_alloc] at e0
    obtain ⟨y0, y1, y2, y3, y4, y5, y6, y7⟩ := e0.eight
    refine bodyPost_ret (v := .tuple #[.agg (ldC l p), .slice none 0 0, .bool false]) (by simp [results, Try.results14, go_sem, y0, y1, y2, y3, y4, y5, y6, y7]) rfl ?_
    refine ⟨p, L, none, 0, 0, ?_, ?_, ?_, ⟨by omega, by omega, by omega⟩, fun a ha => .inl ha, fun a ha => .inl ha, fun a ha => .inl ha, fun x hx a ha => .inl ⟨x, hx, ha⟩, ((Mods.refl Nil w).alloc _).alloc _⟩
    · rw [HE.out.1, HE.out.2.2]
    · rw [HE.out.1]; exact H.out.nil (((Mods.refl Nil w).alloc _).alloc _)
    · rw [HE.out.2.1]; exact RVs.none_ _
end Go.Proofs.Ytpabbhhaagfoeaa
end

section
/- The reference of layer 15: Promise: what its walk leans on. -/
namespace Go.Proofs.Ytpabbhhaagfoeaa
set_option maxRecDepth 100000
open Go.RowKit
set_option linter.unusedVariables false
set_option linter.unusedSimpArgs false
theorem vtCs_one15 (l : List PVt) : ∀ u ∈ vtCs l, u.oneCell' = true := by
  intro u hu
  obtain ⟨x, _, hx⟩ := List.mem_flatMap.1 hu
  exact vtC_one x u hx
theorem vtCs_set : ∀ (l : List PVt) (j : Nat) (x : PVt), j < l.length → (((vtCs l).set (j * 3) (.int .u64 (x.slot : Int))).set (j * 3 + 1) (.int .u64 (x.bal : Int))).set (j * 3 + 2) (.string (strOf x.val)) = vtCs (l.set j x)
  | y :: l, 0, x, h => by simp [vtCs, vtC]
  | y :: l, j + 1, x, h => by
    have := vtCs_set l j x (by simpa using h)
    rw [show (j + 1) * 3 = j * 3 + 1 + 1 + 1 by omega]
    simp only [vtCs, List.flatMap_cons, vtC, List.cons_append, List.nil_append, List.set_cons_succ] at this ⊢
    rw [this]
theorem noteVs_take {known vs : List PVt} {i : Nat} {v : PVt} (h : vs[i]? = some v) : noteVs known (vs.take (i + 1)) = noteV (noteVs known (vs.take i)) v := by
  rw [List.take_add_one, h]
  exact noteVs_snoc _ _ _
/-- A row of votes is there, at its places. -/
theorem vt_place {w : World} {base m : Nat} {v : Value} {K : List PVt} (h : w.ownsRow base 53 3 v m (vtCs K)) (hl : K.length = m) {j : Nat} (hj : j < m) : ∃ g cap, v = .slice (some ⟨g, 0, none⟩) m cap ∧ base ≤ g ∧ g < w.heap.size ∧ w.cell? ⟨g, j * 3, none⟩ = some (.int .u64 ((K[j]'(by rw [hl]; exact hj)).slot : Int)) ∧ w.cell? ⟨g, j * 3 + 1, none⟩ = some (.int .u64 ((K[j]'(by rw [hl]; exact hj)).bal : Int)) ∧ w.cell? ⟨g, j * 3 + 2, none⟩ = some (.string (strOf (K[j]'(by rw [hl]; exact hj)).val)) ∧ ∀ i, w.frozen? ⟨g, i, none⟩ = false := by
  obtain ⟨g, cap, cur, rfl, hb, hlt, -, -, -, -, -, hc, hf⟩ := own_place h (by omega)
  obtain ⟨h0, h1, h2⟩ := vtCs_at K j (by rw [hl]; exact hj)
  exact ⟨g, cap, rfl, hb, hlt, hc _ _ h0, hc _ _ h1, hc _ _ h2, hf⟩
end Go.Proofs.Ytpabbhhaagfoeaa
end
