/- The reference of layer 8: Open. -/
import Derived.Test.YtdllgmhipenidaaRef08c
import Derived.Test.YtdllgmhipenidaaRef06B
import Derived.Test.YtdllgmhipenidaaCel11
import Derived.Test.YtdllgmhipenidaaRef07e
namespace Go.Proofs.Ytdllgmhipenidaa
set_option maxRecDepth 100000
open Go.RowKit
set_option linter.unusedVariables false

/-- Which of its blocks tells: none, the first, the second. -/
def nowC (c : PCell) : Int := if c.turn = 0 then -1 else 1 - (c.spare : Int)
/-- A cell by value. -/
def rcC (c : PCell) : Array Value := #[.int .i64 (c.at_ : Int), .int .i64 (nowC c), .int .u64 (c.turn : Int), .int .u64 (c.great : Int), .string (strOf c.data), .int .i64 c.err]
theorem rcC_new (at_ : Nat) : rcC (cellNew at_) = #[.int .i64 (at_ : Int), .int .i64 (-1), .int .u64 0, .int .u64 0, .string ⟨#[]⟩, .int .i64 0] := by
  have h1 : (cellNew at_).turn = 0 := zeros_turn
  have h2 : (cellNew at_).data = [] := by rfl
  unfold rcC nowC
  rw [h1, h2, if_pos rfl]
  rfl
theorem rcC_yes {c : PCell} {j : Nat} {b : List UInt8} (hj : j ≤ 1) (h : rightC b = true ∧ c.turn < turnN b 0) {m : Nat} (hm : max c.great (max (turnN b 0) (turnN b 56)) = m) :
    rcC (c.take j b) = #[.int .i64 (c.at_ : Int), .int .i64 (j : Int), .int .u64 (turnN b 0 : Int), .int .u64 (m : Int), .string (strOf (dataC b)), .int .i64 c.err] := by
  subst hm
  unfold PCell.take
  rw [if_pos h]
  unfold rcC nowC
  have e : (⟨c.at_, 1 - j, b, max c.great (max (turnN b 0) (turnN b 56)), c.err⟩ : PCell).turn = turnN b 0 := rfl
  rw [e, if_neg (by omega)]
  show #[Value.int .i64 (c.at_ : Int), .int .i64 (1 - ((1 - j : Nat) : Int)), _, _, _, _] = _
  rw [show 1 - ((1 - j : Nat) : Int) = (j : Int) by omega]
  rfl
theorem rcC_no {c : PCell} {j : Nat} {b : List UInt8} (h : ¬ (rightC b = true ∧ c.turn < turnN b 0)) {m : Nat} (hm : max c.great (max (turnN b 0) (turnN b 56)) = m) :
    rcC (c.take j b) = #[.int .i64 (c.at_ : Int), .int .i64 (nowC c), .int .u64 (c.turn : Int), .int .u64 (m : Int), .string (strOf c.data), .int .i64 c.err] := by
  subst hm
  unfold PCell.take
  rw [if_neg h]
  rfl
theorem rc_info : (Try.prog.info? 71).map (·.size) = some 6 := by kernel_rfl
theorem Blk.sixC {w : World} {g : Nat} {t : TypeId} {a b c d e f : Value} (h : Blk w g t #[a, b, c, d, e, f]) :
    (w.cell? ⟨g, 0, none⟩ = some a ∧ w.cell? ⟨g, 1, none⟩ = some b ∧ w.cell? ⟨g, 2, none⟩ = some c ∧ w.cell? ⟨g, 3, none⟩ = some d ∧ w.cell? ⟨g, 4, none⟩ = some e ∧ w.cell? ⟨g, 5, none⟩ = some f) ∧
    (w.frozen? ⟨g, 0, none⟩ = false ∧ w.frozen? ⟨g, 1, none⟩ = false ∧ w.frozen? ⟨g, 2, none⟩ = false ∧ w.frozen? ⟨g, 3, none⟩ = false ∧ w.frozen? ⟨g, 4, none⟩ = false ∧ w.frozen? ⟨g, 5, none⟩ = false) :=
  ⟨⟨by simpa using h.cell 0, by simpa using h.cell 1, by simpa using h.cell 2, by simpa using h.cell 3, by simpa using h.cell 4, by simpa using h.cell 5⟩, ⟨h.frozen 0, h.frozen 1, h.frozen 2, h.frozen 3, h.frozen 4, h.frozen 5⟩⟩
theorem three_blk {w w' : World} {t1 t2 t3 : TypeId} {a b c : Array Value} (hm : Mods Nil (((w.alloc (.cells a t1)).alloc (.cells b t2)).alloc (.cells c t3)) w') :
    Blk w' w.heap.size t1 a ∧ Blk w' (w.heap.size + 1) t2 b ∧ Blk w' (w.heap.size + 1 + 1) t3 c := by
  have h1 := (((Blk.new w t1 a).alloc (.cells b t2)).alloc (.cells c t3)).mods hm (fun h => h)
  have h2 := ((Blk.new (w.alloc (.cells a t1)) t2 b).alloc (.cells c t3)).mods hm (fun h => h)
  have h3 := (Blk.new ((w.alloc (.cells a t1)).alloc (.cells b t2)) t3 c).mods hm (fun h => h)
  exact ⟨h1, by simpa using h2, by simpa using h3⟩
theorem read_len8 {d : PD} (hok : d.Ok) {i : Int} (h : d.at_ i = 0) : (d.read i).1.length = 64 := hok.read h
theorem r8open_bad (w : World) {A B : Option Addr} {n c m k : Nat} {left : Int} {i : Int} (hn : n ≤ 1000) (hi : i < 0 ∨ (n : Int) - 1 ≤ i) :
    Calls Try.prog 35 #[.agg #[.slice A n c, .slice B m k, .int .i64 left, .bool false], .int .i64 i] w fun e w' => e = .returned (.tuple #[.agg #[.int .i64 0, .int .i64 0, .int .u64 0, .int .u64 0, .string ⟨#[]⟩, .int .i64 0], .int .i64 1]) ∧ Mods Nil w w' := by
  have hw : IntKind.i64.wrap ((n : Int) - 2) = (n : Int) - 2 := by rw [IntKind.wrap_i64]; omega
  by_cases h0 : i < 0
  · go_enter Try.func35, Try.ntmps35
    go_wp2_with fail
    exact bodyPost_ret (v := .tuple #[.agg #[.int .i64 0, .int .i64 0, .int .u64 0, .int .u64 0, .string ⟨#[]⟩, .int .i64 0], .int .i64 1]) (by simp [results, Try.results35, go_sem]) rfl ⟨rfl, ((Mods.refl _ _).alloc _).alloc _⟩
  · have h0I : decide (i < 0) = false := by simpa using h0
    have h1I : decide ((n : Int) - 2 < i) = true := by simp; omega
    go_enter Try.func35, Try.ntmps35
    go_wp2_with fail
    exact bodyPost_ret (v := .tuple #[.agg #[.int .i64 0, .int .i64 0, .int .u64 0, .int .u64 0, .string ⟨#[]⟩, .int .i64 0], .int .i64 1]) (by simp [results, Try.results35, go_sem]) rfl ⟨rfl, ((Mods.refl _ _).alloc _).alloc _⟩
set_option maxHeartbeats 6400000 in
theorem r8open_ok (w : World) {A B : Option Addr} {n c m k : Nat} {left : Int} {d : PD} (h : RdAt w A c B k d) (hok : d.Ok) (hn : d.L.length = n) (hm : d.W.length = m) {at_ : Nat} (h0 : d.at_ (at_ : Int) = 0) (h1 : d.at_ ((at_ : Int) + 1) = 0) (hl : n ≤ 1000) :
    Calls Try.prog 35 #[.agg #[.slice A n c, .slice B m k, .int .i64 left, .bool false], .int .i64 (at_ : Int)] w fun e w' => e = .returned (.tuple #[.agg (rcC (cellOpen d at_)), .int .i64 0]) ∧ Mods Nil w w' := by
  obtain ⟨hdn, hz0, hz1⟩ := PD.at_zero h1
  have hw : IntKind.i64.wrap ((n : Int) - 2) = (n : Int) - 2 := by rw [IntKind.wrap_i64]; omega
  have h0I : decide ((at_ : Int) < 0) = false := by simp
  have h1I : decide ((n : Int) - 2 < (at_ : Int)) = false := by simp; omega
  have ha16 : at_ ≤ 1000 := by omega
  have HRD : Hid (∀ j : Nat, j < 2 → (d.read ((at_ : Int) + (j : Int))).1.length = 64) := Lib.hid (fun j hj => by
    match j, hj with
    | 0, _ => exact hok.read (by simpa using h0)
    | 1, _ => exact hok.read h1)
  have HRE := Lib.hid (fun W (hM : Mods Nil w W) (i : Int) => r6read_any W (h.mods hM) hn hm hdn (left := left) i)
  have HOK : Hid (∀ j, j ≤ 2 → (openK d at_ j).Ok) := Lib.hid (fun j hj => by
    have h65 : at_ ≤ 65536 := by omega
    match j, hj with
    | 0, _ => exact cellNew_ok h65
    | 1, _ => exact (cellNew_ok h65).take (HRD.out 0 (by omega))
    | 2, _ => exact ((cellNew_ok h65).take (HRD.out 0 (by omega))).take (HRD.out 1 (by omega)))
  clear h hok hn hm h0 h1 hz0 hz1 hdn hl
  have e2 := openK_two d at_
  have HE2 := Lib.hid e2
  have en := rcC_new at_
  have HEN := Lib.hid (show rcC (openK d at_ 0) = _ from en)
  clear e2 en
  go_enter Try.func35, Try.ntmps35
  go_wp2_with fail
  go_loopw [7] (fun x wr => ∃ (j : Nat), j ≤ 2 ∧ x = .int .i64 (j : Int) ∧ Blk wr w.heap.size 31 #[.slice A n c, .slice B m k, .int .i64 left, .bool false] ∧ Blk wr (w.heap.size + 1) 71 #[.int .i64 0, .int .i64 0, .int .u64 0, .int .u64 0, .string ⟨#[]⟩, .int .i64 0] ∧ Blk wr (w.heap.size + 1 + 1) 71 (rcC (openK d at_ j)) ∧ Mods Nil w wr) (fun x _ => 2 - (intOf x).toNat)
  case atStart =>
    obtain ⟨b1, b2, b3⟩ := three_blk (w := w) (Mods.refl Nil _)
    exact ⟨0, by omega, rfl, b1, b2, by rw [HEN.out]; exact b3, (((Mods.refl Nil w).alloc _).alloc _).alloc _⟩
  case round =>
    obtain ⟨j, hj, rfl, hb1, hb2, hb3, hmo⟩ := hrel
    clear HEN hw h0I h1I
    have B1 := Lib.hid hb1
    have B2 := Lib.hid hb2
    have XM := Lib.hid hmo
    obtain ⟨⟨x0, x1, x2, x3⟩, -⟩ := hb1.four6
    by_cases hlt : j < 2
    · have hltI : (j : Int) < 2 := by omega
      have hwj : IntKind.i64.wrap ((at_ : Int) + (j : Int)) = (at_ : Int) + (j : Int) := by rw [IntKind.wrap_i64]; omega
      have hlen := HRD.out j hlt
      have HNX : Hid (openK d at_ (j + 1) = (openK d at_ j).take j (d.read ((at_ : Int) + (j : Int))).1) := Lib.hid rfl
      have HRJ := Lib.hid (fun W hM => HRE.out W hM ((at_ : Int) + (j : Int)))
      have hat := openK_at d at_ j
      obtain ⟨cc, hcc⟩ : ∃ cc, openK d at_ j = cc := ⟨_, rfl⟩
      rw [hcc] at HNX hb3 hat
      obtain ⟨⟨b, er⟩, hbe⟩ : ∃ x, d.read ((at_ : Int) + (j : Int)) = x := ⟨_, rfl⟩
      rw [hbe] at HRJ HNX hlen
      dsimp only at HNX hlen
      have hg := (HOK.out j hj).great
      rw [hcc] at hg
      clear hbe hb1 hb2 hmo
      obtain ⟨at2, hat2⟩ : ∃ a, cc.at_ = a := ⟨_, rfl⟩
      obtain rfl : at2 = at_ := hat2.symm.trans hat
      have HYES : Hid (∀ mx, max cc.great (max (turnN b 0) (turnN b 56)) = mx → rightC b = true → cc.turn < turnN b 0 → rcC (openK d at2 (j + 1)) = #[.int .i64 (at2 : Int), .int .i64 (j : Int), .int .u64 (turnN b 0 : Int), .int .u64 (mx : Int), .string (strOf (dataC b)), .int .i64 cc.err]) := Lib.hid (fun mx hx h1 h2 => by rw [HNX.out, rcC_yes (by omega) ⟨h1, h2⟩ hx, hat2])
      have HNO : Hid (∀ mx, max cc.great (max (turnN b 0) (turnN b 56)) = mx → ¬ (rightC b = true ∧ cc.turn < turnN b 0) → rcC (openK d at2 (j + 1)) = #[.int .i64 (at2 : Int), .int .i64 (nowC cc), .int .u64 (cc.turn : Int), .int .u64 (mx : Int), .string (strOf cc.data), .int .i64 cc.err]) := Lib.hid (fun mx hx h1 => by rw [HNX.out, rcC_no h1 hx, hat2])
      have hnow : nowC cc = if cc.turn = 0 then -1 else 1 - (cc.spare : Int) := rfl
      have N0 := Lib.hid (fun W => r8number_any W hlen (by omega))
      have N5 : Hid (∀ W, Calls Try.prog 94 #[.string (strOf (b.drop 56))] W fun e w' => e = .returned (.int .u64 (turnN b 56 : Nat)) ∧ Mods Nil W w') := Lib.hid (fun W => by
        have := r8number_any W (xs := b.drop 56) (n := 8) (by simp [hlen]) (Nat.le_refl _)
        rw [show turnN (b.drop 56) 0 = turnN b 56 by simp [turnN]] at this
        exact this)
      have RT := Lib.hid (fun W => r8right_any W hlen)
      have hsz : (strOf b).size = 64 := by simp [hlen]
      have x56 : (strOf b).extract 56 64 = strOf (b.drop 56) := by rw [strOf_extract, List.take_of_length_le (by simp [hlen])]
      have lt0 := turnN_lt hlen (k := 0) (by omega)
      have lt5 := turnN_lt hlen (k := 56) (by omega)
      have hq8 : rightC b = true → (b.getD 8 0).toNat ≤ 43 ∧ 0 < turnN b 0 := fun hr => by
        unfold rightC at hr
        simp only [Bool.and_eq_true, decide_eq_true_eq] at hr
        exact ⟨hr.2, by omega⟩
      obtain ⟨q8, hq⟩ : ∃ q, (b.getD 8 0).toNat = q := ⟨_, rfl⟩
      have hx8 : ∀ hh : 8 < (strOf b).size, ((strOf b)[8]'hh).toNat = q8 := fun hh => by
        rw [← hq, List.getD_eq_getElem?_getD, List.getElem?_eq_getElem (by omega)]
        rfl
      have hxd : q8 ≤ 43 → (strOf b).extract 9 (9 + q8) = strOf (dataC b) := fun h43 => by
        rw [strOf_extract]
        unfold dataC
        rw [hq, show 9 + q8 - 9 = q8 by omega]
      rw [hq] at hq8
      obtain ⟨t0, ht0⟩ : ∃ t, turnN b 0 = t := ⟨_, rfl⟩
      obtain ⟨t5, ht5⟩ : ∃ t, turnN b 56 = t := ⟨_, rfl⟩
      obtain ⟨mx, hmx⟩ : ∃ m, max cc.great (max t0 t5) = m := ⟨_, rfl⟩
      rw [ht0, ht5] at HYES HNO
      rw [ht0] at N0 lt0 hq8
      rw [ht5] at N5 lt5
      have HY := Lib.hid (HYES.out mx hmx)
      have HNN := Lib.hid (HNO.out mx hmx)
      have HQ8 := Lib.hid hq8
      have HXD := Lib.hid hxd
      have HSP : Hid (cc.spare ≤ 1) := Lib.hid (by have := (HOK.out j hj).spare; rw [show openK d at2 j = cc from by assumption] at this; exact this)
      have E0 : Hid (turnN b 0 = t0) := ht0
      obtain ⟨R, hR⟩ : ∃ R, rightC b = R := ⟨_, rfl⟩
      rw [hR] at RT HY HNN HQ8
      clear hR
      have hmax : ∀ (ts : Array TypeId) (ty : TypeId) (W : World), (Builtin.max_ ts ty #[.int .u64 (cc.great : Int), .int .u64 (t0 : Int), .int .u64 (t5 : Int)]).run Try.prog W = .ok (.int .u64 (mx : Int)) W := fun ts ty W => by
        rw [run_max_int3]
        congr 2
        split <;> split <;> omega
      clear hq8 hxd hlen HYES HNO HNX HRE hat2 hq ht0 ht5 HRD HOK HE2 ha16
      have HCC : Hid (openK d at2 j = cc) := Lib.hid (by assumption)
      clear hcc
      obtain ⟨nw, hnw⟩ : ∃ z, nowC cc = z := ⟨_, rfl⟩
      have hb3' := hb3
      unfold rcC at hb3'
      rw [hnw, hat] at hb3'
      have B3 := Lib.hid hb3'
      rw [hnw] at HNN hnow
      have HNW := Lib.hid hnow
      have HMX := Lib.hid hmx
      clear hb3 hb3' hnw hat hnow hmx
      generalize cc.turn = tu at *
      generalize cc.great = gr at *
      generalize cc.spare = sp at *
      generalize cc.data = dt at *
      generalize cc.err = ce at *
      have LG := Lib.hid hg
      have LT0 := Lib.hid lt0
      have LT5 := Lib.hid lt5
      clear hg lt0 lt5
      go_wp2_with (first
        | (go_at_call 67; refine (HRJ.out _ XM.out).mono ?_; rintro e w2 ⟨rfl, m2⟩; have M2 := Lib.hid (XM.out.trans m2); have C1 := Lib.hid (B1.out.mods m2 (fun h => h)); have C2 := Lib.hid (B2.out.mods m2 (fun h => h)); have C3 := Lib.hid (B3.out.mods m2 (fun h => h)); clear m2 x0 x1 x2 x3))
      have c3 : ∀ V, Mods Nil w2 V → V.cell? ⟨w.heap.size + 1 + 1, 3, none⟩ = some (.int .u64 (gr : Int)) := fun V hV => (C3.out.mods hV (fun h => h)).sixC.1.2.2.2.1
      have N02 := Lib.hid (gq_of (W := w2) (fun V => N0.out V))
      have N52 := Lib.hid (gq_of (W := w2) (fun V => N5.out V))
      refine qt_region 10 (by kernel_rfl) rfl ?_
      refine qt_quiet (fun V => Mods Nil w2 V) 0 9 1 (by kernel_rfl) ((Mods.refl Nil w2).drew) ?_
      simp only [List.drop_zero, List.take_succ_cons, List.take_zero]
      repeat (first
        | go_big_quiet_skip
        | (go_big_quiet_want; first
            | (refine gq_call N02.out ?_ ?_; (focus (intro V; go_simp; done)); go_big_quiet_on)
            | (refine gq_call N52.out ?_ ?_; (focus (intro V; go_simp; done)); go_big_quiet_on)
            | (refine gq_op (v := ?_) ?_ ?_; rotate_left; (focus (intro V hV; go_simp; try with_reducible rfl)); go_big_quiet_on))
          simp only [Act.put, List.setIfInBounds_toArray, List.set_cons_zero, List.set_cons_succ])
      refine wpQuiet_nil ?_
      intro V hV
      refine qt_list 9 1 rfl (by kernel_rfl) ?_
      simp only [List.drop_succ_cons, List.drop_zero]
      have D3 := C3.out.mods hV (fun h => h)
      have s3 := D3.sixC.1.2.2.2.1
      have f3 := D3.sixC.2.2.2.2.1
      have D1 := Lib.hid (C1.out.mods hV (fun h => h))
      have D2 := Lib.hid (C2.out.mods hV (fun h => h))
      have MV := Lib.hid (M2.out.trans hV)
      have F3 := Lib.hid D3
      clear D3 hV c3 N02 N52
      go_wp2_with (first
        | (go_at_call 95; refine (RT.out _).mono ?_; rintro e w5 ⟨rfl, m5⟩; have e3 := (F3.out.set_ 3 (.int .u64 (mx : Int))).mods m5 (fun h => h); have E3 := Lib.hid e3; have E1 := Lib.hid ((D1.out.setOther (g2 := w.heap.size + 1 + 1) (by omega) 3 (.int .u64 (mx : Int))).mods m5 (fun h => h)); have E2 := Lib.hid ((D2.out.setOther (g2 := w.heap.size + 1 + 1) (by omega) 3 (.int .u64 (mx : Int))).mods m5 (fun h => h)); have M5 := Lib.hid ((MV.out.setNew (p := ⟨w.heap.size + 1 + 1, 3, none⟩) (show w.heap.size ≤ w.heap.size + 1 + 1 by omega) (.int .u64 (mx : Int))).trans m5); clear e3 m5 s3 f3))
      have y1 : ∀ V, Mods Nil w5 V → V.cell? ⟨w.heap.size + 1 + 1, 1, none⟩ = some (.int .i64 nw) := fun V hV => (E3.out.mods hV (fun h => h)).sixC.1.2.1
      have y2 : ∀ V, Mods Nil w5 V → V.cell? ⟨w.heap.size + 1 + 1, 2, none⟩ = some (.int .u64 (tu : Int)) := fun V hV => (E3.out.mods hV (fun h => h)).sixC.1.2.2.1
      have N05 := Lib.hid (gq_of (W := w5) (fun V => N0.out V))
      clear hmax RT N5
      cases R with
      | false =>
        refine gq_region (by kernel_rfl) (by kernel_rfl) ?_
        try simp only [Act.put, List.setIfInBounds_toArray, List.set_cons_zero, List.set_cons_succ]
        repeat (first
          | go_big_quiet_skip
          | (go_big_quiet_want; first
              | (refine gq_call N05.out ?_ ?_; (focus (intro V; go_simp; done)); go_big_quiet_on)
              | (refine gq_op (v := ?_) ?_ ?_; rotate_left; (focus (intro V hV; go_simp; try with_reducible rfl)); go_big_quiet_on))
            simp only [Act.put, List.setIfInBounds_toArray, List.set_cons_zero, List.set_cons_succ])
        refine wpQuiet_nil ?_
        intro V6 hV6
        clear y1 y2
        go_wp2_with fail
        exact ⟨⟨j + 1, by omega, by go_num, E1.out.mods hV6 (fun h => h), E2.out.mods hV6 (fun h => h), by rw [HNN.out (by simp)]; exact E3.out.mods hV6 (fun h => h), M5.out.trans hV6⟩, by simp [intOf]; omega⟩
      | true =>
        by_cases htu : tu = 0
        · have hnow := HNW.out
          rw [if_pos htu] at hnow
          subst hnow
          have htz : tu < t0 := by have := (HQ8.out rfl).2; omega
          have HTZ := Lib.hid htz
          clear htz htu
          refine gq_region (by kernel_rfl) (by kernel_rfl) ?_
          try simp only [Act.put, List.setIfInBounds_toArray, List.set_cons_zero, List.set_cons_succ]
          repeat (first
            | go_big_quiet_skip
            | (go_big_quiet_want; first
                | (refine gq_call N05.out ?_ ?_; (focus (intro V; go_simp; done)); go_big_quiet_on)
                | (refine gq_op (v := ?_) ?_ ?_; rotate_left; (focus (intro V hV; go_simp; try with_reducible rfl)); go_big_quiet_on))
              simp only [Act.put, List.setIfInBounds_toArray, List.set_cons_zero, List.set_cons_succ])
          refine wpQuiet_nil ?_
          intro V6 hV6
          clear y1 y2
          have G3 := E3.out.mods hV6 (fun h => h)
          obtain ⟨⟨z0, z1, z2, z3, z4, z5⟩, f0, f1, f2, f3, f4, f5⟩ := G3.sixC
          have HG3 := Lib.hid G3
          have HV6 := Lib.hid hV6
          obtain ⟨hq43, ht0⟩ := HQ8.out rfl
          have hq43I : (q8 : Int) ≤ 43 := by omega
          have hw9 : IntKind.i64.wrap (9 + (q8 : Int)) = 9 + (q8 : Int) := by rw [IntKind.wrap_i64]; omega
          have hwq : IntKind.i64.wrap (q8 : Int) = (q8 : Int) := by rw [IntKind.wrap_i64]; omega
          have hx9 := HXD.out hq43
          have htn : (9 + (q8 : Int)).toNat = 9 + q8 := by omega
          have h90 : (0 : Int) ≤ 9 + (q8 : Int) := by omega
          have h99 : (9 : Int) ≤ 9 + (q8 : Int) := by omega
          have h64 : 9 + (q8 : Int) ≤ 64 := by omega
          clear hV6 G3 ht0
          go_wp2_with (first
            | (go_at_call 94; refine (N0.out _).mono ?_; rintro e w7 ⟨rfl, m7⟩; have G7 := (HG3.out.set_ 1 (.int .i64 (j : Int))).mods m7 (fun h => h); have HG7 := Lib.hid G7; have K1 := Lib.hid (((E1.out.mods HV6.out (fun h => h)).setOther (g2 := w.heap.size + 1 + 1) (by omega) 1 (.int .i64 (j : Int))).mods m7 (fun h => h)); have K2 := Lib.hid (((E2.out.mods HV6.out (fun h => h)).setOther (g2 := w.heap.size + 1 + 1) (by omega) 1 (.int .i64 (j : Int))).mods m7 (fun h => h)); have M7 := Lib.hid (((M5.out.trans HV6.out).setNew (p := ⟨w.heap.size + 1 + 1, 1, none⟩) (show w.heap.size ≤ w.heap.size + 1 + 1 by omega) (.int .i64 (j : Int))).trans m7); clear z0 z1 z2 z3 z4 z5 f0 f1 f2 f3 f4 f5; obtain ⟨⟨z0, z1, z2, z3, z4, z5⟩, f0, f1, f2, f3, f4, f5⟩ := G7.sixC; clear G7 m7))
          refine ⟨⟨j + 1, by omega, by go_num, ((K1.out.setOther (g2 := w.heap.size + 1 + 1) (by omega) 2 _).setOther (g2 := w.heap.size + 1 + 1) (by omega) 4 _), ((K2.out.setOther (g2 := w.heap.size + 1 + 1) (by omega) 2 _).setOther (g2 := w.heap.size + 1 + 1) (by omega) 4 _), ?_, (M7.out.setNew (p := ⟨w.heap.size + 1 + 1, 2, none⟩) (show w.heap.size ≤ w.heap.size + 1 + 1 by omega) _).setNew (p := ⟨w.heap.size + 1 + 1, 4, none⟩) (show w.heap.size ≤ w.heap.size + 1 + 1 by omega) _⟩, by simp [intOf]; omega⟩
          rw [HY.out (by trivial) HTZ.out]
          exact (HG7.out.set_ 2 (.int .u64 (t0 : Int))).set_ 4 (.string (strOf (dataC b)))
        · have hnow := HNW.out
          rw [if_neg htu] at hnow
          have hnwI : decide (nw < 0) = false := by have := HSP.out; simp; omega
          clear hnow htu
          by_cases htz : tu < t0
          · have htzI : (tu : Int) < (t0 : Int) := by omega
            have HTZ := Lib.hid htz
            clear htz
            refine gq_region (by kernel_rfl) (by kernel_rfl) ?_
            try simp only [Act.put, List.setIfInBounds_toArray, List.set_cons_zero, List.set_cons_succ]
            repeat (first
              | go_big_quiet_skip
              | (go_big_quiet_want; first
                  | (refine gq_call N05.out ?_ ?_; (focus (intro V; go_simp; done)); go_big_quiet_on)
                  | (refine gq_op (v := ?_) ?_ ?_; rotate_left; (focus (intro V hV; go_simp; try with_reducible rfl)); go_big_quiet_on))
                simp only [Act.put, List.setIfInBounds_toArray, List.set_cons_zero, List.set_cons_succ])
            refine wpQuiet_nil ?_
            intro V6 hV6
            clear y1 y2
            have G3 := E3.out.mods hV6 (fun h => h)
            obtain ⟨⟨z0, z1, z2, z3, z4, z5⟩, f0, f1, f2, f3, f4, f5⟩ := G3.sixC
            have HG3 := Lib.hid G3
            have HV6 := Lib.hid hV6
            obtain ⟨hq43, ht0⟩ := HQ8.out rfl
            have hq43I : (q8 : Int) ≤ 43 := by omega
            have hw9 : IntKind.i64.wrap (9 + (q8 : Int)) = 9 + (q8 : Int) := by rw [IntKind.wrap_i64]; omega
            have hwq : IntKind.i64.wrap (q8 : Int) = (q8 : Int) := by rw [IntKind.wrap_i64]; omega
            have hx9 := HXD.out hq43
            have htn : (9 + (q8 : Int)).toNat = 9 + q8 := by omega
            have h90 : (0 : Int) ≤ 9 + (q8 : Int) := by omega
            have h99 : (9 : Int) ≤ 9 + (q8 : Int) := by omega
            have h64 : 9 + (q8 : Int) ≤ 64 := by omega
            clear hV6 G3 ht0
            go_wp2_with (first
              | (go_at_call 94; refine (N0.out _).mono ?_; rintro e w7 ⟨rfl, m7⟩; have G7 := (HG3.out.set_ 1 (.int .i64 (j : Int))).mods m7 (fun h => h); have HG7 := Lib.hid G7; have K1 := Lib.hid (((E1.out.mods HV6.out (fun h => h)).setOther (g2 := w.heap.size + 1 + 1) (by omega) 1 (.int .i64 (j : Int))).mods m7 (fun h => h)); have K2 := Lib.hid (((E2.out.mods HV6.out (fun h => h)).setOther (g2 := w.heap.size + 1 + 1) (by omega) 1 (.int .i64 (j : Int))).mods m7 (fun h => h)); have M7 := Lib.hid (((M5.out.trans HV6.out).setNew (p := ⟨w.heap.size + 1 + 1, 1, none⟩) (show w.heap.size ≤ w.heap.size + 1 + 1 by omega) (.int .i64 (j : Int))).trans m7); clear z0 z1 z2 z3 z4 z5 f0 f1 f2 f3 f4 f5; obtain ⟨⟨z0, z1, z2, z3, z4, z5⟩, f0, f1, f2, f3, f4, f5⟩ := G7.sixC; clear G7 m7))
            refine ⟨⟨j + 1, by omega, by go_num, ((K1.out.setOther (g2 := w.heap.size + 1 + 1) (by omega) 2 _).setOther (g2 := w.heap.size + 1 + 1) (by omega) 4 _), ((K2.out.setOther (g2 := w.heap.size + 1 + 1) (by omega) 2 _).setOther (g2 := w.heap.size + 1 + 1) (by omega) 4 _), ?_, (M7.out.setNew (p := ⟨w.heap.size + 1 + 1, 2, none⟩) (show w.heap.size ≤ w.heap.size + 1 + 1 by omega) _).setNew (p := ⟨w.heap.size + 1 + 1, 4, none⟩) (show w.heap.size ≤ w.heap.size + 1 + 1 by omega) _⟩, by simp [intOf]; omega⟩
            rw [HY.out (by trivial) HTZ.out]
            exact (HG7.out.set_ 2 (.int .u64 (t0 : Int))).set_ 4 (.string (strOf (dataC b)))
          · have htzI : decide ((tu : Int) < (t0 : Int)) = false := by simp; omega
            have HTZ := Lib.hid htz
            clear htz
            refine gq_region (by kernel_rfl) (by kernel_rfl) ?_
            try simp only [Act.put, List.setIfInBounds_toArray, List.set_cons_zero, List.set_cons_succ]
            repeat (first
              | go_big_quiet_skip
              | (go_big_quiet_want; first
                  | (refine gq_call N05.out ?_ ?_; (focus (intro V; go_simp; done)); go_big_quiet_on)
                  | (refine gq_op (v := ?_) ?_ ?_; rotate_left; (focus (intro V hV; go_simp; try with_reducible rfl)); go_big_quiet_on))
                simp only [Act.put, List.setIfInBounds_toArray, List.set_cons_zero, List.set_cons_succ])
            refine wpQuiet_nil ?_
            intro V6 hV6
            clear y1 y2
            go_wp2_with fail
            exact ⟨⟨j + 1, by omega, by go_num, E1.out.mods hV6 (fun h => h), E2.out.mods hV6 (fun h => h), by rw [HNN.out (fun h => HTZ.out h.2)]; exact E3.out.mods hV6 (fun h => h), M5.out.trans hV6⟩, by simp [intOf]; omega⟩
    · obtain rfl : j = 2 := by omega
      rw [HE2.out] at hb3
      unfold rcC at hb3
      obtain ⟨q0, hq0⟩ : ∃ q, (cellOpen d at_).at_ = q := ⟨_, rfl⟩
      obtain ⟨q1, hq1⟩ : ∃ q, nowC (cellOpen d at_) = q := ⟨_, rfl⟩
      obtain ⟨q2, hq2⟩ : ∃ q, (cellOpen d at_).turn = q := ⟨_, rfl⟩
      obtain ⟨q3, hq3⟩ : ∃ q, (cellOpen d at_).great = q := ⟨_, rfl⟩
      obtain ⟨q4, hq4⟩ : ∃ q, (cellOpen d at_).data = q := ⟨_, rfl⟩
      obtain ⟨q5, hq5⟩ : ∃ q, (cellOpen d at_).err = q := ⟨_, rfl⟩
      rw [hq0, hq1, hq2, hq3, hq4, hq5] at hb3
      have HV : Hid ((Ending.returned (.tuple #[.agg #[.int .i64 (q0 : Int), .int .i64 q1, .int .u64 (q2 : Int), .int .u64 (q3 : Int), .string (strOf q4), .int .i64 q5], .int .i64 0])) = .returned (.tuple #[.agg (rcC (cellOpen d at_)), .int .i64 0])) := Lib.hid (by unfold rcC; rw [hq0, hq1, hq2, hq3, hq4, hq5])
      obtain ⟨⟨z0, z1, z2, z3, z4, z5⟩, -⟩ := hb3.sixC
      clear HRD HRE HOK HE2 hb3 hb1 hb2 hmo B1 hq0 hq1 hq2 hq3 hq4 hq5
      go_wp2_with (refine wpList_store_mk rfl 71 (.tmp 4) (.tmp 75) rfl rfl (w.heap.size + 1) rfl 71 #[.int .i64 0, .int .i64 0, .int .u64 0, .int .u64 0, .string ⟨#[]⟩, .int .i64 0] #[.int .i64 (q0 : Int), .int .i64 q1, .int .u64 (q2 : Int), .int .u64 (q3 : Int), .string (strOf q4), .int .i64 q5] rfl B2.out rfl (by simp [Value.oneCell']) rc_info (by simp [Value.cells]) ?_; intro w8 b8 m8; obtain ⟨⟨s0, s1, s2, s3, s4, s5⟩, -⟩ := b8.sixC; have M8 := Lib.hid (XM.out.trans2 m8 (fun i hi e => by subst e; omega)); clear b8 m8)
      exact bodyPost_ret (v := .tuple #[.agg #[.int .i64 (q0 : Int), .int .i64 q1, .int .u64 (q2 : Int), .int .u64 (q3 : Int), .string (strOf q4), .int .i64 q5], .int .i64 0]) (by simp [results, Try.results35, go_sem, s0, s1, s2, s3, s4, s5]) rfl ⟨HV.out, M8.out⟩
end Go.Proofs.Ytdllgmhipenidaa
