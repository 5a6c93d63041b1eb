/- The reference of layer 8: Set. -/
import Derived.Test.YtdllgmhipenidaaRef08d
import Derived.Test.YtdllgmhipenidaaRef08b
import Derived.Test.YtdllgmhipenidaaQT
namespace Go.Proofs.Ytdllgmhipenidaa
set_option maxRecDepth 100000
open Go.RowKit
set_option linter.unusedVariables false
set_option linter.unusedSimpArgs false

/-- An operation that reads no memory is taken ahead of all that it doesn't bear on. -/
theorem qt_take8 {P : Program} {l : List Oper} {Q : Exit → Act → World → Prop} {a : Act} {w : World} {v : Value} {o : Oper} (k g : Nat) (hk : l[k]? = some o) (hs : Region.noSelect l.toArray = true) (hf : Region.free .any l.toArray (upto l.toArray k) k = true)
    (hr : (Region.ready .any l.toArray (upto l.toArray k)).contains k = true) (hQ : ∀ c a w, Q (.panic c) (a.put o.dst v) w → Q (.panic c) a w) (hg : Region.wanted o (yielded l.toArray a.tmps) = true) (hv : ∀ w, (execOp a.eval o).run P w = .ok (.value v) w)
    (h : wpAny P .any l.toArray Q g (upto l.toArray (k + 1)) (a.put o.dst v) w) : wpAny P .any l.toArray Q (g + 1) (upto l.toArray k) a w := by
  have hlt : k < l.toArray.size := by
    have := (List.getElem?_eq_some_iff.1 hk).1
    simpa using this
  exact wpAny_take (i := k) (oi := o) (v := v) (by simpa using hk) hs hf hr hQ (.inl ⟨hg, hv⟩) (by rw [upto_set hlt]; exact h)
theorem rcC_tell {c : PCell} (hc : c.Ok) {s : List UInt8} (hs : s.length ≤ 43) (hg : c.great + 1 < 18446744073709551616) (he : c.err = 0) :
    rcC (c.tell s) = #[.int .i64 (c.at_ : Int), .int .i64 (c.spare : Int), .int .u64 ((c.great + 1 : Nat) : Int), .int .u64 ((c.great + 1 : Nat) : Int), .string (strOf s), .int .i64 0] := by
  have h1 := PCell.tell_turn hg s
  have h2 := PCell.tell_data c hs
  have h3 := hc.spare
  unfold rcC nowC
  rw [h1, h2, if_neg (by omega)]
  have e1 : (c.tell s).at_ = c.at_ := rfl
  have e2 : (c.tell s).spare = 1 - c.spare := rfl
  have e3 : (c.tell s).great = c.great + 1 := rfl
  have e4 : (c.tell s).err = 0 := he
  rw [e1, e2, e3, e4, show 1 - ((1 - c.spare : Nat) : Int) = (c.spare : Int) by omega]
/-- Disk, cell and error, told. -/
def RTold8 (w : World) (d : PD) (c : PCell) (err : Int) (e : Ending) (w' : World) : Prop :=
  ∃ A cc B k, e = .returned (.tuple #[rdW A cc B k d, .agg (rcC c), .int .i64 err]) ∧ RdAt w' A cc B k d ∧ Mods Nil w w'
theorem with_ret8 {Q : World → Prop} {W : World} {g h : Nat} {t1 t2 : TypeId} {o1 o2 o3 o4 a b c e p1 p2 p3 p4 p5 p6 q1 q2 q3 q4 q5 q6 : Value} (hne : g ≠ h) (h1 : Blk W g t1 #[o1, o2, o3, o4]) (h2 : Blk W h t2 #[p1, p2, p3, p4, p5, p6])
    (hk : ∀ W6, Blk W6 g t1 #[a, b, c, e] → Blk W6 h t2 #[q1, q2, q3, q4, q5, q6] → Mods (fun k => k = g ∨ k = h) W W6 → Q W6) :
    Q ((((((((((W.setCell ⟨g, 0, none⟩ a).setCell ⟨g, 1, none⟩ b).setCell ⟨g, 2, none⟩ c).setCell ⟨g, 3, none⟩ e).setCell ⟨h, 0, none⟩ q1).setCell ⟨h, 1, none⟩ q2).setCell ⟨h, 2, none⟩ q3).setCell ⟨h, 3, none⟩ q4).setCell ⟨h, 4, none⟩ q5).setCell ⟨h, 5, none⟩ q6) := by
  have f1 := (((h1.set_ 0 a).set_ 1 b).set_ 2 c).set_ 3 e
  simp only [List.setIfInBounds_toArray, List.set_cons_zero, List.set_cons_succ] at f1
  have m1 : Mods (fun k => k = g ∨ k = h) W _ := (((set_mods W g 0 a).setCell (p := ⟨g, 1, none⟩) (fun _ => rfl) b).setCell (p := ⟨g, 2, none⟩) (fun _ => rfl) c).setCell (p := ⟨g, 3, none⟩) (fun _ => rfl) e |>.mono (fun i _ hi => .inl hi)
  have f2 := (((h2.setOther hne.symm 0 a).setOther hne.symm 1 b).setOther hne.symm 2 c).setOther hne.symm 3 e
  generalize (((W.setCell ⟨g, 0, none⟩ a).setCell ⟨g, 1, none⟩ b).setCell ⟨g, 2, none⟩ c).setCell ⟨g, 3, none⟩ e = W1 at f1 f2 m1 ⊢
  have f3 := (((((f2.set_ 0 q1).set_ 1 q2).set_ 2 q3).set_ 3 q4).set_ 4 q5).set_ 5 q6
  simp only [List.setIfInBounds_toArray, List.set_cons_zero, List.set_cons_succ] at f3
  have f4 := (((((f1.setOther hne 0 q1).setOther hne 1 q2).setOther hne 2 q3).setOther hne 3 q4).setOther hne 4 q5).setOther hne 5 q6
  have m2 : Mods (fun k => k = g ∨ k = h) W1 _ := ((((((set_mods W1 h 0 q1).setCell (p := ⟨h, 1, none⟩) (fun _ => rfl) q2).setCell (p := ⟨h, 2, none⟩) (fun _ => rfl) q3).setCell (p := ⟨h, 3, none⟩) (fun _ => rfl) q4).setCell (p := ⟨h, 4, none⟩) (fun _ => rfl) q5).setCell (p := ⟨h, 5, none⟩) (fun _ => rfl) q6).mono (fun i _ hi => .inr hi)
  exact hk _ f4 f3 (m1.trans m2)
/-- The four boxes of a call that takes and gives disk and cell. -/
structure Boxes8 (w : World) (H : Nat) : Prop where
  b1 : ∃ cs, Blk w H 31 cs
  b2 : ∃ cs, Blk w (H + 1) 71 cs
  b3 : ∃ cs, Blk w (H + 1 + 1) 31 cs
  b4 : ∃ cs, Blk w (H + 1 + 1 + 1) 71 cs
theorem Ty6.boxes8 {w : World} {A : Option Addr} {t : TypeId} {H : Nat} (h : Ty6 w A t) (hb : Boxes8 w H) (h1 : t ≠ 31) (h2 : t ≠ 71) : ∀ a, A = some a → ¬ Bx H a.block := fun a ha hx => by
  obtain ⟨⟨c1, b1⟩, ⟨c2, b2⟩, ⟨c3, b3⟩, ⟨c4, b4⟩⟩ := hb
  rcases hx with hx | hx | hx | hx
  · exact h.of_ne b1 h1 a ha hx
  · exact h.of_ne b2 h2 a ha hx
  · exact h.of_ne b3 h1 a ha hx
  · exact h.of_ne b4 h2 a ha hx
theorem RdAt.boxes8 {w w' : World} {A B : Option Addr} {c k H : Nat} {d : PD} (h : RdAt w A c B k d) (hb : Boxes8 w H) (hm : Mods (Bx H) w w') : RdAt w' A c B k d :=
  ⟨h.sure.mods hm (h.tyA.boxes8 hb (by decide) (by decide)), h.waits.off hm (h.tyB.boxes8 hb (by decide) (by decide)), h.tyA.mods hm (h.tyA.boxes8 hb (by decide) (by decide)), h.tyB.mods hm (h.tyB.boxes8 hb (by decide) (by decide))⟩
section
variable {A B : Option Addr} {c k : Nat} {d : PD} {p : PCell} {s : List UInt8} {q : Nat}
theorem Bx.lo {H n : Nat} (h : Bx H n) : H ≤ n := by unfold Bx at h; omega
/-- The early ends: nothing is done. -/
theorem r8set_early (w : World) (h : RdAt w A c B k d) (hs : s.length = q) (er : Int) (hcase : 43 < q ∧ er = 13 ∨ q ≤ 43 ∧ p.err ≠ 0 ∧ er = p.err ∨ q ≤ 43 ∧ p.err = 0 ∧ p.great = 18446744073709551615 ∧ er = 37) :
    Calls Try.prog 37 #[rdW A c B k d, .agg (rcC p), .string (strOf s)] w (RTold8 w d p er) := by
  have hsz : (strOf s).size = q := by simp [hs]
  have HRET : Hid (∀ w', Mods Nil w w' → RTold8 w d p er (.returned (.tuple #[rdW A c B k d, .agg (rcC p), .int .i64 er])) w') := Lib.hid (fun w' m => ⟨A, c, B, k, rfl, h.mods m, m⟩)
  unfold rdW rcC at HRET ⊢
  have HC := Lib.hid hcase
  clear h hs hcase
  generalize d.L.length = n1 at HRET ⊢
  generalize d.W.length = n2 at HRET ⊢
  generalize d.left = left at HRET ⊢
  generalize d.down = down at HRET ⊢
  generalize nowC p = nw at HRET ⊢
  generalize p.turn = tu at HRET ⊢
  generalize p.data = dt at HRET ⊢
  obtain ⟨a, ha⟩ : ∃ a, p.at_ = a := ⟨_, rfl⟩
  rw [ha] at HRET ⊢
  obtain ⟨g, hg⟩ : ∃ g, p.great = g := ⟨_, rfl⟩
  rw [hg] at HC HRET ⊢
  obtain ⟨ce, hce⟩ : ∃ z, p.err = z := ⟨_, rfl⟩
  rw [hce] at HC HRET ⊢
  clear ha hg hce
  rcases HC.out with ⟨h1, rfl⟩ | ⟨h1, h2, rfl⟩ | ⟨h1, rfl, rfl, rfl⟩
  · have h1I : decide ((43 : Int) < (q : Int)) = true := by simp; omega
    clear HC h1
    go_enter Try.func37, Try.ntmps37
    go_wp2
    go_region
    all_goals
      go_wp2
      exact bodyPost_ret (v := .tuple #[.agg #[.slice A n1 c, .slice B n2 k, .int .i64 left, .bool down], .agg #[.int .i64 (a : Int), .int .i64 nw, .int .u64 (tu : Int), .int .u64 (g : Int), .string (strOf dt), .int .i64 ce], .int .i64 13]) (by simp [results, Try.results37, go_sem]) rfl (HRET.out _ (by first | exact ((((((Mods.refl Nil w).alloc _).alloc _).drew).alloc _).alloc _) | exact ((((((Mods.refl Nil w).alloc _).alloc _).alloc _).alloc _).drew)))
  · have h1I : decide ((43 : Int) < (q : Int)) = false := by simp; omega
    have h2B : (er == 0) = false := by simpa using h2
    clear HC h1
    go_enter Try.func37, Try.ntmps37
    go_wp2
    go_region
    all_goals
      go_wp2
      exact bodyPost_ret (v := .tuple #[.agg #[.slice A n1 c, .slice B n2 k, .int .i64 left, .bool down], .agg #[.int .i64 (a : Int), .int .i64 nw, .int .u64 (tu : Int), .int .u64 (g : Int), .string (strOf dt), .int .i64 er], .int .i64 er]) (by simp [results, Try.results37, go_sem]) rfl (HRET.out _ (by first | exact ((((((Mods.refl Nil w).alloc _).alloc _).drew).alloc _).alloc _) | exact ((((((Mods.refl Nil w).alloc _).alloc _).alloc _).alloc _).drew)))
  · have h1I : decide ((43 : Int) < (q : Int)) = false := by simp; omega
    clear HC h1
    go_enter Try.func37, Try.ntmps37
    go_wp2
    go_region
    all_goals
      go_wp2
      exact bodyPost_ret (v := .tuple #[.agg #[.slice A n1 c, .slice B n2 k, .int .i64 left, .bool down], .agg #[.int .i64 (a : Int), .int .i64 nw, .int .u64 (tu : Int), .int .u64 18446744073709551615, .string (strOf dt), .int .i64 0], .int .i64 37]) (by simp [results, Try.results37, go_sem]) rfl (HRET.out _ (by first | exact ((((((Mods.refl Nil w).alloc _).alloc _).drew).alloc _).alloc _) | exact ((((((Mods.refl Nil w).alloc _).alloc _).alloc _).alloc _).drew)))
theorem write_len8 (d : PD) (i : Int) (b : List UInt8) : (d.write i b).1.L.length = d.L.length ∧ (d.write i b).1.W.length ≤ d.W.length + 1 := by
  have h := d.count_L
  unfold PD.write
  split
  · exact ⟨rfl, by simp⟩
  · split
    · exact ⟨rfl, by simp⟩
    · split
      · rw [h.1, h.2]; exact ⟨rfl, by omega⟩
      · exact ⟨by simp [h.1], by simp⟩
theorem PD.write_left {d : PD} (h0 : -1 ≤ d.left) (h1 : d.left ≤ 9223372036854775807) (i : Int) (b : List UInt8) : -1 ≤ (d.write i b).1.left ∧ (d.write i b).1.left ≤ 9223372036854775807 := by
  have hc : -1 ≤ d.count.1.left ∧ d.count.1.left ≤ 9223372036854775807 := by
    unfold PD.count
    split
    · exact ⟨h0, h1⟩
    · dsimp only
      split <;> omega
  unfold PD.write
  split
  · exact ⟨h0, h1⟩
  · split
    · exact ⟨h0, h1⟩
    · split
      · exact hc
      · exact hc
theorem nowC_cases (hp : p.Ok) (hz : p.turn = 0 → p.spare = 0) : (nowC p = -1 ∧ p.spare = 0) ∨ (decide (nowC p < 0) = false ∧ IntKind.i64.wrap (1 - nowC p) = (p.spare : Int)) := by
  have h := hp.spare
  unfold nowC
  by_cases ht : p.turn = 0
  · rw [if_pos ht]
    exact .inl ⟨rfl, hz ht⟩
  · rw [if_neg ht]
    refine .inr ⟨by simp; omega, ?_⟩
    rw [IntKind.wrap_i64]
    omega
set_option maxHeartbeats 6400000 in
theorem r8set_go (w : World) (h : RdAt w A c B k d) (hok : d.Ok) (hlim : d.W.length ≤ 900) (hlin : d.L.length ≤ 900) (h0 : -1 ≤ d.left) (h1 : d.left ≤ 9223372036854775807) (hp : p.Ok) (hz : p.turn = 0 → p.spare = 0) (hs : s.length = q) (hq : q ≤ 43) (he : p.err = 0) (hg : p.great + 1 < 18446744073709551616) :
    Calls Try.prog 37 #[rdW A c B k d, .agg (rcC p), .string (strOf s)] w (RTold8 w (p.set d s).1 (p.set d s).2.1 (p.set d s).2.2) := by
  have hset : p.set d s = if (p.put d (layC (p.great + 1) s)).2 ≠ 0 then ((p.put d (layC (p.great + 1) s)).1, p.fail (p.put d (layC (p.great + 1) s)).2, (p.put d (layC (p.great + 1) s)).2) else ((p.put d (layC (p.great + 1) s)).1, p.tell s, 0) := by
    unfold PCell.set
    rw [if_neg (by omega), if_neg (by simp [he]), if_neg (by omega)]
  rw [hset]
  have hsz : (strOf s).size = q := by simp [hs]
  have hqI : decide ((43 : Int) < (q : Int)) = false := by simp; omega
  have HBL := Lib.hid (fun W => r8block_any W hs hq hg)
  have hl := layC_length (t := p.great + 1) (s := s) (by omega)
  obtain ⟨b, hb⟩ : ∃ b, layC (p.great + 1) s = b := ⟨_, rfl⟩
  rw [hb] at HBL hl ⊢
  obtain ⟨i, hi⟩ : ∃ i, p.at_ + p.spare = i := ⟨_, rfl⟩
  have hput : p.put d b = if (d.write (i : Int) b).2 ≠ 0 then d.write (i : Int) b else (d.write (i : Int) b).1.sync := by unfold PCell.put; rw [hi]
  have HWR := Lib.hid (fun W (m : Mods Nil w W) => r6write_any W (h.mods m) rfl rfl rfl rfl (by omega) h0 h1 (i : Int) hl (fun _ => by simp))
  have HSY : Hid (∀ W A' c' B' k', RdAt W A' c' B' k' (d.write (i : Int) b).1 → Calls Try.prog 76 #[.agg #[.slice A' (d.write (i : Int) b).1.L.length c', .slice B' (d.write (i : Int) b).1.W.length k', .int .i64 (d.write (i : Int) b).1.left, .bool (d.write (i : Int) b).1.down]] W (RTold6 W (d.write (i : Int) b).1.sync.1 (d.write (i : Int) b).1.sync.2)) := Lib.hid (fun W A' c' B' k' hr => by
    have hlen := write_len8 d (i : Int) b
    have hlf := PD.write_left h0 h1 (i : Int) b
    exact r6sync_any W hr (hok.write _ _) rfl rfl rfl rfl (by omega) (by rw [hlen.1]; omega) hlf.1 hlf.2)
  rw [hput]
  have hcs := nowC_cases hp hz
  have HTL : Hid (rcC (p.tell s) = #[.int .i64 (p.at_ : Int), .int .i64 (p.spare : Int), .int .u64 ((p.great + 1 : Nat) : Int), .int .u64 ((p.great + 1 : Nat) : Int), .string (strOf s), .int .i64 0]) := Lib.hid (rcC_tell hp (by omega) hg he)
  have hat := hp.at_
  have hsp := hp.spare
  have HFL : Hid (∀ er, rcC (p.fail er) = #[.int .i64 (p.at_ : Int), .int .i64 (nowC p), .int .u64 (p.turn : Int), .int .u64 (p.great : Int), .string (strOf p.data), .int .i64 er]) := Lib.hid (fun er => rfl)
  have hrc : rcC p = #[.int .i64 (p.at_ : Int), .int .i64 (nowC p), .int .u64 (p.turn : Int), .int .u64 (p.great : Int), .string (strOf p.data), .int .i64 0] := by unfold rcC; rw [he]
  unfold rdW
  rw [hrc]
  clear hset hput hrc hlim hlin h0 h1 hp hz hq hb hl he
  obtain ⟨X, hX⟩ : ∃ X, d.write (i : Int) b = X := ⟨_, rfl⟩
  rw [hX] at HWR HSY ⊢
  clear hX
  obtain ⟨D1, e1⟩ := X
  dsimp only at HWR HSY ⊢
  obtain ⟨nw, hnw⟩ : ∃ z, nowC p = z := ⟨_, rfl⟩
  obtain ⟨tu, htu⟩ : ∃ z, p.turn = z := ⟨_, rfl⟩
  obtain ⟨g, hgg⟩ : ∃ z, p.great = z := ⟨_, rfl⟩
  obtain ⟨dt, hdt⟩ : ∃ z, p.data = z := ⟨_, rfl⟩
  obtain ⟨a, ha⟩ : ∃ z, p.at_ = z := ⟨_, rfl⟩
  obtain ⟨sp, hspp⟩ : ∃ z, p.spare = z := ⟨_, rfl⟩
  rw [hnw, htu, hgg, hdt, ha] at HFL
  rw [hgg, ha, hspp] at HTL
  rw [hnw, htu, hgg, hdt, ha]
  rw [hnw, hspp] at hcs
  rw [hgg] at hg HBL
  rw [ha] at hat hi
  rw [hspp] at hsp hi
  clear hnw htu hgg hdt ha hspp
  have hwi : IntKind.i64.wrap (i : Int) = (i : Int) := by rw [IntKind.wrap_i64]; omega
  have haI : (a : Int) + (sp : Int) = (i : Int) := by omega
  obtain ⟨g1, hg1⟩ : ∃ z, g + 1 = z := ⟨_, rfl⟩
  rw [hg1] at HBL HTL hg
  have hg1I : (g : Int) + 1 = (g1 : Int) := by omega
  have hwg : IntKind.u64.wrap (g1 : Int) = (g1 : Int) := by rw [IntKind.wrap_u64]; omega
  have hgm : ((g : Int) == 18446744073709551615) = false := by simp; omega
  have HSPI : Hid (sp = 0 → a = i) := Lib.hid (fun h => by omega)
  have HFAIL : Hid (∀ (D : PD) (er : Int) (w3 w' : World) A' c' B' k', Mods Nil w w3 → RdAt w3 A' c' B' k' D → Boxes8 w3 w.heap.size → Mods (Bx w.heap.size) w3 w' → RTold8 w D (p.fail er) er (.returned (.tuple #[.agg #[.slice A' D.L.length c', .slice B' D.W.length k', .int .i64 D.left, .bool D.down], .agg #[.int .i64 (a : Int), .int .i64 nw, .int .u64 (tu : Int), .int .u64 (g : Int), .string (strOf dt), .int .i64 er], .int .i64 er])) w') := Lib.hid (fun D er w3 w' A' c' B' k' m3 hr hb hm => ⟨A', c', B', k', by rw [HFL.out]; rfl, hr.boxes8 hb hm, m3.ofBx hm⟩)
  have HTELL : Hid (∀ (D : PD) (w3 w' : World) A' c' B' k', Mods Nil w w3 → RdAt w3 A' c' B' k' D → Boxes8 w3 w.heap.size → Mods (Bx w.heap.size) w3 w' → RTold8 w D (p.tell s) 0 (.returned (.tuple #[.agg #[.slice A' D.L.length c', .slice B' D.W.length k', .int .i64 D.left, .bool D.down], .agg #[.int .i64 (a : Int), .int .i64 (sp : Int), .int .u64 (g1 : Int), .int .u64 (g1 : Int), .string (strOf s), .int .i64 0], .int .i64 0])) w') := Lib.hid (fun D w3 w' A' c' B' k' m3 hr hb hm => ⟨A', c', B', k', by rw [HTL.out]; rfl, hr.boxes8 hb hm, m3.ofBx hm⟩)
  obtain ⟨W, hW⟩ : ∃ W, ((((w.alloc (.cells #[.slice A d.L.length c, .slice B d.W.length k, .int .i64 d.left, .bool d.down] 31)).alloc (.cells #[.int .i64 (a : Int), .int .i64 nw, .int .u64 (tu : Int), .int .u64 (g : Int), .string (strOf dt), .int .i64 0] 71)).alloc (.cells #[.slice none 0 0, .slice none 0 0, .int .i64 0, .bool false] 31)).alloc (.cells #[.int .i64 0, .int .i64 0, .int .u64 0, .int .u64 0, .string ⟨#[]⟩, .int .i64 0] 71)) = W := ⟨_, rfl⟩
  have MW : Hid (Mods Nil w W) := Lib.hid (by rw [← hW]; exact ((((Mods.refl Nil w).alloc _).alloc _).alloc _).alloc _)
  obtain ⟨b1, b2, b3, b4⟩ : Blk W w.heap.size 31 #[.slice A d.L.length c, .slice B d.W.length k, .int .i64 d.left, .bool d.down] ∧ Blk W (w.heap.size + 1) 71 #[.int .i64 (a : Int), .int .i64 nw, .int .u64 (tu : Int), .int .u64 (g : Int), .string (strOf dt), .int .i64 0] ∧ Blk W (w.heap.size + 1 + 1) 31 #[.slice none 0 0, .slice none 0 0, .int .i64 0, .bool false] ∧ Blk W (w.heap.size + 1 + 1 + 1) 71 #[.int .i64 0, .int .i64 0, .int .u64 0, .int .u64 0, .string ⟨#[]⟩, .int .i64 0] := by
    rw [← hW]
    exact four_blk (Mods.refl Nil _)
  have B1 := Lib.hid b1
  have B2 := Lib.hid b2
  have B3 := Lib.hid b3
  have B4 := Lib.hid b4
  have x0 : ∀ V, Mods Nil W V → V.cell? ⟨w.heap.size, 0, none⟩ = some (.slice A d.L.length c) := fun V hV => (B1.out.mods hV (fun h => h)).four6.1.1
  have x1 : ∀ V, Mods Nil W V → V.cell? ⟨w.heap.size, 1, none⟩ = some (.slice B d.W.length k) := fun V hV => (B1.out.mods hV (fun h => h)).four6.1.2.1
  have x2 : ∀ V, Mods Nil W V → V.cell? ⟨w.heap.size, 2, none⟩ = some (.int .i64 d.left) := fun V hV => (B1.out.mods hV (fun h => h)).four6.1.2.2.1
  have x3 : ∀ V, Mods Nil W V → V.cell? ⟨w.heap.size, 3, none⟩ = some (.bool d.down) := fun V hV => (B1.out.mods hV (fun h => h)).four6.1.2.2.2
  have y0 : ∀ V, Mods Nil W V → V.cell? ⟨w.heap.size + 1, 0, none⟩ = some (.int .i64 (a : Int)) := fun V hV => (B2.out.mods hV (fun h => h)).sixC.1.1
  have y3 : ∀ V, Mods Nil W V → V.cell? ⟨w.heap.size + 1, 3, none⟩ = some (.int .u64 (g : Int)) := fun V hV => (B2.out.mods hV (fun h => h)).sixC.1.2.2.2.1
  obtain ⟨⟨p0, p1, p2, p3, p4, p5⟩, -⟩ := b2.sixC
  have HBL2 := Lib.hid (gq_of (W := W) (fun V => HBL.out V))
  clear b1 b2 b3 b4 HBL h hok hat hsp hg hi hg1
  by_cases he1 : e1 = 0
  · subst he1
    rw [if_neg (show ¬ ((0 : Int) ≠ 0) from fun h => h rfl)]
    obtain ⟨Y, hY⟩ : ∃ Y, D1.sync = Y := ⟨_, rfl⟩
    rw [hY] at HSY ⊢
    clear hY
    obtain ⟨D2, e2⟩ := Y
    dsimp only at HSY ⊢
    by_cases he2 : e2 = 0
    · subst he2
      rw [if_neg (show ¬ ((0 : Int) ≠ 0) from fun h => h rfl)]
      dsimp only
      clear HFAIL
      rcases hcs with ⟨rfl, rfl⟩ | ⟨hnwI, hwn⟩
      · obtain rfl : a = i := HSPI.out rfl
        go_enter Try.func37, Try.ntmps37
        go_wp2_with fail
        clear p0 p1 p2 p3 p4 p5
        refine qt_region 16 (by kernel_rfl) rfl ?_
        refine qt_quiet (fun V => Mods Nil W V) 0 10 6 (by kernel_rfl) ((Mods.refl Nil W).drew) ?_
        simp only [List.drop_zero, List.take_succ_cons, List.take_zero]
        repeat (first
          | go_big_quiet_skip
          | (go_big_quiet_want; first
              | (refine gq_call HBL2.out ?_ ?_; (focus (intro V; go_simp; done)); go_big_quiet_on)
              | (refine gq_op (v := ?_) ?_ ?_; rotate_left; (focus (intro V hV; go_simp; try with_reducible rfl)); go_big_quiet_on))
            simp only [Act.put, List.setIfInBounds_toArray, List.set_cons_zero, List.set_cons_succ])
        refine wpQuiet_nil ?_
        intro V hV
        refine qt_call 10 5 (by kernel_rfl) _ rfl rfl _ _ ?_ ((HWR.out V (MW.out.trans hV)).mono ?_)
        · go_simp
        rintro e w3 ⟨A', c', B', k', rfl, r3, m3⟩
        refine ⟨_, rfl, ?_⟩
        simp only [List.getElem_toArray, List.getElem_cons_succ, List.getElem_cons_zero, Act.put, List.setIfInBounds_toArray, List.set_cons_zero, List.set_cons_succ]
        refine qt_take8 11 4 rfl (by kernel_rfl) (by kernel_rfl) (by kernel_rfl) (fun _ _ _ h => h) (by rfl) (v := ?_) ?_ ?_
        rotate_left
        · intro V
          go_simp
          try with_reducible rfl
        simp only [List.getElem_toArray, List.getElem_cons_succ, List.getElem_cons_zero, Act.put, List.setIfInBounds_toArray, List.set_cons_zero, List.set_cons_succ]
        refine qt_take8 12 3 rfl (by kernel_rfl) (by kernel_rfl) (by kernel_rfl) (fun _ _ _ h => h) (by rfl) (v := ?_) ?_ ?_
        rotate_left
        · intro V
          go_simp
          try with_reducible rfl
        simp only [List.getElem_toArray, List.getElem_cons_succ, List.getElem_cons_zero, Act.put, List.setIfInBounds_toArray, List.set_cons_zero, List.set_cons_succ]
        refine qt_take8 13 2 rfl (by kernel_rfl) (by kernel_rfl) (by kernel_rfl) (fun _ _ _ h => h) (by rfl) (v := ?_) ?_ ?_
        rotate_left
        · intro V
          go_simp
          try with_reducible rfl
        simp only [List.getElem_toArray, List.getElem_cons_succ, List.getElem_cons_zero, Act.put, List.setIfInBounds_toArray, List.set_cons_zero, List.set_cons_succ]
        refine qt_list 14 2 rfl (by kernel_rfl) ?_
        simp only [List.drop_succ_cons, List.drop_zero]
        have R3 := Lib.hid r3
        have m33 := hV.trans m3
        have M3 := Lib.hid (MW.out.trans m33)
        have C1 := Lib.hid (B1.out.mods m33 (fun h => h))
        have C2 := Lib.hid (B2.out.mods m33 (fun h => h))
        have C3 := Lib.hid (B3.out.mods m33 (fun h => h))
        have C4 := Lib.hid (B4.out.mods m33 (fun h => h))
        have BX := Lib.hid (Boxes8.mk ⟨_, C1.out⟩ ⟨_, C2.out⟩ ⟨_, C3.out⟩ ⟨_, C4.out⟩)
        clear r3 m3 m33 hV x0 x1 x2 x3 y0 y3 HBL2 B1 B2 B3 B4 MW HWR
        go_wp2_with (first
          | (refine wpList_store_mk rfl 31 (.tmp 3) (.tmp 46) rfl rfl w.heap.size rfl 31 #[.slice A d.L.length c, .slice B d.W.length k, .int .i64 d.left, .bool d.down] #[.slice A' D1.L.length c', .slice B' D1.W.length k', .int .i64 D1.left, .bool D1.down] rfl C1.out rfl (by simp [Value.oneCell']) rd_info (by simp [Value.cells]) ?_; intro w4 b4 m4; have G1 := Lib.hid b4; have G2 := Lib.hid (C2.out.mods m4 (by omega)); have G3 := Lib.hid (C3.out.mods m4 (by omega)); have G4 := Lib.hid (C4.out.mods m4 (by omega)); have M4 : Hid (Mods (Bx w.heap.size) w3 w4) := Lib.hid (m4.mono (fun i _ hi => .inl hi)); obtain ⟨⟨x0, x1, x2, x3⟩, -⟩ := b4.four6; obtain ⟨⟨s0, s1, s2, s3, s4, s5⟩, f0, f1, f2, f3, f4, f5⟩ := G2.out.sixC; clear b4 m4)
          | (go_at_call 76; refine (HSY.out _ _ _ _ _ (R3.out.boxes8 BX.out M4.out)).mono ?_; rintro e w5 ⟨A9, c9, B9, k9, rfl, r5, m5⟩; have R5 := Lib.hid r5; have M5 := Lib.hid ((M3.out.ofBx M4.out).trans m5); have L1 := Lib.hid (G1.out.mods m5 (fun h => h)); have L2 := Lib.hid (G2.out.mods m5 (fun h => h)); have L3 := Lib.hid (G3.out.mods m5 (fun h => h)); have L4 := Lib.hid (G4.out.mods m5 (fun h => h)); have BX5 := Lib.hid (Boxes8.mk ⟨_, L1.out⟩ ⟨_, L2.out⟩ ⟨_, L3.out⟩ ⟨_, L4.out⟩); clear r5 m5 x0 x1 x2 x3 s0 s1 s2 s3 s4 s5 f0 f1 f2 f3 f4 f5 G1 G2 G3 G4)
          | (refine wpList_store_mk rfl 31 (.tmp 3) (.tmp 53) rfl rfl w.heap.size rfl 31 #[.slice A' D1.L.length c', .slice B' D1.W.length k', .int .i64 D1.left, .bool D1.down] #[.slice A9 D2.L.length c9, .slice B9 D2.W.length k9, .int .i64 D2.left, .bool D2.down] rfl L1.out rfl (by simp [Value.oneCell']) rd_info (by simp [Value.cells]) ?_; intro w6 b6 m6; have G1 := Lib.hid b6; have G2 := Lib.hid (L2.out.mods m6 (by omega)); have G3 := Lib.hid (L3.out.mods m6 (by omega)); have G4 := Lib.hid (L4.out.mods m6 (by omega)); have M6 : Hid (Mods (Bx w.heap.size) w5 w6) := Lib.hid (m6.mono (fun i _ hi => .inl hi)); obtain ⟨⟨x0, x1, x2, x3⟩, -⟩ := b6.four6; obtain ⟨⟨s0, s1, s2, s3, s4, s5⟩, f0, f1, f2, f3, f4, f5⟩ := G2.out.sixC; clear b6 m6))
        obtain ⟨⟨y0, y1, y2, y3⟩, g0, g1', g2, g3⟩ := G3.out.four6
        obtain ⟨⟨z0, z1, z2, z3, z4, z5⟩, h0, h1, h2, h3, h4, h5⟩ := G4.out.sixC
        go_region
        go_wp2
        refine with_ret8 (Q := fun W => bodyPost _ _ _ Exit.ret _ W.drew) (by omega) G3.out G4.out ?_
        intro w9 F3 F4 FM
        clear x0 x1 x2 x3 s0 s1 s2 s3 s4 s5 f0 f1 f2 f3 f4 f5 y0 y1 y2 y3 z0 z1 z2 z3 z4 z5 g0 g1' g2 g3 h0 h1 h2 h3 h4 h5
        obtain ⟨⟨y0, y1, y2, y3⟩, -⟩ := F3.four6
        obtain ⟨⟨z0, z1, z2, z3, z4, z5⟩, -⟩ := F4.sixC
        refine bodyPost_ret (v := .tuple #[.agg #[.slice A9 D2.L.length c9, .slice B9 D2.W.length k9, .int .i64 D2.left, .bool D2.down], .agg #[.int .i64 (a : Int), .int .i64 0, .int .u64 (g1 : Int), .int .u64 (g1 : Int), .string (strOf s), .int .i64 0], .int .i64 0]) (by simp [results, Try.results37, go_sem, y0, y1, y2, y3, z0, z1, z2, z3, z4, z5]) rfl (HTELL.out D2 w5 _ A9 c9 B9 k9 M5.out R5.out BX5.out ?_)
        exact (M6.out.trans (S := Bx w.heap.size) (FM.mono (fun i _ hi => by rcases hi with h | h; exact .inr (.inr (.inl h)); exact .inr (.inr (.inr h))))).drew
      · clear HSPI
        go_enter Try.func37, Try.ntmps37
        go_wp2_with fail
        clear p0 p1 p2 p3 p4 p5
        refine qt_region 16 (by kernel_rfl) rfl ?_
        refine qt_quiet (fun V => Mods Nil W V) 0 10 6 (by kernel_rfl) ((Mods.refl Nil W).drew) ?_
        simp only [List.drop_zero, List.take_succ_cons, List.take_zero]
        repeat (first
          | go_big_quiet_skip
          | (go_big_quiet_want; first
              | (refine gq_call HBL2.out ?_ ?_; (focus (intro V; go_simp; done)); go_big_quiet_on)
              | (refine gq_op (v := ?_) ?_ ?_; rotate_left; (focus (intro V hV; go_simp; try with_reducible rfl)); go_big_quiet_on))
            simp only [Act.put, List.setIfInBounds_toArray, List.set_cons_zero, List.set_cons_succ])
        refine wpQuiet_nil ?_
        intro V hV
        refine qt_call 10 5 (by kernel_rfl) _ rfl rfl _ _ ?_ ((HWR.out V (MW.out.trans hV)).mono ?_)
        · go_simp
        rintro e w3 ⟨A', c', B', k', rfl, r3, m3⟩
        refine ⟨_, rfl, ?_⟩
        simp only [List.getElem_toArray, List.getElem_cons_succ, List.getElem_cons_zero, Act.put, List.setIfInBounds_toArray, List.set_cons_zero, List.set_cons_succ]
        refine qt_take8 11 4 rfl (by kernel_rfl) (by kernel_rfl) (by kernel_rfl) (fun _ _ _ h => h) (by rfl) (v := ?_) ?_ ?_
        rotate_left
        · intro V
          go_simp
          try with_reducible rfl
        simp only [List.getElem_toArray, List.getElem_cons_succ, List.getElem_cons_zero, Act.put, List.setIfInBounds_toArray, List.set_cons_zero, List.set_cons_succ]
        refine qt_take8 12 3 rfl (by kernel_rfl) (by kernel_rfl) (by kernel_rfl) (fun _ _ _ h => h) (by rfl) (v := ?_) ?_ ?_
        rotate_left
        · intro V
          go_simp
          try with_reducible rfl
        simp only [List.getElem_toArray, List.getElem_cons_succ, List.getElem_cons_zero, Act.put, List.setIfInBounds_toArray, List.set_cons_zero, List.set_cons_succ]
        refine qt_take8 13 2 rfl (by kernel_rfl) (by kernel_rfl) (by kernel_rfl) (fun _ _ _ h => h) (by rfl) (v := ?_) ?_ ?_
        rotate_left
        · intro V
          go_simp
          try with_reducible rfl
        simp only [List.getElem_toArray, List.getElem_cons_succ, List.getElem_cons_zero, Act.put, List.setIfInBounds_toArray, List.set_cons_zero, List.set_cons_succ]
        refine qt_list 14 2 rfl (by kernel_rfl) ?_
        simp only [List.drop_succ_cons, List.drop_zero]
        have R3 := Lib.hid r3
        have m33 := hV.trans m3
        have M3 := Lib.hid (MW.out.trans m33)
        have C1 := Lib.hid (B1.out.mods m33 (fun h => h))
        have C2 := Lib.hid (B2.out.mods m33 (fun h => h))
        have C3 := Lib.hid (B3.out.mods m33 (fun h => h))
        have C4 := Lib.hid (B4.out.mods m33 (fun h => h))
        have BX := Lib.hid (Boxes8.mk ⟨_, C1.out⟩ ⟨_, C2.out⟩ ⟨_, C3.out⟩ ⟨_, C4.out⟩)
        clear r3 m3 m33 hV x0 x1 x2 x3 y0 y3 HBL2 B1 B2 B3 B4 MW HWR
        go_wp2_with (first
          | (refine wpList_store_mk rfl 31 (.tmp 3) (.tmp 46) rfl rfl w.heap.size rfl 31 #[.slice A d.L.length c, .slice B d.W.length k, .int .i64 d.left, .bool d.down] #[.slice A' D1.L.length c', .slice B' D1.W.length k', .int .i64 D1.left, .bool D1.down] rfl C1.out rfl (by simp [Value.oneCell']) rd_info (by simp [Value.cells]) ?_; intro w4 b4 m4; have G1 := Lib.hid b4; have G2 := Lib.hid (C2.out.mods m4 (by omega)); have G3 := Lib.hid (C3.out.mods m4 (by omega)); have G4 := Lib.hid (C4.out.mods m4 (by omega)); have M4 : Hid (Mods (Bx w.heap.size) w3 w4) := Lib.hid (m4.mono (fun i _ hi => .inl hi)); obtain ⟨⟨x0, x1, x2, x3⟩, -⟩ := b4.four6; obtain ⟨⟨s0, s1, s2, s3, s4, s5⟩, f0, f1, f2, f3, f4, f5⟩ := G2.out.sixC; clear b4 m4)
          | (go_at_call 76; refine (HSY.out _ _ _ _ _ (R3.out.boxes8 BX.out M4.out)).mono ?_; rintro e w5 ⟨A9, c9, B9, k9, rfl, r5, m5⟩; have R5 := Lib.hid r5; have M5 := Lib.hid ((M3.out.ofBx M4.out).trans m5); have L1 := Lib.hid (G1.out.mods m5 (fun h => h)); have L2 := Lib.hid (G2.out.mods m5 (fun h => h)); have L3 := Lib.hid (G3.out.mods m5 (fun h => h)); have L4 := Lib.hid (G4.out.mods m5 (fun h => h)); have BX5 := Lib.hid (Boxes8.mk ⟨_, L1.out⟩ ⟨_, L2.out⟩ ⟨_, L3.out⟩ ⟨_, L4.out⟩); clear r5 m5 x0 x1 x2 x3 s0 s1 s2 s3 s4 s5 f0 f1 f2 f3 f4 f5 G1 G2 G3 G4)
          | (refine wpList_store_mk rfl 31 (.tmp 3) (.tmp 53) rfl rfl w.heap.size rfl 31 #[.slice A' D1.L.length c', .slice B' D1.W.length k', .int .i64 D1.left, .bool D1.down] #[.slice A9 D2.L.length c9, .slice B9 D2.W.length k9, .int .i64 D2.left, .bool D2.down] rfl L1.out rfl (by simp [Value.oneCell']) rd_info (by simp [Value.cells]) ?_; intro w6 b6 m6; have G1 := Lib.hid b6; have G2 := Lib.hid (L2.out.mods m6 (by omega)); have G3 := Lib.hid (L3.out.mods m6 (by omega)); have G4 := Lib.hid (L4.out.mods m6 (by omega)); have M6 : Hid (Mods (Bx w.heap.size) w5 w6) := Lib.hid (m6.mono (fun i _ hi => .inl hi)); obtain ⟨⟨x0, x1, x2, x3⟩, -⟩ := b6.four6; obtain ⟨⟨s0, s1, s2, s3, s4, s5⟩, f0, f1, f2, f3, f4, f5⟩ := G2.out.sixC; clear b6 m6))
        obtain ⟨⟨y0, y1, y2, y3⟩, g0, g1', g2, g3⟩ := G3.out.four6
        obtain ⟨⟨z0, z1, z2, z3, z4, z5⟩, h0, h1, h2, h3, h4, h5⟩ := G4.out.sixC
        go_region
        go_wp2
        refine with_ret8 (Q := fun W => bodyPost _ _ _ Exit.ret _ W.drew) (by omega) G3.out G4.out ?_
        intro w9 F3 F4 FM
        clear x0 x1 x2 x3 s0 s1 s2 s3 s4 s5 f0 f1 f2 f3 f4 f5 y0 y1 y2 y3 z0 z1 z2 z3 z4 z5 g0 g1' g2 g3 h0 h1 h2 h3 h4 h5
        obtain ⟨⟨y0, y1, y2, y3⟩, -⟩ := F3.four6
        obtain ⟨⟨z0, z1, z2, z3, z4, z5⟩, -⟩ := F4.sixC
        refine bodyPost_ret (v := .tuple #[.agg #[.slice A9 D2.L.length c9, .slice B9 D2.W.length k9, .int .i64 D2.left, .bool D2.down], .agg #[.int .i64 (a : Int), .int .i64 (sp : Int), .int .u64 (g1 : Int), .int .u64 (g1 : Int), .string (strOf s), .int .i64 0], .int .i64 0]) (by simp [results, Try.results37, go_sem, y0, y1, y2, y3, z0, z1, z2, z3, z4, z5]) rfl (HTELL.out D2 w5 _ A9 c9 B9 k9 M5.out R5.out BX5.out ?_)
        exact (M6.out.trans (S := Bx w.heap.size) (FM.mono (fun i _ hi => by rcases hi with h | h; exact .inr (.inr (.inl h)); exact .inr (.inr (.inr h))))).drew
    · rw [if_pos he2]
      dsimp only
      have heB : (e2 == 0) = false := by simpa using he2
      clear HTELL he2
      rcases hcs with ⟨rfl, rfl⟩ | ⟨hnwI, hwn⟩
      · obtain rfl : a = i := HSPI.out rfl
        go_enter Try.func37, Try.ntmps37
        go_wp2_with fail
        clear p0 p1 p2 p3 p4 p5
        refine qt_region 16 (by kernel_rfl) rfl ?_
        refine qt_quiet (fun V => Mods Nil W V) 0 10 6 (by kernel_rfl) ((Mods.refl Nil W).drew) ?_
        simp only [List.drop_zero, List.take_succ_cons, List.take_zero]
        repeat (first
          | go_big_quiet_skip
          | (go_big_quiet_want; first
              | (refine gq_call HBL2.out ?_ ?_; (focus (intro V; go_simp; done)); go_big_quiet_on)
              | (refine gq_op (v := ?_) ?_ ?_; rotate_left; (focus (intro V hV; go_simp; try with_reducible rfl)); go_big_quiet_on))
            simp only [Act.put, List.setIfInBounds_toArray, List.set_cons_zero, List.set_cons_succ])
        refine wpQuiet_nil ?_
        intro V hV
        refine qt_call 10 5 (by kernel_rfl) _ rfl rfl _ _ ?_ ((HWR.out V (MW.out.trans hV)).mono ?_)
        · go_simp
        rintro e w3 ⟨A', c', B', k', rfl, r3, m3⟩
        refine ⟨_, rfl, ?_⟩
        simp only [List.getElem_toArray, List.getElem_cons_succ, List.getElem_cons_zero, Act.put, List.setIfInBounds_toArray, List.set_cons_zero, List.set_cons_succ]
        refine qt_take8 11 4 rfl (by kernel_rfl) (by kernel_rfl) (by kernel_rfl) (fun _ _ _ h => h) (by rfl) (v := ?_) ?_ ?_
        rotate_left
        · intro V
          go_simp
          try with_reducible rfl
        simp only [List.getElem_toArray, List.getElem_cons_succ, List.getElem_cons_zero, Act.put, List.setIfInBounds_toArray, List.set_cons_zero, List.set_cons_succ]
        refine qt_take8 12 3 rfl (by kernel_rfl) (by kernel_rfl) (by kernel_rfl) (fun _ _ _ h => h) (by rfl) (v := ?_) ?_ ?_
        rotate_left
        · intro V
          go_simp
          try with_reducible rfl
        simp only [List.getElem_toArray, List.getElem_cons_succ, List.getElem_cons_zero, Act.put, List.setIfInBounds_toArray, List.set_cons_zero, List.set_cons_succ]
        refine qt_take8 13 2 rfl (by kernel_rfl) (by kernel_rfl) (by kernel_rfl) (fun _ _ _ h => h) (by rfl) (v := ?_) ?_ ?_
        rotate_left
        · intro V
          go_simp
          try with_reducible rfl
        simp only [List.getElem_toArray, List.getElem_cons_succ, List.getElem_cons_zero, Act.put, List.setIfInBounds_toArray, List.set_cons_zero, List.set_cons_succ]
        refine qt_list 14 2 rfl (by kernel_rfl) ?_
        simp only [List.drop_succ_cons, List.drop_zero]
        have R3 := Lib.hid r3
        have m33 := hV.trans m3
        have M3 := Lib.hid (MW.out.trans m33)
        have C1 := Lib.hid (B1.out.mods m33 (fun h => h))
        have C2 := Lib.hid (B2.out.mods m33 (fun h => h))
        have C3 := Lib.hid (B3.out.mods m33 (fun h => h))
        have C4 := Lib.hid (B4.out.mods m33 (fun h => h))
        have BX := Lib.hid (Boxes8.mk ⟨_, C1.out⟩ ⟨_, C2.out⟩ ⟨_, C3.out⟩ ⟨_, C4.out⟩)
        clear r3 m3 m33 hV x0 x1 x2 x3 y0 y3 HBL2 B1 B2 B3 B4 MW HWR
        go_wp2_with (first
          | (refine wpList_store_mk rfl 31 (.tmp 3) (.tmp 46) rfl rfl w.heap.size rfl 31 #[.slice A d.L.length c, .slice B d.W.length k, .int .i64 d.left, .bool d.down] #[.slice A' D1.L.length c', .slice B' D1.W.length k', .int .i64 D1.left, .bool D1.down] rfl C1.out rfl (by simp [Value.oneCell']) rd_info (by simp [Value.cells]) ?_; intro w4 b4 m4; have G1 := Lib.hid b4; have G2 := Lib.hid (C2.out.mods m4 (by omega)); have G3 := Lib.hid (C3.out.mods m4 (by omega)); have G4 := Lib.hid (C4.out.mods m4 (by omega)); have M4 : Hid (Mods (Bx w.heap.size) w3 w4) := Lib.hid (m4.mono (fun i _ hi => .inl hi)); obtain ⟨⟨x0, x1, x2, x3⟩, -⟩ := b4.four6; obtain ⟨⟨s0, s1, s2, s3, s4, s5⟩, f0, f1, f2, f3, f4, f5⟩ := G2.out.sixC; clear b4 m4)
          | (go_at_call 76; refine (HSY.out _ _ _ _ _ (R3.out.boxes8 BX.out M4.out)).mono ?_; rintro e w5 ⟨A9, c9, B9, k9, rfl, r5, m5⟩; have R5 := Lib.hid r5; have M5 := Lib.hid ((M3.out.ofBx M4.out).trans m5); have L1 := Lib.hid (G1.out.mods m5 (fun h => h)); have L2 := Lib.hid (G2.out.mods m5 (fun h => h)); have L3 := Lib.hid (G3.out.mods m5 (fun h => h)); have L4 := Lib.hid (G4.out.mods m5 (fun h => h)); have BX5 := Lib.hid (Boxes8.mk ⟨_, L1.out⟩ ⟨_, L2.out⟩ ⟨_, L3.out⟩ ⟨_, L4.out⟩); clear r5 m5 x0 x1 x2 x3 s0 s1 s2 s3 s4 s5 f0 f1 f2 f3 f4 f5 G1 G2 G3 G4)
          | (refine wpList_store_mk rfl 31 (.tmp 3) (.tmp 53) rfl rfl w.heap.size rfl 31 #[.slice A' D1.L.length c', .slice B' D1.W.length k', .int .i64 D1.left, .bool D1.down] #[.slice A9 D2.L.length c9, .slice B9 D2.W.length k9, .int .i64 D2.left, .bool D2.down] rfl L1.out rfl (by simp [Value.oneCell']) rd_info (by simp [Value.cells]) ?_; intro w6 b6 m6; have G1 := Lib.hid b6; have G2 := Lib.hid (L2.out.mods m6 (by omega)); have G3 := Lib.hid (L3.out.mods m6 (by omega)); have G4 := Lib.hid (L4.out.mods m6 (by omega)); have M6 : Hid (Mods (Bx w.heap.size) w5 w6) := Lib.hid (m6.mono (fun i _ hi => .inl hi)); obtain ⟨⟨x0, x1, x2, x3⟩, -⟩ := b6.four6; obtain ⟨⟨s0, s1, s2, s3, s4, s5⟩, f0, f1, f2, f3, f4, f5⟩ := G2.out.sixC; clear b6 m6))
        have E2 : Blk _ (w.heap.size + 1) 71 #[.int .i64 (a : Int), .int .i64 (-1), .int .u64 (tu : Int), .int .u64 (g : Int), .string (strOf dt), .int .i64 e2] := G2.out.set_ 5 (.int .i64 e2)
        have E1 := G1.out.setOther (show w.heap.size ≠ w.heap.size + 1 by omega) 5 (.int .i64 e2)
        have E3 := G3.out.setOther (show w.heap.size + 1 + 1 ≠ w.heap.size + 1 by omega) 5 (.int .i64 e2)
        have E4 := G4.out.setOther (show w.heap.size + 1 + 1 + 1 ≠ w.heap.size + 1 by omega) 5 (.int .i64 e2)
        have MY := Lib.hid (M6.out.trans (S := Bx w.heap.size) ((set_mods _ (w.heap.size + 1) 5 (.int .i64 e2)).mono (fun i _ hi => .inr (.inl hi))))
        generalize w6.setCell ⟨w.heap.size + 1, 5, none⟩ (.int .i64 e2) = w8 at E1 E2 E3 E4 MY ⊢
        clear G1 G2 G3 G4 x0 x1 x2 x3 s0 s1 s2 s3 s4 s5 f0 f1 f2 f3 f4 f5
        obtain ⟨⟨x0, x1, x2, x3⟩, -⟩ := E1.four6
        obtain ⟨⟨s0, s1, s2, s3, s4, s5⟩, -⟩ := E2.sixC
        obtain ⟨⟨y0, y1, y2, y3⟩, g0, g1', g2, g3⟩ := E3.four6
        obtain ⟨⟨z0, z1, z2, z3, z4, z5⟩, h0, h1, h2, h3, h4, h5⟩ := E4.sixC
        have HE3 := Lib.hid E3
        have HE4 := Lib.hid E4
        clear E1 E2 E3 E4
        go_region
        go_wp2
        refine with_ret8 (Q := fun W => bodyPost _ _ _ Exit.ret _ W.drew) (by omega) HE3.out HE4.out ?_
        intro w9 F3 F4 FM
        clear x0 x1 x2 x3 s0 s1 s2 s3 s4 s5 y0 y1 y2 y3 z0 z1 z2 z3 z4 z5 g0 g1' g2 g3 h0 h1 h2 h3 h4 h5
        obtain ⟨⟨y0, y1, y2, y3⟩, -⟩ := F3.four6
        obtain ⟨⟨z0, z1, z2, z3, z4, z5⟩, -⟩ := F4.sixC
        refine bodyPost_ret (v := .tuple #[.agg #[.slice A9 D2.L.length c9, .slice B9 D2.W.length k9, .int .i64 D2.left, .bool D2.down], .agg #[.int .i64 (a : Int), .int .i64 (-1), .int .u64 (tu : Int), .int .u64 (g : Int), .string (strOf dt), .int .i64 e2], .int .i64 e2]) (by simp [results, Try.results37, go_sem, y0, y1, y2, y3, z0, z1, z2, z3, z4, z5]) rfl (HFAIL.out D2 e2 w5 _ A9 c9 B9 k9 M5.out R5.out BX5.out ?_)
        exact (MY.out.trans (S := Bx w.heap.size) (FM.mono (fun i _ hi => by rcases hi with h | h; exact .inr (.inr (.inl h)); exact .inr (.inr (.inr h))))).drew
      · clear HSPI
        go_enter Try.func37, Try.ntmps37
        go_wp2_with fail
        clear p0 p1 p2 p3 p4 p5
        refine qt_region 16 (by kernel_rfl) rfl ?_
        refine qt_quiet (fun V => Mods Nil W V) 0 10 6 (by kernel_rfl) ((Mods.refl Nil W).drew) ?_
        simp only [List.drop_zero, List.take_succ_cons, List.take_zero]
        repeat (first
          | go_big_quiet_skip
          | (go_big_quiet_want; first
              | (refine gq_call HBL2.out ?_ ?_; (focus (intro V; go_simp; done)); go_big_quiet_on)
              | (refine gq_op (v := ?_) ?_ ?_; rotate_left; (focus (intro V hV; go_simp; try with_reducible rfl)); go_big_quiet_on))
            simp only [Act.put, List.setIfInBounds_toArray, List.set_cons_zero, List.set_cons_succ])
        refine wpQuiet_nil ?_
        intro V hV
        refine qt_call 10 5 (by kernel_rfl) _ rfl rfl _ _ ?_ ((HWR.out V (MW.out.trans hV)).mono ?_)
        · go_simp
        rintro e w3 ⟨A', c', B', k', rfl, r3, m3⟩
        refine ⟨_, rfl, ?_⟩
        simp only [List.getElem_toArray, List.getElem_cons_succ, List.getElem_cons_zero, Act.put, List.setIfInBounds_toArray, List.set_cons_zero, List.set_cons_succ]
        refine qt_take8 11 4 rfl (by kernel_rfl) (by kernel_rfl) (by kernel_rfl) (fun _ _ _ h => h) (by rfl) (v := ?_) ?_ ?_
        rotate_left
        · intro V
          go_simp
          try with_reducible rfl
        simp only [List.getElem_toArray, List.getElem_cons_succ, List.getElem_cons_zero, Act.put, List.setIfInBounds_toArray, List.set_cons_zero, List.set_cons_succ]
        refine qt_take8 12 3 rfl (by kernel_rfl) (by kernel_rfl) (by kernel_rfl) (fun _ _ _ h => h) (by rfl) (v := ?_) ?_ ?_
        rotate_left
        · intro V
          go_simp
          try with_reducible rfl
        simp only [List.getElem_toArray, List.getElem_cons_succ, List.getElem_cons_zero, Act.put, List.setIfInBounds_toArray, List.set_cons_zero, List.set_cons_succ]
        refine qt_take8 13 2 rfl (by kernel_rfl) (by kernel_rfl) (by kernel_rfl) (fun _ _ _ h => h) (by rfl) (v := ?_) ?_ ?_
        rotate_left
        · intro V
          go_simp
          try with_reducible rfl
        simp only [List.getElem_toArray, List.getElem_cons_succ, List.getElem_cons_zero, Act.put, List.setIfInBounds_toArray, List.set_cons_zero, List.set_cons_succ]
        refine qt_list 14 2 rfl (by kernel_rfl) ?_
        simp only [List.drop_succ_cons, List.drop_zero]
        have R3 := Lib.hid r3
        have m33 := hV.trans m3
        have M3 := Lib.hid (MW.out.trans m33)
        have C1 := Lib.hid (B1.out.mods m33 (fun h => h))
        have C2 := Lib.hid (B2.out.mods m33 (fun h => h))
        have C3 := Lib.hid (B3.out.mods m33 (fun h => h))
        have C4 := Lib.hid (B4.out.mods m33 (fun h => h))
        have BX := Lib.hid (Boxes8.mk ⟨_, C1.out⟩ ⟨_, C2.out⟩ ⟨_, C3.out⟩ ⟨_, C4.out⟩)
        clear r3 m3 m33 hV x0 x1 x2 x3 y0 y3 HBL2 B1 B2 B3 B4 MW HWR
        go_wp2_with (first
          | (refine wpList_store_mk rfl 31 (.tmp 3) (.tmp 46) rfl rfl w.heap.size rfl 31 #[.slice A d.L.length c, .slice B d.W.length k, .int .i64 d.left, .bool d.down] #[.slice A' D1.L.length c', .slice B' D1.W.length k', .int .i64 D1.left, .bool D1.down] rfl C1.out rfl (by simp [Value.oneCell']) rd_info (by simp [Value.cells]) ?_; intro w4 b4 m4; have G1 := Lib.hid b4; have G2 := Lib.hid (C2.out.mods m4 (by omega)); have G3 := Lib.hid (C3.out.mods m4 (by omega)); have G4 := Lib.hid (C4.out.mods m4 (by omega)); have M4 : Hid (Mods (Bx w.heap.size) w3 w4) := Lib.hid (m4.mono (fun i _ hi => .inl hi)); obtain ⟨⟨x0, x1, x2, x3⟩, -⟩ := b4.four6; obtain ⟨⟨s0, s1, s2, s3, s4, s5⟩, f0, f1, f2, f3, f4, f5⟩ := G2.out.sixC; clear b4 m4)
          | (go_at_call 76; refine (HSY.out _ _ _ _ _ (R3.out.boxes8 BX.out M4.out)).mono ?_; rintro e w5 ⟨A9, c9, B9, k9, rfl, r5, m5⟩; have R5 := Lib.hid r5; have M5 := Lib.hid ((M3.out.ofBx M4.out).trans m5); have L1 := Lib.hid (G1.out.mods m5 (fun h => h)); have L2 := Lib.hid (G2.out.mods m5 (fun h => h)); have L3 := Lib.hid (G3.out.mods m5 (fun h => h)); have L4 := Lib.hid (G4.out.mods m5 (fun h => h)); have BX5 := Lib.hid (Boxes8.mk ⟨_, L1.out⟩ ⟨_, L2.out⟩ ⟨_, L3.out⟩ ⟨_, L4.out⟩); clear r5 m5 x0 x1 x2 x3 s0 s1 s2 s3 s4 s5 f0 f1 f2 f3 f4 f5 G1 G2 G3 G4)
          | (refine wpList_store_mk rfl 31 (.tmp 3) (.tmp 53) rfl rfl w.heap.size rfl 31 #[.slice A' D1.L.length c', .slice B' D1.W.length k', .int .i64 D1.left, .bool D1.down] #[.slice A9 D2.L.length c9, .slice B9 D2.W.length k9, .int .i64 D2.left, .bool D2.down] rfl L1.out rfl (by simp [Value.oneCell']) rd_info (by simp [Value.cells]) ?_; intro w6 b6 m6; have G1 := Lib.hid b6; have G2 := Lib.hid (L2.out.mods m6 (by omega)); have G3 := Lib.hid (L3.out.mods m6 (by omega)); have G4 := Lib.hid (L4.out.mods m6 (by omega)); have M6 : Hid (Mods (Bx w.heap.size) w5 w6) := Lib.hid (m6.mono (fun i _ hi => .inl hi)); obtain ⟨⟨x0, x1, x2, x3⟩, -⟩ := b6.four6; obtain ⟨⟨s0, s1, s2, s3, s4, s5⟩, f0, f1, f2, f3, f4, f5⟩ := G2.out.sixC; clear b6 m6))
        have E2 : Blk _ (w.heap.size + 1) 71 #[.int .i64 (a : Int), .int .i64 nw, .int .u64 (tu : Int), .int .u64 (g : Int), .string (strOf dt), .int .i64 e2] := G2.out.set_ 5 (.int .i64 e2)
        have E1 := G1.out.setOther (show w.heap.size ≠ w.heap.size + 1 by omega) 5 (.int .i64 e2)
        have E3 := G3.out.setOther (show w.heap.size + 1 + 1 ≠ w.heap.size + 1 by omega) 5 (.int .i64 e2)
        have E4 := G4.out.setOther (show w.heap.size + 1 + 1 + 1 ≠ w.heap.size + 1 by omega) 5 (.int .i64 e2)
        have MY := Lib.hid (M6.out.trans (S := Bx w.heap.size) ((set_mods _ (w.heap.size + 1) 5 (.int .i64 e2)).mono (fun i _ hi => .inr (.inl hi))))
        generalize w6.setCell ⟨w.heap.size + 1, 5, none⟩ (.int .i64 e2) = w8 at E1 E2 E3 E4 MY ⊢
        clear G1 G2 G3 G4 x0 x1 x2 x3 s0 s1 s2 s3 s4 s5 f0 f1 f2 f3 f4 f5
        obtain ⟨⟨x0, x1, x2, x3⟩, -⟩ := E1.four6
        obtain ⟨⟨s0, s1, s2, s3, s4, s5⟩, -⟩ := E2.sixC
        obtain ⟨⟨y0, y1, y2, y3⟩, g0, g1', g2, g3⟩ := E3.four6
        obtain ⟨⟨z0, z1, z2, z3, z4, z5⟩, h0, h1, h2, h3, h4, h5⟩ := E4.sixC
        have HE3 := Lib.hid E3
        have HE4 := Lib.hid E4
        clear E1 E2 E3 E4
        go_region
        go_wp2
        refine with_ret8 (Q := fun W => bodyPost _ _ _ Exit.ret _ W.drew) (by omega) HE3.out HE4.out ?_
        intro w9 F3 F4 FM
        clear x0 x1 x2 x3 s0 s1 s2 s3 s4 s5 y0 y1 y2 y3 z0 z1 z2 z3 z4 z5 g0 g1' g2 g3 h0 h1 h2 h3 h4 h5
        obtain ⟨⟨y0, y1, y2, y3⟩, -⟩ := F3.four6
        obtain ⟨⟨z0, z1, z2, z3, z4, z5⟩, -⟩ := F4.sixC
        refine bodyPost_ret (v := .tuple #[.agg #[.slice A9 D2.L.length c9, .slice B9 D2.W.length k9, .int .i64 D2.left, .bool D2.down], .agg #[.int .i64 (a : Int), .int .i64 nw, .int .u64 (tu : Int), .int .u64 (g : Int), .string (strOf dt), .int .i64 e2], .int .i64 e2]) (by simp [results, Try.results37, go_sem, y0, y1, y2, y3, z0, z1, z2, z3, z4, z5]) rfl (HFAIL.out D2 e2 w5 _ A9 c9 B9 k9 M5.out R5.out BX5.out ?_)
        exact (MY.out.trans (S := Bx w.heap.size) (FM.mono (fun i _ hi => by rcases hi with h | h; exact .inr (.inr (.inl h)); exact .inr (.inr (.inr h))))).drew
  · rw [if_pos he1, if_pos he1]
    dsimp only
    have heB : (e1 == 0) = false := by simpa using he1
    clear HTELL HSY he1
    rcases hcs with ⟨rfl, rfl⟩ | ⟨hnwI, hwn⟩
    · obtain rfl : a = i := HSPI.out rfl
      go_enter Try.func37, Try.ntmps37
      go_wp2_with fail
      clear p0 p1 p2 p3 p4 p5
      refine qt_region 16 (by kernel_rfl) rfl ?_
      refine qt_quiet (fun V => Mods Nil W V) 0 10 6 (by kernel_rfl) ((Mods.refl Nil W).drew) ?_
      simp only [List.drop_zero, List.take_succ_cons, List.take_zero]
      repeat (first
        | go_big_quiet_skip
        | (go_big_quiet_want; first
            | (refine gq_call HBL2.out ?_ ?_; (focus (intro V; go_simp; done)); go_big_quiet_on)
            | (refine gq_op (v := ?_) ?_ ?_; rotate_left; (focus (intro V hV; go_simp; try with_reducible rfl)); go_big_quiet_on))
          simp only [Act.put, List.setIfInBounds_toArray, List.set_cons_zero, List.set_cons_succ])
      refine wpQuiet_nil ?_
      intro V hV
      refine qt_call 10 5 (by kernel_rfl) _ rfl rfl _ _ ?_ ((HWR.out V (MW.out.trans hV)).mono ?_)
      · go_simp
      rintro e w3 ⟨A', c', B', k', rfl, r3, m3⟩
      refine ⟨_, rfl, ?_⟩
      simp only [List.getElem_toArray, List.getElem_cons_succ, List.getElem_cons_zero, Act.put, List.setIfInBounds_toArray, List.set_cons_zero, List.set_cons_succ]
      refine qt_take8 11 4 rfl (by kernel_rfl) (by kernel_rfl) (by kernel_rfl) (fun _ _ _ h => h) (by rfl) (v := ?_) ?_ ?_
      rotate_left
      · intro V
        go_simp
        try with_reducible rfl
      simp only [List.getElem_toArray, List.getElem_cons_succ, List.getElem_cons_zero, Act.put, List.setIfInBounds_toArray, List.set_cons_zero, List.set_cons_succ]
      refine qt_take8 12 3 rfl (by kernel_rfl) (by kernel_rfl) (by kernel_rfl) (fun _ _ _ h => h) (by rfl) (v := ?_) ?_ ?_
      rotate_left
      · intro V
        go_simp
        try with_reducible rfl
      simp only [List.getElem_toArray, List.getElem_cons_succ, List.getElem_cons_zero, Act.put, List.setIfInBounds_toArray, List.set_cons_zero, List.set_cons_succ]
      refine qt_take8 13 2 rfl (by kernel_rfl) (by kernel_rfl) (by kernel_rfl) (fun _ _ _ h => h) (by rfl) (v := ?_) ?_ ?_
      rotate_left
      · intro V
        go_simp
        try with_reducible rfl
      simp only [List.getElem_toArray, List.getElem_cons_succ, List.getElem_cons_zero, Act.put, List.setIfInBounds_toArray, List.set_cons_zero, List.set_cons_succ]
      refine qt_list 14 2 rfl (by kernel_rfl) ?_
      simp only [List.drop_succ_cons, List.drop_zero]
      have R3 := Lib.hid r3
      have m33 := hV.trans m3
      have M3 := Lib.hid (MW.out.trans m33)
      have C1 := Lib.hid (B1.out.mods m33 (fun h => h))
      have C2 := Lib.hid (B2.out.mods m33 (fun h => h))
      have C3 := Lib.hid (B3.out.mods m33 (fun h => h))
      have C4 := Lib.hid (B4.out.mods m33 (fun h => h))
      have BX := Lib.hid (Boxes8.mk ⟨_, C1.out⟩ ⟨_, C2.out⟩ ⟨_, C3.out⟩ ⟨_, C4.out⟩)
      clear r3 m3 m33 hV x0 x1 x2 x3 y0 y3 HBL2 B1 B2 B3 B4 MW HWR
      go_wp2_with (first
        | (refine wpList_store_mk rfl 31 (.tmp 3) (.tmp 46) rfl rfl w.heap.size rfl 31 #[.slice A d.L.length c, .slice B d.W.length k, .int .i64 d.left, .bool d.down] #[.slice A' D1.L.length c', .slice B' D1.W.length k', .int .i64 D1.left, .bool D1.down] rfl C1.out rfl (by simp [Value.oneCell']) rd_info (by simp [Value.cells]) ?_; intro w4 b4 m4; have G1 := Lib.hid b4; have G2 := Lib.hid (C2.out.mods m4 (by omega)); have G3 := Lib.hid (C3.out.mods m4 (by omega)); have G4 := Lib.hid (C4.out.mods m4 (by omega)); have M4 : Hid (Mods (Bx w.heap.size) w3 w4) := Lib.hid (m4.mono (fun i _ hi => .inl hi)); obtain ⟨⟨x0, x1, x2, x3⟩, -⟩ := b4.four6; obtain ⟨⟨s0, s1, s2, s3, s4, s5⟩, f0, f1, f2, f3, f4, f5⟩ := G2.out.sixC; clear b4 m4))
      have E2 : Blk _ (w.heap.size + 1) 71 #[.int .i64 (a : Int), .int .i64 (-1), .int .u64 (tu : Int), .int .u64 (g : Int), .string (strOf dt), .int .i64 e1] := G2.out.set_ 5 (.int .i64 e1)
      have E1 := G1.out.setOther (show w.heap.size ≠ w.heap.size + 1 by omega) 5 (.int .i64 e1)
      have E3 := G3.out.setOther (show w.heap.size + 1 + 1 ≠ w.heap.size + 1 by omega) 5 (.int .i64 e1)
      have E4 := G4.out.setOther (show w.heap.size + 1 + 1 + 1 ≠ w.heap.size + 1 by omega) 5 (.int .i64 e1)
      have MY := Lib.hid (M4.out.trans (S := Bx w.heap.size) ((set_mods _ (w.heap.size + 1) 5 (.int .i64 e1)).mono (fun i _ hi => .inr (.inl hi))))
      generalize w4.setCell ⟨w.heap.size + 1, 5, none⟩ (.int .i64 e1) = w8 at E1 E2 E3 E4 MY ⊢
      clear G1 G2 G3 G4 x0 x1 x2 x3 s0 s1 s2 s3 s4 s5 f0 f1 f2 f3 f4 f5
      obtain ⟨⟨x0, x1, x2, x3⟩, -⟩ := E1.four6
      obtain ⟨⟨s0, s1, s2, s3, s4, s5⟩, -⟩ := E2.sixC
      obtain ⟨⟨y0, y1, y2, y3⟩, g0, g1', g2, g3⟩ := E3.four6
      obtain ⟨⟨z0, z1, z2, z3, z4, z5⟩, h0, h1, h2, h3, h4, h5⟩ := E4.sixC
      have HE3 := Lib.hid E3
      have HE4 := Lib.hid E4
      clear E1 E2 E3 E4
      go_region
      go_wp2
      refine with_ret8 (Q := fun W => bodyPost _ _ _ Exit.ret _ W.drew) (by omega) HE3.out HE4.out ?_
      intro w9 F3 F4 FM
      clear x0 x1 x2 x3 s0 s1 s2 s3 s4 s5 y0 y1 y2 y3 z0 z1 z2 z3 z4 z5 g0 g1' g2 g3 h0 h1 h2 h3 h4 h5
      obtain ⟨⟨y0, y1, y2, y3⟩, -⟩ := F3.four6
      obtain ⟨⟨z0, z1, z2, z3, z4, z5⟩, -⟩ := F4.sixC
      refine bodyPost_ret (v := .tuple #[.agg #[.slice A' D1.L.length c', .slice B' D1.W.length k', .int .i64 D1.left, .bool D1.down], .agg #[.int .i64 (a : Int), .int .i64 (-1), .int .u64 (tu : Int), .int .u64 (g : Int), .string (strOf dt), .int .i64 e1], .int .i64 e1]) (by simp [results, Try.results37, go_sem, y0, y1, y2, y3, z0, z1, z2, z3, z4, z5]) rfl (HFAIL.out D1 e1 w3 _ A' c' B' k' M3.out R3.out BX.out ?_)
      exact (MY.out.trans (S := Bx w.heap.size) (FM.mono (fun i _ hi => by rcases hi with h | h; exact .inr (.inr (.inl h)); exact .inr (.inr (.inr h))))).drew
    · clear HSPI
      go_enter Try.func37, Try.ntmps37
      go_wp2_with fail
      clear p0 p1 p2 p3 p4 p5
      refine qt_region 16 (by kernel_rfl) rfl ?_
      refine qt_quiet (fun V => Mods Nil W V) 0 10 6 (by kernel_rfl) ((Mods.refl Nil W).drew) ?_
      simp only [List.drop_zero, List.take_succ_cons, List.take_zero]
      repeat (first
        | go_big_quiet_skip
        | (go_big_quiet_want; first
            | (refine gq_call HBL2.out ?_ ?_; (focus (intro V; go_simp; done)); go_big_quiet_on)
            | (refine gq_op (v := ?_) ?_ ?_; rotate_left; (focus (intro V hV; go_simp; try with_reducible rfl)); go_big_quiet_on))
          simp only [Act.put, List.setIfInBounds_toArray, List.set_cons_zero, List.set_cons_succ])
      refine wpQuiet_nil ?_
      intro V hV
      refine qt_call 10 5 (by kernel_rfl) _ rfl rfl _ _ ?_ ((HWR.out V (MW.out.trans hV)).mono ?_)
      · go_simp
      rintro e w3 ⟨A', c', B', k', rfl, r3, m3⟩
      refine ⟨_, rfl, ?_⟩
      simp only [List.getElem_toArray, List.getElem_cons_succ, List.getElem_cons_zero, Act.put, List.setIfInBounds_toArray, List.set_cons_zero, List.set_cons_succ]
      refine qt_take8 11 4 rfl (by kernel_rfl) (by kernel_rfl) (by kernel_rfl) (fun _ _ _ h => h) (by rfl) (v := ?_) ?_ ?_
      rotate_left
      · intro V
        go_simp
        try with_reducible rfl
      simp only [List.getElem_toArray, List.getElem_cons_succ, List.getElem_cons_zero, Act.put, List.setIfInBounds_toArray, List.set_cons_zero, List.set_cons_succ]
      refine qt_take8 12 3 rfl (by kernel_rfl) (by kernel_rfl) (by kernel_rfl) (fun _ _ _ h => h) (by rfl) (v := ?_) ?_ ?_
      rotate_left
      · intro V
        go_simp
        try with_reducible rfl
      simp only [List.getElem_toArray, List.getElem_cons_succ, List.getElem_cons_zero, Act.put, List.setIfInBounds_toArray, List.set_cons_zero, List.set_cons_succ]
      refine qt_take8 13 2 rfl (by kernel_rfl) (by kernel_rfl) (by kernel_rfl) (fun _ _ _ h => h) (by rfl) (v := ?_) ?_ ?_
      rotate_left
      · intro V
        go_simp
        try with_reducible rfl
      simp only [List.getElem_toArray, List.getElem_cons_succ, List.getElem_cons_zero, Act.put, List.setIfInBounds_toArray, List.set_cons_zero, List.set_cons_succ]
      refine qt_list 14 2 rfl (by kernel_rfl) ?_
      simp only [List.drop_succ_cons, List.drop_zero]
      have R3 := Lib.hid r3
      have m33 := hV.trans m3
      have M3 := Lib.hid (MW.out.trans m33)
      have C1 := Lib.hid (B1.out.mods m33 (fun h => h))
      have C2 := Lib.hid (B2.out.mods m33 (fun h => h))
      have C3 := Lib.hid (B3.out.mods m33 (fun h => h))
      have C4 := Lib.hid (B4.out.mods m33 (fun h => h))
      have BX := Lib.hid (Boxes8.mk ⟨_, C1.out⟩ ⟨_, C2.out⟩ ⟨_, C3.out⟩ ⟨_, C4.out⟩)
      clear r3 m3 m33 hV x0 x1 x2 x3 y0 y3 HBL2 B1 B2 B3 B4 MW HWR
      go_wp2_with (first
        | (refine wpList_store_mk rfl 31 (.tmp 3) (.tmp 46) rfl rfl w.heap.size rfl 31 #[.slice A d.L.length c, .slice B d.W.length k, .int .i64 d.left, .bool d.down] #[.slice A' D1.L.length c', .slice B' D1.W.length k', .int .i64 D1.left, .bool D1.down] rfl C1.out rfl (by simp [Value.oneCell']) rd_info (by simp [Value.cells]) ?_; intro w4 b4 m4; have G1 := Lib.hid b4; have G2 := Lib.hid (C2.out.mods m4 (by omega)); have G3 := Lib.hid (C3.out.mods m4 (by omega)); have G4 := Lib.hid (C4.out.mods m4 (by omega)); have M4 : Hid (Mods (Bx w.heap.size) w3 w4) := Lib.hid (m4.mono (fun i _ hi => .inl hi)); obtain ⟨⟨x0, x1, x2, x3⟩, -⟩ := b4.four6; obtain ⟨⟨s0, s1, s2, s3, s4, s5⟩, f0, f1, f2, f3, f4, f5⟩ := G2.out.sixC; clear b4 m4))
      have E2 : Blk _ (w.heap.size + 1) 71 #[.int .i64 (a : Int), .int .i64 nw, .int .u64 (tu : Int), .int .u64 (g : Int), .string (strOf dt), .int .i64 e1] := G2.out.set_ 5 (.int .i64 e1)
      have E1 := G1.out.setOther (show w.heap.size ≠ w.heap.size + 1 by omega) 5 (.int .i64 e1)
      have E3 := G3.out.setOther (show w.heap.size + 1 + 1 ≠ w.heap.size + 1 by omega) 5 (.int .i64 e1)
      have E4 := G4.out.setOther (show w.heap.size + 1 + 1 + 1 ≠ w.heap.size + 1 by omega) 5 (.int .i64 e1)
      have MY := Lib.hid (M4.out.trans (S := Bx w.heap.size) ((set_mods _ (w.heap.size + 1) 5 (.int .i64 e1)).mono (fun i _ hi => .inr (.inl hi))))
      generalize w4.setCell ⟨w.heap.size + 1, 5, none⟩ (.int .i64 e1) = w8 at E1 E2 E3 E4 MY ⊢
      clear G1 G2 G3 G4 x0 x1 x2 x3 s0 s1 s2 s3 s4 s5 f0 f1 f2 f3 f4 f5
      obtain ⟨⟨x0, x1, x2, x3⟩, -⟩ := E1.four6
      obtain ⟨⟨s0, s1, s2, s3, s4, s5⟩, -⟩ := E2.sixC
      obtain ⟨⟨y0, y1, y2, y3⟩, g0, g1', g2, g3⟩ := E3.four6
      obtain ⟨⟨z0, z1, z2, z3, z4, z5⟩, h0, h1, h2, h3, h4, h5⟩ := E4.sixC
      have HE3 := Lib.hid E3
      have HE4 := Lib.hid E4
      clear E1 E2 E3 E4
      go_region
      go_wp2
      refine with_ret8 (Q := fun W => bodyPost _ _ _ Exit.ret _ W.drew) (by omega) HE3.out HE4.out ?_
      intro w9 F3 F4 FM
      clear x0 x1 x2 x3 s0 s1 s2 s3 s4 s5 y0 y1 y2 y3 z0 z1 z2 z3 z4 z5 g0 g1' g2 g3 h0 h1 h2 h3 h4 h5
      obtain ⟨⟨y0, y1, y2, y3⟩, -⟩ := F3.four6
      obtain ⟨⟨z0, z1, z2, z3, z4, z5⟩, -⟩ := F4.sixC
      refine bodyPost_ret (v := .tuple #[.agg #[.slice A' D1.L.length c', .slice B' D1.W.length k', .int .i64 D1.left, .bool D1.down], .agg #[.int .i64 (a : Int), .int .i64 nw, .int .u64 (tu : Int), .int .u64 (g : Int), .string (strOf dt), .int .i64 e1], .int .i64 e1]) (by simp [results, Try.results37, go_sem, y0, y1, y2, y3, z0, z1, z2, z3, z4, z5]) rfl (HFAIL.out D1 e1 w3 _ A' c' B' k' M3.out R3.out BX.out ?_)
      exact (MY.out.trans (S := Bx w.heap.size) (FM.mono (fun i _ hi => by rcases hi with h | h; exact .inr (.inr (.inl h)); exact .inr (.inr (.inr h))))).drew
end
end Go.Proofs.Ytdllgmhipenidaa
