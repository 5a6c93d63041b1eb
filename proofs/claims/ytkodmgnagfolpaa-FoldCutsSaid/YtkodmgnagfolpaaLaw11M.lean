/- Texts laid as one: Cmds11, Help11, Short11, Awake11, Snap11, Plain11. -/
import Derived.Test.YtkodmgnagfolpaaLawM10
import Derived.Test.YtkodmgnagfolpaaFoldC
import Derived.Test.YtkodmgnagfolpaaFoldD
import Derived.Test.YtkodmgnagfolpaaFoldE
import Derived.Test.YtkodmgnagfolpaaRowsO
import Derived.Test.YtkodmgnagfolpaaRef09a
import Derived.Test.YtkodmgnagfolpaaFoldP

section
/- Commands that are handed in, opened: a slice of structs of seven cells, each with rows of its own. -/
namespace Go.Proofs.Ytkodmgnagfolpaa
set_option maxRecDepth 1000000
open Go.ChangeShapes Go.WideShapes Go.ChangeAt Go.RowKit
set_option linter.unusedVariables false
set_option linter.unusedSimpArgs false

theorem list7 {α : Type} {cs : List α} (h : cs.length = 7) : ∃ c0 c1 c2 c3 c4 c5 c6, cs = [c0, c1, c2, c3, c4, c5, c6] := by
  match cs, h with
  | [c0, c1, c2, c3, c4, c5, c6], _ => exact ⟨c0, c1, c2, c3, c4, c5, c6, rfl⟩
set_option maxHeartbeats 1600000 in
theorem cmd_of_cells {H : Type} {enc : TypeId × Value → H} {W : World} {fuel : Nat} {cs : List Value} {y : DataW H × List MemPlace} (hf : DataW.trod enc Try.prog W 0 (fun _ => true) true fuel 30 cs = some y) :
    ∃ c A n k L, cs = (CV c A n k).toList ∧ c.rows = pws L ∧ Rws W A n k L ∧ (shortB c = true → c.ok) := by
  obtain ⟨xs, n, _, hx, hl, hlen, hfld⟩ := DataW.trod_struct Try.underlying30 hf
  obtain ⟨c0, c1, c2, c3, c4, c5, c6, rfl⟩ := list7 (hl.trans cmd_cells)
  have hlen' : xs.length = 7 := hlen
  have hone := cmd_one _ Try.underlying30
  obtain ⟨y0, g0⟩ : ∃ y, DataW.trod enc Try.prog W 0 (fun _ => true) true n 3 [c0] = some y := fld10 hone hfld 0 _ rfl c0 rfl (by omega)
  obtain ⟨y1, g1⟩ : ∃ y, DataW.trod enc Try.prog W 0 (fun _ => true) true n 27 [c1] = some y := fld10 hone hfld 1 _ rfl c1 rfl (by omega)
  obtain ⟨y2, g2⟩ : ∃ y, DataW.trod enc Try.prog W 0 (fun _ => true) true n 27 [c2] = some y := fld10 hone hfld 2 _ rfl c2 rfl (by omega)
  obtain ⟨y3, g3⟩ : ∃ y, DataW.trod enc Try.prog W 0 (fun _ => true) true n 3 [c3] = some y := fld10 hone hfld 3 _ rfl c3 rfl (by omega)
  obtain ⟨y4, g4⟩ : ∃ y, DataW.trod enc Try.prog W 0 (fun _ => true) true n 3 [c4] = some y := fld10 hone hfld 4 _ rfl c4 rfl (by omega)
  obtain ⟨y5, g5⟩ : ∃ y, DataW.trod enc Try.prog W 0 (fun _ => true) true n 27 [c5] = some y := fld10 hone hfld 5 _ rfl c5 rfl (by omega)
  obtain ⟨y6, g6⟩ : ∃ y, DataW.trod enc Try.prog W 0 (fun _ => true) true n 28 [c6] = some y := fld10 hone hfld 6 _ rfl c6 rfl (by omega)
  obtain ⟨z0, e0, -, wf0⟩ := DataW.trod_int Try.underlying3 g0
  obtain rfl : c0 = .int .i64 z0 := by simpa using e0
  replace wf0 := i64_wf10 wf0
  obtain ⟨z1, e1, -, wf1⟩ := DataW.trod_int Try.underlying27 g1
  obtain rfl : c1 = .int .u64 z1 := by simpa using e1
  replace wf1 := u64_wf10 wf1
  obtain ⟨z2, e2, -, wf2⟩ := DataW.trod_int Try.underlying27 g2
  obtain rfl : c2 = .int .u64 z2 := by simpa using e2
  replace wf2 := u64_wf10 wf2
  obtain ⟨z3, e3, -, wf3⟩ := DataW.trod_int Try.underlying3 g3
  obtain rfl : c3 = .int .i64 z3 := by simpa using e3
  replace wf3 := i64_wf10 wf3
  obtain ⟨z4, e4, -, wf4⟩ := DataW.trod_int Try.underlying3 g4
  obtain rfl : c4 = .int .i64 z4 := by simpa using e4
  replace wf4 := i64_wf10 wf4
  obtain ⟨z5, e5, -, wf5⟩ := DataW.trod_int Try.underlying27 g5
  obtain rfl : c5 = .int .u64 z5 := by simpa using e5
  replace wf5 := u64_wf10 wf5
  obtain ⟨A6, l6, k6, e6⟩ := Joins.slice_form Try.underlying28 g6
  obtain rfl : c6 = .slice A6 l6 k6 := by simpa using e6
  obtain ⟨l, hl⟩ := open_acts (ks := [.int .i64, .u64s]) (enc := enc) Try.underlying28 Try.underlying52 ⟨Try.underlying3, rfl, (by kernel_rfl), ⟨_, Try.underlying34, Try.underlying27, (by kernel_rfl)⟩, rfl, (by kernel_rfl), trivial⟩ (by kernel_rfl) (by simp) (W := W) (a0 := A6) (len := l6) (cap := k6) (d0 := y6.1) (p := y6.2) ⟨n, by simpa [Value.cells] using g6⟩
  obtain ⟨L, rfl, hR⟩ := rws_of_acts hl
  refine ⟨{ op := z0, client := z1.toNat, seq := z2.toNat, shard := z3, segs := z4, pos := z5.toNat, rows := pws L }, A6, l6, k6, L, ?_, rfl, hR, ?_⟩
  · show _ = (CV _ _ _ _).toList
    unfold CV
    simp only [Int.toNat_of_nonneg wf1.1, Int.toNat_of_nonneg wf2.1, Int.toNat_of_nonneg wf5.1]
  · intro hs
    simp only [shortB, Bool.and_eq_true, decide_eq_true_eq, List.all_eq_true] at hs
    exact ⟨wf0, by simp only; omega, by simp only; omega, wf3, wf4, by simp only; omega, rows_ok hR hs.2, by simp only; omega⟩

/-- A command where it lies: its fields, its rows. -/
structure CmdP where
  c : PC
  A : Option Addr
  n : Nat
  k : Nat
  L : List RowP
structure CmdP.good (W : World) (q : CmdP) : Prop where
  rows : q.c.rows = pws q.L
  rws : Rws W q.A q.n q.k q.L
  ok : shortB q.c = true → q.c.ok
theorem CmdP.good.mods {W W' : World} {q : CmdP} (h : q.good W) (hm : Mods Nil W W') : q.good W' := ⟨h.rows, Acts.mods h.rws hm, h.ok⟩
/-- Commands in memory. -/
structure Cmds (W : World) (a0 : Option Addr) (len cap : Nat) (l : List CmdP) : Prop where
  size : l.length = len
  le : len ≤ cap
  most : cap ≤ maxLen
  cells : 0 < len → ∃ b off, a0 = some ⟨b, off, none⟩ ∧ b < W.heap.size ∧ ∀ i q, l[i]? = some q → ∀ j v, (CV q.c q.A q.n q.k).toList[j]? = some v → W.cell? ⟨b, off + (i * 7 + j), none⟩ = some v
  good : ∀ q ∈ l, q.good W
theorem Cmds.mods {W W' : World} {a0 : Option Addr} {len cap : Nat} {l : List CmdP} (h : Cmds W a0 len cap l) (hm : Mods Nil W W') : Cmds W' a0 len cap l := by
  refine ⟨h.size, h.le, h.most, fun h0 => ?_, fun q hq => (h.good q hq).mods hm⟩
  obtain ⟨b, off, e, hlt, hc⟩ := h.cells h0
  exact ⟨b, off, e, Nat.lt_of_lt_of_le hlt hm.size, fun i x hx j v hv => (World.cell?_of_block (hm.block b hlt (fun h => h))).trans (hc i x hx j v hv)⟩
/-- One of them: its seven cells. -/
theorem Cmds.at_ {W : World} {a0 : Option Addr} {len cap : Nat} {l : List CmdP} (h : Cmds W a0 len cap l) {j : Nat} (hj : j < len) :
    ∃ b off q, a0 = some ⟨b, off, none⟩ ∧ b < W.heap.size ∧ l[j]? = some q ∧ q.good W
      ∧ W.cell? ⟨b, off + (j * 7 + 0), none⟩ = some (.int .i64 q.c.op) ∧ W.cell? ⟨b, off + (j * 7 + 1), none⟩ = some (.int .u64 (q.c.client : Int)) ∧ W.cell? ⟨b, off + (j * 7 + 2), none⟩ = some (.int .u64 (q.c.seq : Int))
      ∧ W.cell? ⟨b, off + (j * 7 + 3), none⟩ = some (.int .i64 q.c.shard) ∧ W.cell? ⟨b, off + (j * 7 + 4), none⟩ = some (.int .i64 q.c.segs) ∧ W.cell? ⟨b, off + (j * 7 + 5), none⟩ = some (.int .u64 (q.c.pos : Int)) ∧ W.cell? ⟨b, off + (j * 7 + 6), none⟩ = some (.slice q.A q.n q.k) := by
  have hl := h.size
  obtain ⟨b, off, e, hb, hc⟩ := h.cells (by omega)
  have hx : l[j]? = some (l[j]'(by omega)) := List.getElem?_eq_getElem (by omega)
  have hq := hc j _ hx
  exact ⟨b, off, _, e, hb, hx, h.good _ (List.mem_of_getElem? hx), hq 0 _ rfl, hq 1 _ rfl, hq 2 _ rfl, hq 3 _ rfl, hq 4 _ rfl, hq 5 _ rfl, hq 6 _ rfl⟩
theorem open_cmds {H : Type} {enc : TypeId × Value → H} {t : TypeId} (ht : Try.prog.underlying t = some (.slice 30)) {W : World} {a0 : Option Addr} {len cap : Nat} {d0 : DataW H} {p : List MemPlace}
    (h0 : DataW.Trod enc Try.prog W 0 (fun _ => true) true t (.slice a0 len cap) d0 p) : ∃ l : List CmdP, Cmds W a0 len cap l := by
  obtain ⟨fuel, hfu⟩ := h0
  rcases Go.Deep.open_slice ht hfu with ⟨hcs, hx⟩ | ⟨a, ln, cp, m, n, D, Pl, hcs, _, hl, hm, hmm, _, hV⟩
  · simp [Value.cells] at hcs
    obtain ⟨rfl, rfl, rfl⟩ := hcs
    exact ⟨[], rfl, Nat.le_refl _, Nat.zero_le _, fun h => by omega, fun _ h => by cases h⟩
  · simp [Value.cells] at hcs
    obtain ⟨rfl, rfl, rfl⟩ := hcs
    simp only [if_true] at hmm
    subst hmm
    haveI : Inhabited CmdP := ⟨⟨{}, none, 0, 0, []⟩⟩
    obtain ⟨R, hR⟩ := Go.Deep.choose_lt (α := CmdP) (n := m) (p := fun i q => q.good W ∧ ∀ j v, (CV q.c q.A q.n q.k).toList[j]? = some v → W.cell? (a.add (i * 7 + j)) = some v) (fun i hi => by
      obtain ⟨cs', h1, h2⟩ := hV i hi
      rw [cmd_cells] at h1
      obtain ⟨_, hlen, hcell⟩ := World.cells?_some h1
      obtain ⟨c, A, n, k, L, rfl, g1, g2, g3⟩ := cmd_of_cells h2
      refine ⟨⟨c, A, n, k, L⟩, ⟨g1, g2, g3⟩, fun j v hv => ?_⟩
      have hj : j < 7 := (List.getElem?_eq_some_iff.1 hv).1
      have := hcell j (by omega)
      rw [Go.Deep.add_add] at this
      rw [this]; exact hv)
    refine ⟨(List.range len).map R, by simp, hl, hm, fun h0 => ?_, ?_⟩
    · obtain ⟨blk, off, spot⟩ := a
      obtain ⟨r1, r2⟩ := hR 0 (by omega)
      have hc0 := r2 0 _ rfl
      have hspot : spot = none := by simpa [Addr.add] using World.cell?_spot hc0
      subst hspot
      refine ⟨blk, off, rfl, ?_, fun i x hx j v hv => ?_⟩
      · have := World.block_lt_of_cell? W _ hc0
        simpa [Addr.add] using this
      · have hi : i < len := by
          have := (List.getElem?_eq_some_iff.1 hx).1
          simpa using this
        simp [hi] at hx
        subst hx
        have := (hR i (by omega)).2 j v hv
        rw [Addr.add_lit] at this
        exact this
    · intro x hx
      simp at hx
      obtain ⟨i, hi, rfl⟩ := hx
      exact (hR i (by omega)).1
end Go.Proofs.Ytkodmgnagfolpaa
end

section
/- What the statements of layer 11 share: a state that the walk holds, rows that are written out, how long it grows. -/
namespace Go.Proofs.Ytkodmgnagfolpaa
set_option maxRecDepth 1000000
open Go.RowKit
set_option linter.unusedVariables false
set_option linter.unusedSimpArgs false

theorem own_some {w : World} {base n size c : Nat} {e : TypeId} {A : Option Addr} {xs : List Value} (h : w.ownsRow base e size (.slice A n c) n xs) (hn : 0 < n) : ∃ g, A = some ⟨g, 0, none⟩ ∧ g < w.heap.size := by
  obtain ⟨g, cap, cur, e1, -, hg, -⟩ := own_place h hn
  injection e1 with e1
  exact ⟨g, e1, hg⟩

/-- A shard's cells where it lies. -/
theorem sh_lit {w : World} {base n g c : Nat} {l : List ShP} (h : OwnH base w (.slice (some ⟨g, 0, none⟩) n c) l) (hn : l.length = n) {i : Nat} {q : ShP} (hq : l[i]? = some q) :
    w.cell? ⟨g, i * 4, none⟩ = some (.int .i64 q.id) ∧ w.cell? ⟨g, i * 4 + 1, none⟩ = some (.int .i64 q.segs) ∧ w.cell? ⟨g, i * 4 + 2, none⟩ = some (.slice q.A q.lens.length q.c) ∧ w.cell? ⟨g, i * 4 + 3, none⟩ = some (.bool q.fin) := by
  subst hn
  exact ⟨(own_at_lit h.own (shcs_get hq (j := 0) (by omega))).1, (own_at_lit h.own (shcs_get hq (j := 1) (by omega))).1, (own_at_lit h.own (shcs_get hq (j := 2) (by omega))).1, (own_at_lit h.own (shcs_get hq (j := 3) (by omega))).1⟩
theorem OwnH.sl {w : World} {base : Nat} {v : Value} {l : List ShP} (h : OwnH base w v l) {i : Nat} {q : ShP} (hq : l[i]? = some q) : Sl w q.A q.c (nums q.lens) := own_sl (h.rows q (List.mem_of_getElem? hq))

/-! How long what is applied grows. -/
theorem cutF_length (s : PF) {l : List PW} {b : Int} (hb : rowsB l b = true) (hl : l.length ≤ 8) : (cutF s l).2.L.length ≤ s.L.length + 32 := by
  have := putRows_length (j := 0) s (l := l) (fun r hr => (rowsB_cut hb r hr).2.1)
  unfold cutF
  split
  · simp
  · split
    · simp
    · simp; omega
theorem chk_rows {c : PC} (h : chkC c = 0) : (∃ b, rowsB c.rows b = true) ∧ c.rows.length ≤ 8 := by
  have h1 := (chkC_zero.1 h).1
  have := rowsB_len c.rows (-1) (by omega) h1
  exact ⟨⟨_, h1⟩, by omega⟩
theorem sealF_L (s : PF) (k : Int) : (sealF s k).L = s.L := by unfold sealF; cases s.sh k <;> rfl
theorem doF_length (s : PF) {c : PC} (h : chkC c = 0) : (doF s c).2.L.length ≤ s.L.length + 32 := by
  obtain ⟨⟨b, hb⟩, hl⟩ := chk_rows h
  have := cutF_length s hb hl
  unfold doF
  repeat (split <;> (try simp only [sealF_L]) <;> (try omega))
theorem apply_length (s : PF) (c : PC) : (applyF s c).2.L.length ≤ s.L.length + 32 := by
  unfold applyF
  split
  · simp
  · rename_i h
    have := doF_length s (c := c) (by omega)
    split
    · exact this
    · cases s.told c.client c.seq with
      | some e => simp
      | none => exact this

/-! A state that a walk holds. -/
structure At (W0 W : World) (f : FA) (s : PF) (T : Nat) : Prop where
  st : StAt W f s T
  good : s.good
  new : ∀ k, FS f k → W0.heap.size ≤ k
  m : Mods Nil W0 W
  len : s.L.length ≤ 16 * T
section
variable {W0 W W' : World} {f : FA} {s : PF} {T : Nat}
theorem At.nil (h : At W0 W f s T) (hm : Mods Nil W W') : At W0 W' f s T := ⟨h.st.nil hm, h.good, h.new, h.m.trans hm, h.len⟩
theorem At.old (h : At W0 W f s T) {V : World} (hV : Mods (FS f) W V) : Mods Nil W0 V := h.m.nil_trans hV h.new
theorem new_at (w : World) : Calls Try.prog 10 #[] w fun e w' => ∃ f, e = .returned (.pointer (some ⟨f.b, 0, none⟩)) ∧ At w w' f {} 0 :=
  (fnew_any w).mono fun e w' ⟨f, h1, h2, h3, h4⟩ => ⟨f, h1, ⟨h2, good_new, h3, h4, Nat.le_refl _⟩⟩
/-- What is applied: what is told, the state. -/
def ApTold (W0 W : World) (f : FA) (T : Nat) (r : Int × PF) (e : Ending) (W' : World) : Prop := e = .returned (.int .i64 r.1) ∧ ∃ f', f'.b = f.b ∧ At W0 W' f' r.2 (T + 2) ∧ FA.next W f f' ∧ Mods (FS f) W W'
theorem At.apply (h : At W0 W f s T) (hT : T ≤ 1000) (c : PC) (hok : c.ok) {A : Option Addr} {n k : Nat} {L : List RowP} (hr : c.rows = pws L) (hR : ∀ V, Mods (FS f) W V → Rws V A n k L) :
    Calls Try.prog 12 #[.pointer (some ⟨f.b, 0, none⟩), .agg (CV c A n k)] W (ApTold W0 W f T (applyF s c)) :=
  (fapply_any h.st h.good c hok hr hR (by have := h.len; omega) (by omega)).mono fun e W' ⟨h1, f', h2, h3, h4⟩ =>
    ⟨h1, f', h3.1, ⟨h2, apply_good h.good c, fun q hq => by
      rcases h3.2.1 q hq with h5 | h5
      · exact h.new q h5
      · have := h.m.size; omega, h.old h4, by have := apply_length s c; have := h.len; omega⟩, h3, h4⟩
/-- A command that came in. -/
theorem At.apply_in (h : At W0 W f s T) (hT : T ≤ 1000) {q : CmdP} (hq : q.good W0) (hs : shortB q.c = true) :
    Calls Try.prog 12 #[.pointer (some ⟨f.b, 0, none⟩), .agg (CV q.c q.A q.n q.k)] W (ApTold W0 W f T (applyF s q.c)) :=
  h.apply hT q.c (hq.ok hs) hq.rows (fun V hV => Acts.mods hq.rws (h.old hV))
theorem At.len_ (h : At W0 W f s T) (hT : T ≤ 1000) : Calls Try.prog 13 #[.pointer (some ⟨f.b, 0, none⟩)] W fun e W' => e = .returned (.int .u64 (s.n : Int)) ∧ Mods Nil W W' :=
  flen_any h.st h.good.len (by have := h.len; omega)
theorem At.low_ (h : At W0 W f s T) : Calls Try.prog 18 #[.pointer (some ⟨f.b, 0, none⟩)] W fun e W' => e = .returned (.int .u64 (s.low : Int)) ∧ Mods Nil W W' :=
  (flow_any h.st).mono fun e W' ⟨h1, h2⟩ => ⟨h1, by subst h2; exact Mods.refl _ _⟩
theorem At.spans (h : At W0 W f s T) (hT : T ≤ 1000) : Calls Try.prog 17 #[.pointer (some ⟨f.b, 0, none⟩)] W fun e W' => ∃ A c, e = .returned (.slice A s.L.length c) ∧ W'.ownsRow W.heap.size 47 5 (.slice A s.L.length c) s.L.length (rowP s.L) ∧ Mods Nil W W' :=
  (fspans_any h.st (by have := h.len; omega)).mono fun e W' ⟨v, h1, h2, h3⟩ => by
    obtain ⟨A, c, rfl⟩ := own_form h2
    exact ⟨A, c, h1, h2, h3⟩
theorem At.shards (h : At W0 W f s T) (hT : T ≤ 1000) : Calls Try.prog 16 #[.pointer (some ⟨f.b, 0, none⟩)] W fun e W' => ∃ A n c l, e = .returned (.slice A n c) ∧ l.length = n ∧ OwnH W.heap.size W' (.slice A n c) l ∧ l.map ShP.plain = shardsF s ∧ Mods Nil W W' :=
  (fshards_any h.st h.good (by omega)).mono fun e W' ⟨v, l, h1, h2, h3, h4⟩ => by
    obtain ⟨A, c, rfl⟩ := own_form h2.own
    exact ⟨A, _, c, l, h1, rfl, h2, h3, h4⟩
theorem At.find (h : At W0 W f s T) (hT : T ≤ 1000) {p : Nat} (hp : p < 18446744073709551616) : Calls Try.prog 14 #[.pointer (some ⟨f.b, 0, none⟩), .int .u64 (p : Int)] W (FTold W s p) :=
  ffind_any h.st h.good (by have := h.len; omega) hp
theorem At.place (h : At W0 W f s T) (hT : T ≤ 1000) (i g : Int) (hi : in64 i) {o : Nat} (ho : o < 18446744073709551616) : Calls Try.prog 15 #[.pointer (some ⟨f.b, 0, none⟩), .int .i64 i, .int .i64 g, .int .u64 (o : Int)] W (PTold W s i g o) :=
  fplace_any h.st h.good (by have := h.len; omega) i g hi ho
/-- Rows that none of the state's blocks holds stay, whatever is written to it. -/
theorem At.rows (h : At W0 W f s T) {B : Nat} {A : Option Addr} {n k : Nat} {L : List RowP} (ho : OwnR 52 B W (.slice A n k) L) (hoff : ∀ q ∈ L, q.off (FS f)) : ∀ V, Mods (FS f) W V → Rws V A n k L := fun V hV => by
  have h1 := ho.mods hV (fun i hi hf => by
    rcases hf with rfl | rfl | rfl | hf
    · exact own_blk_ne ho.own h.st.blk (by decide) hi
    · exact isMap_own h.st.map1 ho.own hi
    · exact isMap_own h.st.map2 ho.own hi
    · exact own_own_ne ho.own h.st.spans (by decide) hi hf) hoff
  obtain ⟨A', c', e, hr, -⟩ := h1.rws
  injection e with e1 e2 e3
  subst e1; subst e2; subst e3
  exact hr
theorem blk_new2 (w : World) (o : Obj) (t : TypeId) (cs : Array Value) : Blk ((w.alloc o).alloc (.cells cs t)) (w.heap.size + 1) t cs := by
  have := Blk.new (w.alloc o) t cs
  rwa [World.size_alloc] at this
/-- One row that is written out. -/
theorem row_own {g1 g2 m : Nat} {x : Int} {xs : List Nat} {cs : Array Value} (b1 : Blk W g1 27 cs) (hcs : cs.toList = nums xs) (hm : xs.length = m) (hm2 : m ≤ maxLen) (b2 : Blk W g2 52 #[.int .i64 x, .slice (some ⟨g1, 0, none⟩) m m])
    (hx : -9223372036854775808 ≤ x ∧ x ≤ 9223372036854775807) (hlt : ∀ y ∈ xs, y < 18446744073709551616) : OwnR 52 0 W (.slice (some ⟨g2, 0, none⟩) 1 1) [⟨x, some ⟨g1, 0, none⟩, m, xs⟩] := by
  subst hm
  refine ⟨⟨rfl, .inr ⟨g2, 1, _, rfl, Nat.zero_le _, b2, Nat.le_refl _, by unfold maxLen; omega, rfl, rfl⟩⟩, ?_, ?_, ?_, ?_⟩
  · intro q hq
    rw [List.mem_singleton.1 hq]
    refine ⟨by rw [nums_length]; exact Nat.le_refl _, hm2, (fun h => by cases h), .inr ⟨g1, 0, rfl, fun j u hu => ?_⟩⟩
    rw [Nat.zero_add, b1.cell]
    rw [← hcs] at hu
    simpa using hu
  · intro q hq; rw [List.mem_singleton.1 hq]; exact hlt
  · intro q hq; rw [List.mem_singleton.1 hq]; exact hx
  · intro q hq; rw [List.mem_singleton.1 hq]; intro hne a ha h; injection ha with ha; subst ha
    have : g2 = g1 := by simpa [Value.ownBlock] using h
    exact Blk.ne_ b1 b2 (by decide) this.symm
/-- Rows of a command in memory, their lengths in blocks of numbers. -/
def RowsAt (W : World) (A : Option Addr) (n k : Nat) (L : List RowP) : Prop := (∃ B, OwnR 52 B W (.slice A n k) L) ∧ ∀ q ∈ L, nums q.lens ≠ [] → ∀ a, q.A = some a → ∃ cs, Blk W a.block 27 cs
theorem RowsAt.nil {W' : World} {A : Option Addr} {n k : Nat} {L : List RowP} (h : RowsAt W A n k L) (hm : Mods Nil W W') : RowsAt W' A n k L := by
  obtain ⟨⟨B, h1⟩, h2⟩ := h
  exact ⟨⟨B, h1.nilm hm⟩, fun q hq hne a ha => by obtain ⟨cs, hc⟩ := h2 q hq hne a ha; exact ⟨cs, hc.mods hm (fun h => h)⟩⟩
theorem RowsAt.stay {A : Option Addr} {n k : Nat} {L : List RowP} (hr : RowsAt W A n k L) (h : At W0 W f s T) : ∀ V, Mods (FS f) W V → Rws V A n k L := by
  obtain ⟨⟨B, h1⟩, h2⟩ := hr
  exact h.rows h1 (fun q hq hne a ha hf => by
    obtain ⟨cs, hc⟩ := h2 q hq hne a ha
    exact FS_off h.st hc (by decide) (by decide) hf)
theorem row_at {g1 g2 m : Nat} {x : Int} {xs : List Nat} {cs : Array Value} (b1 : Blk W g1 27 cs) (hcs : cs.toList = nums xs) (hm : xs.length = m) (hm2 : m ≤ maxLen) (b2 : Blk W g2 52 #[.int .i64 x, .slice (some ⟨g1, 0, none⟩) m m])
    (hx : -9223372036854775808 ≤ x ∧ x ≤ 9223372036854775807) (hlt : ∀ y ∈ xs, y < 18446744073709551616) : RowsAt W (some ⟨g2, 0, none⟩) 1 1 [⟨x, some ⟨g1, 0, none⟩, m, xs⟩] :=
  ⟨⟨0, row_own b1 hcs hm hm2 b2 hx hlt⟩, fun q hq hne a ha => by
    rw [List.mem_singleton.1 hq] at ha
    injection ha with ha
    subst ha
    exact ⟨cs, b1⟩⟩
end

/-! A state by its pointer; blocks X that it never touches. -/
/-- Which blocks hold no lengths of a shard's may be told anew. -/
theorem At.setY {W0 W W' : World} {f : FA} {s : PF} {T : Nat} {S : Nat → Prop} (h : At W0 W f s T) (hm : Mods S W W') (hS : ∀ k, S k → f.Y k) (hF : ∀ k, S k → ¬ FS f k) (h0 : ∀ k, S k → W0.heap.size ≤ k) {Z : Nat → Prop} (hZ : ∀ k, Z k → (f.Y k ∨ W.heap.size ≤ k) ∧ k < W'.heap.size) : At W0 W' { f with Y := Z } s T :=
  ⟨h.st.modsY hm hS hF hZ, h.good, h.new, h.m.nil_trans hm h0, h.len⟩
theorem At.none {W0 W : World} {f : FA} {s : PF} {T : Nat} (h : At W0 W f s T) : At W0 W { f with Y := Nil } s T :=
  h.setY (Mods.refl Nil W) (fun _ h => h.elim) (fun _ h => h.elim) (fun _ h => h.elim) (fun _ h => h.elim)
def HasS (W0 W : World) (X : Nat → Prop) (b : Nat) (s : PF) (T : Nat) : Prop := ∃ f : FA, f.b = b ∧ At W0 W f s T ∧ (∀ k, FS f k → ¬ X k) ∧ (∀ k, X k → k < W.heap.size) ∧ f.Y = X
section
variable {W0 W W' : World} {X : Nat → Prop} {b : Nat} {s : PF} {T : Nat}
theorem HasS.nil (h : HasS W0 W X b s T) (hm : Mods Nil W W') : HasS W0 W' X b s T := by
  obtain ⟨f, h1, h2, h3, h4, h5⟩ := h
  exact ⟨f, h1, h2.nil hm, h3, fun k hk => Nat.lt_of_lt_of_le (h4 k hk) hm.size, h5⟩
theorem HasS.m (h : HasS W0 W X b s T) : Mods Nil W0 W := by obtain ⟨f, h1, h2, h3, h4⟩ := h; exact h2.m
theorem HasS.good (h : HasS W0 W X b s T) : s.good := by obtain ⟨f, h1, h2, h3, h4⟩ := h; exact h2.good
theorem HasS.len (h : HasS W0 W X b s T) : s.L.length ≤ 16 * T := by obtain ⟨f, h1, h2, h3, h4⟩ := h; exact h2.len
/-- New blocks are none of its. -/
theorem HasS.keep (h : HasS W0 W X b s T) (hm : Mods Nil W W') : HasS W0 W' (fun k => W.heap.size ≤ k ∧ k < W'.heap.size) b s T := by
  obtain ⟨f, h1, h2, h3, h4⟩ := h
  exact ⟨{ f with Y := fun k => W.heap.size ≤ k ∧ k < W'.heap.size }, h1, h2.setY hm (fun _ h => h.elim) (fun _ h => h.elim) (fun _ h => h.elim) (fun k hk => ⟨.inr hk.1, hk.2⟩), fun k hk hx => by have := h2.st.lt k hk; omega, fun k hk => hk.2, rfl⟩
/-- Blocks X may change; they, and new ones, are none of its. -/
theorem HasS.keepX (h : HasS W0 W X b s T) (hm : Mods X W W') (h0 : ∀ k, X k → W0.heap.size ≤ k) : HasS W0 W' (fun k => X k ∨ W.heap.size ≤ k ∧ k < W'.heap.size) b s T := by
  obtain ⟨f, h1, h2, h3, h4, h5⟩ := h
  refine ⟨{ f with Y := fun k => X k ∨ W.heap.size ≤ k ∧ k < W'.heap.size }, h1, h2.setY hm (fun k hk => by rw [h5]; exact hk) (fun k hk hf => h3 k hf hk) h0 (Z := fun k => X k ∨ W.heap.size ≤ k ∧ k < W'.heap.size) (fun k hk => ?_), fun k hk hx => ?_, fun k hk => ?_, rfl⟩
  · rcases hk with hk | hk
    · exact ⟨.inl (by rw [h5]; exact hk), Nat.lt_of_lt_of_le (h4 k hk) hm.size⟩
    · exact ⟨.inr hk.1, hk.2⟩
  · rcases hx with hx | hx
    · exact h3 k hk hx
    · have := h2.st.lt k hk; omega
  · rcases hk with hk | hk
    · exact Nat.lt_of_lt_of_le (h4 k hk) hm.size
    · exact hk.2
theorem new_has1 {w0 w : World} (hm : Mods Nil w0 w) : Calls Try.prog 10 #[] w fun e w' => ∃ b, e = .returned (.pointer (some ⟨b, 0, none⟩)) ∧ HasS w0 w' Nil b {} 0 :=
  (new_at w).mono fun e w' ⟨f, h1, h2⟩ => ⟨f.b, h1, { f with Y := Nil }, rfl, (show At w0 w' f {} 0 from ⟨h2.st, h2.good, fun k hk => Nat.le_trans hm.size (h2.new k hk), hm.trans h2.m, h2.len⟩).none, fun _ _ h => h, fun _ h => h.elim, rfl⟩
theorem new_has (w : World) : Calls Try.prog 10 #[] w fun e w' => ∃ b, e = .returned (.pointer (some ⟨b, 0, none⟩)) ∧ HasS w w' Nil b {} 0 :=
  (new_at w).mono fun e w' ⟨f, h1, h2⟩ => ⟨f.b, h1, { f with Y := Nil }, rfl, h2.none, fun _ _ h => h, fun _ h => h.elim, rfl⟩
/-- What is applied: what is told, the state; what isn't its own stays. -/
def SaidS (W0 W : World) (X : Nat → Prop) (b T : Nat) (x : Int) (t : PF) (e : Ending) (W' : World) : Prop := e = .returned (.int .i64 x) ∧ HasS W0 W' X b t (T + 2) ∧ Mods (fun k => W0.heap.size ≤ k ∧ ¬ X k) W W'
theorem HasS.of_ap {f : FA} {r : Int × PF} (hb : f.b = b) (h2 : At W0 W f s T) (h3 : ∀ k, FS f k → ¬ X k) (h4 : (∀ k, X k → k < W.heap.size) ∧ f.Y = X) {e : Ending} (h : ApTold W0 W f T r e W') : SaidS W0 W X b T r.1 r.2 e W' := by
  obtain ⟨g1, f', g2, g3, g4, g5⟩ := h
  refine ⟨g1, ⟨f', g2.trans hb, g3, fun k hk hx => ?_, fun k hk => Nat.lt_of_lt_of_le (h4.1 k hk) g5.size, g4.2.2.trans h4.2⟩, g5.mono (fun k _ hk => ⟨h2.new k hk, h3 k hk⟩)⟩
  rcases g4.2.1 k hk with h5 | h5
  · exact h3 k h5 hx
  · have := h4.1 k hx; omega
theorem HasS.apply_in (h : HasS W0 W X b s T) (hT : T ≤ 1000) {q : CmdP} (hq : q.good W0) (hs : shortB q.c = true) :
    Calls Try.prog 12 #[.pointer (some ⟨b, 0, none⟩), .agg (CV q.c q.A q.n q.k)] W (SaidS W0 W X b T (applyF s q.c).1 (applyF s q.c).2) := by
  obtain ⟨f, rfl, h2, h3, h4⟩ := h
  exact (h2.apply_in hT hq hs).mono fun e W' h => HasS.of_ap rfl h2 h3 h4 h
/-- A command that is written out. -/
theorem HasS.say (h : HasS W0 W X b s T) (hT : T ≤ 1000) {op shard segs : Int} {pos : Nat} (h1 : -9223372036854775808 ≤ op ∧ op ≤ 9223372036854775807) (h2 : -9223372036854775808 ≤ shard ∧ shard ≤ 9223372036854775807) (h3 : -9223372036854775808 ≤ segs ∧ segs ≤ 9223372036854775807) (h4 : pos < 18446744073709551616)
    {A : Option Addr} {n k : Nat} {L : List RowP} (hl : ∀ q ∈ L, q.lens.length ≤ 1000) (hn : n ≤ 1000) (hR : RowsAt W A n k L) :
    Calls Try.prog 12 #[.pointer (some ⟨b, 0, none⟩), .agg #[.int .i64 op, .int .u64 0, .int .u64 0, .int .i64 shard, .int .i64 segs, .int .u64 (pos : Int), .slice A n k]] W (SaidS W0 W X b T (applyF s ⟨op, 0, 0, shard, segs, pos, pws L⟩).1 (applyF s ⟨op, 0, 0, shard, segs, pos, pws L⟩).2) := by
  obtain ⟨f, rfl, g2, g3, g4⟩ := h
  have hR := hR.stay g2
  have hR0 := hR W (Mods.refl _ _)
  have hlen := hR0.len
  refine (g2.apply hT ⟨op, 0, 0, shard, segs, pos, pws L⟩ ⟨h1, by show 0 < _; omega, by show 0 < _; omega, h2, h3, h4, fun r hr => ?_, by show (pws L).length ≤ _; simp [pws]; omega⟩ rfl hR).mono fun e W' h => HasS.of_ap rfl g2 g3 g4 h
  obtain ⟨q, hq, rfl⟩ := List.mem_map.1 hr
  obtain ⟨k1, k2⟩ := hR0.rowok q hq
  have := hl q hq
  exact ⟨k2, k1, by show q.lens.length ≤ _; omega⟩
/-- One without rows. -/
theorem HasS.say0 (h : HasS W0 W X b s T) (hT : T ≤ 1000) {op shard segs : Int} {pos : Nat} (h1 : -9223372036854775808 ≤ op ∧ op ≤ 9223372036854775807) (h2 : -9223372036854775808 ≤ shard ∧ shard ≤ 9223372036854775807) (h3 : -9223372036854775808 ≤ segs ∧ segs ≤ 9223372036854775807) (h4 : pos < 18446744073709551616) :
    Calls Try.prog 12 #[.pointer (some ⟨b, 0, none⟩), .agg #[.int .i64 op, .int .u64 0, .int .u64 0, .int .i64 shard, .int .i64 segs, .int .u64 (pos : Int), .slice none 0 0]] W (SaidS W0 W X b T (applyF s ⟨op, 0, 0, shard, segs, pos, []⟩).1 (applyF s ⟨op, 0, 0, shard, segs, pos, []⟩).2) :=
  h.say hT h1 h2 h3 h4 (L := []) (by simp) (by omega) ⟨⟨0, OwnR.nil _ _ _⟩, by simp⟩
theorem HasS.len_ (h : HasS W0 W X b s T) (hT : T ≤ 1000) : Calls Try.prog 13 #[.pointer (some ⟨b, 0, none⟩)] W fun e W' => e = .returned (.int .u64 (s.n : Int)) ∧ Mods Nil W W' := by
  obtain ⟨f, rfl, h2, h3, h4⟩ := h
  exact h2.len_ hT
theorem HasS.low_ (h : HasS W0 W X b s T) : Calls Try.prog 18 #[.pointer (some ⟨b, 0, none⟩)] W fun e W' => e = .returned (.int .u64 (s.low : Int)) ∧ Mods Nil W W' := by
  obtain ⟨f, rfl, h2, h3, h4⟩ := h
  exact h2.low_
theorem HasS.spans (h : HasS W0 W X b s T) (hT : T ≤ 1000) : Calls Try.prog 17 #[.pointer (some ⟨b, 0, none⟩)] W fun e W' => ∃ A c, e = .returned (.slice A s.L.length c) ∧ W'.ownsRow W.heap.size 47 5 (.slice A s.L.length c) s.L.length (rowP s.L) ∧ Mods Nil W W' := by
  obtain ⟨f, rfl, h2, h3, h4⟩ := h
  exact h2.spans hT
theorem HasS.shards (h : HasS W0 W X b s T) (hT : T ≤ 1000) : Calls Try.prog 16 #[.pointer (some ⟨b, 0, none⟩)] W fun e W' => ∃ A n c l, e = .returned (.slice A n c) ∧ l.length = n ∧ OwnH W.heap.size W' (.slice A n c) l ∧ l.map ShP.plain = shardsF s ∧ Mods Nil W W' := by
  obtain ⟨f, rfl, h2, h3, h4⟩ := h
  exact h2.shards hT
theorem HasS.find (h : HasS W0 W X b s T) (hT : T ≤ 1000) {p : Nat} (hp : p < 18446744073709551616) : Calls Try.prog 14 #[.pointer (some ⟨b, 0, none⟩), .int .u64 (p : Int)] W (FTold W s p) := by
  obtain ⟨f, rfl, h2, h3, h4⟩ := h
  exact h2.find hT hp
theorem HasS.place (h : HasS W0 W X b s T) (hT : T ≤ 1000) (i g : Int) (hi : in64 i) {o : Nat} (ho : o < 18446744073709551616) : Calls Try.prog 15 #[.pointer (some ⟨b, 0, none⟩), .int .i64 i, .int .i64 g, .int .u64 (o : Int)] W (PTold W s i g o) := by
  obtain ⟨f, rfl, h2, h3, h4⟩ := h
  exact h2.place hT i g hi ho
end

/-- One of the commands that came in, and its cells in any later world. -/
theorem Cmds.get {w : World} {A : Option Addr} {n c : Nat} {l : List CmdP} (h : Cmds w A n c l) {j : Nat} (hj : j < n) : ∃ b off q, A = some ⟨b, off, none⟩ ∧ l[j]? = some q ∧ q.good w ∧ ∀ V, Mods Nil w V →
    V.cell? ⟨b, off + j * 7, none⟩ = some (.int .i64 q.c.op) ∧ V.cell? ⟨b, off + j * 7 + 1, none⟩ = some (.int .u64 (q.c.client : Int)) ∧ V.cell? ⟨b, off + j * 7 + 2, none⟩ = some (.int .u64 (q.c.seq : Int))
      ∧ V.cell? ⟨b, off + j * 7 + 3, none⟩ = some (.int .i64 q.c.shard) ∧ V.cell? ⟨b, off + j * 7 + 4, none⟩ = some (.int .i64 q.c.segs) ∧ V.cell? ⟨b, off + j * 7 + 5, none⟩ = some (.int .u64 (q.c.pos : Int)) ∧ V.cell? ⟨b, off + j * 7 + 6, none⟩ = some (.slice q.A q.n q.k) := by
  obtain ⟨b, off, q, e, hb, hq, hg, z0, z1, z2, z3, z4, z5, z6⟩ := h.at_ hj
  rw [Nat.add_zero] at z0
  rw [← Nat.add_assoc] at z1 z2 z3 z4 z5 z6
  have hV : ∀ V, Mods Nil w V → ∀ k u, w.cell? ⟨b, k, none⟩ = some u → V.cell? ⟨b, k, none⟩ = some u := fun V hm k u hu => (World.cell?_of_block (hm.block b hb (fun h => h))).trans hu
  exact ⟨b, off, q, e, hq, hg, fun V hm => ⟨hV V hm _ _ z0, hV V hm _ _ z1, hV V hm _ _ z2, hV V hm _ _ z3, hV V hm _ _ z4, hV V hm _ _ z5, hV V hm _ _ z6⟩⟩

/-! Two states, of which no block is one of the other's. -/
def Two (W0 W : World) (b1 b2 : Nat) (s t : PF) (T : Nat) : Prop := ∃ f g : FA, f.b = b1 ∧ g.b = b2 ∧ At W0 W f s T ∧ At W0 W g t T ∧ f.apart g
theorem At.mono {W0 W : World} {f : FA} {s : PF} {T T' : Nat} (h : At W0 W f s T) (hT : T ≤ T') : At W0 W f s T' := ⟨h.st.mono hT, h.good, h.new, h.m, by have := h.len; omega⟩
theorem At.other {W0 W W' : World} {f g : FA} {s t : PF} {T T' : Nat} (h : At W0 W g t T) (h' : At W0 W f s T') (ha : f.apart g) (hm : Mods (FS f) W W') : At W0 W' g t T :=
  ⟨h.st.other h'.st ha hm, h.good, h.new, h'.old hm, h.len⟩
section
variable {W0 W W' : World} {b1 b2 : Nat} {s t : PF} {T : Nat}
theorem Two.nil (h : Two W0 W b1 b2 s t T) (hm : Mods Nil W W') : Two W0 W' b1 b2 s t T := by
  obtain ⟨f, g, h1, h2, h3, h4, h5⟩ := h
  exact ⟨f, g, h1, h2, h3.nil hm, h4.nil hm, h5⟩
theorem Two.m (h : Two W0 W b1 b2 s t T) : Mods Nil W0 W := by obtain ⟨f, g, h1, h2, h3, h4, h5⟩ := h; exact h3.m
theorem Two.mono (h : Two W0 W b1 b2 s t T) {T' : Nat} (hT : T ≤ T') : Two W0 W b1 b2 s t T' := by
  obtain ⟨f, g, h1, h2, h3, h4, h5⟩ := h
  exact ⟨f, g, h1, h2, h3.mono hT, h4.mono hT, h5⟩
theorem Two.one (h : Two W0 W b1 b2 s t T) : HasS W0 W Nil b1 s T := by
  obtain ⟨f, g, h1, h2, h3, h4, h5⟩ := h
  exact ⟨{ f with Y := Nil }, h1, h3.none, fun _ _ h => h, fun _ h => h.elim, rfl⟩
theorem Two.two (h : Two W0 W b1 b2 s t T) : HasS W0 W Nil b2 t T := by
  obtain ⟨f, g, h1, h2, h3, h4, h5⟩ := h
  exact ⟨{ g with Y := Nil }, h2, h4.none, fun _ _ h => h, fun _ h => h.elim, rfl⟩
theorem two_new (h : HasS W0 W Nil b1 s 0) : Calls Try.prog 10 #[] W fun e w' => ∃ b2, e = .returned (.pointer (some ⟨b2, 0, none⟩)) ∧ Two W0 w' b1 b2 s {} 0 := by
  obtain ⟨f, h1, h2, h3, h4⟩ := h
  refine (new_at W).mono fun e w' ⟨g, g1, g2⟩ => ⟨g.b, g1, f, g, h1, rfl, h2.nil g2.m, ⟨g2.st, g2.good, fun k hk => Nat.le_trans h2.m.size (g2.new k hk), h2.m.trans g2.m, g2.len⟩, fun k hk hk2 => ?_⟩
  have := h2.st.lt k hk
  have := g2.new k hk2
  omega
theorem Two.apply1 (h : Two W0 W b1 b2 s t T) (hT : T ≤ 1000) {q : CmdP} (hq : q.good W0) (hs : shortB q.c = true) :
    Calls Try.prog 12 #[.pointer (some ⟨b1, 0, none⟩), .agg (CV q.c q.A q.n q.k)] W fun e W' => e = .returned (.int .i64 (applyF s q.c).1) ∧ Two W0 W' b1 b2 (applyF s q.c).2 t (T + 2) := by
  obtain ⟨f, g, rfl, h2, h3, h4, h5⟩ := h
  exact (h3.apply_in hT hq hs).mono fun e W' ⟨g1, f', k1, k2, k3, k4⟩ => ⟨g1, f', g, k1, h2, k2, (h4.other h3 h5 k4).mono (by omega), (apart_next h5.symm h4.st.lt k3).symm⟩
theorem Two.apply2 (h : Two W0 W b1 b2 s t T) (hT : T ≤ 1000) {q : CmdP} (hq : q.good W0) (hs : shortB q.c = true) :
    Calls Try.prog 12 #[.pointer (some ⟨b2, 0, none⟩), .agg (CV q.c q.A q.n q.k)] W fun e W' => e = .returned (.int .i64 (applyF t q.c).1) ∧ Two W0 W' b1 b2 s (applyF t q.c).2 (T + 2) := by
  obtain ⟨f, g, h1, rfl, h3, h4, h5⟩ := h
  exact (h4.apply_in hT hq hs).mono fun e W' ⟨g1, f', k1, k2, k3, k4⟩ => ⟨g1, f, f', h1, k1, (h3.other h4 h5.symm k4).mono (by omega), k2, apart_next h5 h3.st.lt k3⟩
end
end Go.Proofs.Ytkodmgnagfolpaa
end

section
/- What the statements of layer 11 share: short. -/
namespace Go.Proofs.Ytkodmgnagfolpaa
set_option maxRecDepth 1000000
open Go.RowKit
set_option linter.unusedVariables false
set_option linter.unusedSimpArgs false

def lens8of (l : List PW) : Bool := l.all fun r => decide (r.lens.length ≤ 8)
theorem lens8of_drop {l : List PW} {j : Nat} {q : PW} (h : l[j]? = some q) : lens8of (l.drop j) = (decide (q.lens.length ≤ 8) && lens8of (l.drop (j + 1))) := by
  obtain ⟨hj, e⟩ := List.getElem?_eq_some_iff.1 h
  rw [List.drop_eq_getElem_cons hj, e]; rfl
set_option maxHeartbeats 3200000 in
theorem short11_any (w : World) (c : PC) {A : Option Addr} {n k : Nat} {L : List RowP} (hr : c.rows = pws L) (h : Rws w A n k L) :
    Calls Try.prog 11 #[.agg (CV c A n k)] w fun e w' => e = .returned (.bool (shortB c)) ∧ Mods Nil w w' := by
  have HL := Lib.hid h
  have HN := Lib.hid h.len
  have hmax := h.most
  have hle := h.le
  have hn47 : n ≤ 9223372036854775807 := by unfold maxLen at hmax; omega
  have HSB : Hid (shortB c = (decide (n ≤ 12) && lens8of (pws L))) := Lib.hid (by unfold shortB lens8of; rw [hr]; simp [pws, h.len])
  generalize shortB c = sb at HSB ⊢
  clear hle hmax h hr
  have AB := Lib.hid (Blk.new w 30 (CV c A n k))
  have MM := Lib.hid ((Mods.refl Nil w).alloc (.cells (CV c A n k) 30))
  obtain ⟨d0, d1, d2, d3, d4, d5, d6⟩ := cv_seven AB.out
  by_cases h12 : 12 < n
  · have h12I : (12 : Int) < (n : Int) := by omega
    obtain rfl : sb = false := by rw [HSB.out]; simp; omega
    clear HSB h12
    go_enter Try.func11, Try.ntmps11
    go_wp2_with fail
    go_ret
    exact ⟨rfl, MM.out⟩
  · have h12I : (n : Int) ≤ 12 := by omega
    replace HSB : Hid (sb = lens8of (pws L)) := Lib.hid (by rw [HSB.out]; simp [show n ≤ 12 by omega])
    clear h12
    go_enter Try.func11, Try.ntmps11
    go_wp2_with fail
    clear d0 d1 d2 d3 d4 d5 d6
    go_loopw [3] (fun x wr => ∃ (j : Nat), j ≤ n ∧ x = .int .i64 (j : Int) ∧ lens8of (pws L) = lens8of ((pws L).drop j) ∧ w.alloc (.cells (CV c A n k) 30) = wr) (fun x _ => n - (intOf x).toNat)
    case atStart => exact ⟨0, Nat.zero_le _, rfl, by simp, rfl⟩
    case round =>
      obtain ⟨j, hj, rfl, hr, rfl⟩ := hrel
      have HRR := Lib.hid hr
      obtain ⟨d0, d1, d2, d3, d4, d5, d6⟩ := cv_seven AB.out
      clear hr
      by_cases hlt : j < n
      · have hjI : (j : Int) < (n : Int) := by omega
        obtain ⟨g, off, q, rfl, hg, hq, hc0, hc1, hs, hx, -⟩ := Rws.at_ (HL.out.mods MM.out) hlt
        have hqp : (pws L)[j]? = some q.pw := by simp [pws, hq]
        have hst := lens8of_drop hqp
        rw [show q.pw.lens.length = q.lens.length from rfl] at hst
        have HST := Lib.hid hst
        have hm := hs.max
        have hm2 := hs.le
        rw [nums_length] at hm2
        unfold maxLen at hm
        generalize q.lens.length = m at hc1 HST hm2
        generalize q.A = A2 at hc1
        generalize q.cap = c2 at hc1 hm hm2
        rw [← Nat.add_assoc] at hc1
        clear hs hx hq hqp hst hc0
        by_cases h1 : m ≤ 8
        · have h1I : (m : Int) ≤ 8 := by omega
          have HS1 := Lib.hid h1
          clear h1 hm hm2
          go_wp2_with fail
          exact ⟨⟨j + 1, by omega, by go_num, by rw [HRR.out, HST.out]; simp [HS1.out], by first | rfl | trivial⟩, by simp [intOf]; omega⟩
        · have h1I : (8 : Int) < (m : Int) := by omega
          obtain rfl : sb = false := by rw [HSB.out, HRR.out, HST.out]; simp [h1]
          clear HST HSB HRR h1 hm hm2
          go_wp2_with fail
          go_ret
          exact ⟨rfl, MM.out⟩
      · obtain rfl : n = j := by omega
        obtain rfl : sb = true := by rw [HSB.out, HRR.out, List.drop_of_length_le (by simp [pws, HN.out])]; rfl
        clear HRR HSB
        go_wp2_with fail
        go_ret
        exact ⟨rfl, MM.out⟩
end Go.Proofs.Ytkodmgnagfolpaa
end

section
/- What the statements of layer 11 begin with: the document's example. -/
namespace Go.Proofs.Ytkodmgnagfolpaa
set_option maxRecDepth 1000000
open Go.RowKit
set_option linter.unusedVariables false
set_option linter.unusedSimpArgs false

def a11 : PF := (applyF {} ⟨1, 0, 0, 0, 2, 0, []⟩).2
def b11 : PF := (applyF a11 ⟨4, 0, 0, 0, 0, 0, [⟨0, [2, 1]⟩]⟩).2
theorem a11_e : (applyF {} ⟨1, 0, 0, 0, 2, 0, []⟩).1 = 0 := by decide
theorem b11_e : (applyF a11 ⟨4, 0, 0, 0, 0, 0, [⟨0, [2, 1]⟩]⟩).1 = 0 := by decide
theorem b11_L : b11.L = [⟨0, 0, 0, 0, 2⟩, ⟨2, 0, 1, 0, 1⟩] := by decide
theorem b11_n : b11.n = 3 := by decide
theorem b11_f2 : findE b11 2 = 0 := by decide
theorem b11_f3 : findE b11 3 = 36 := by decide
theorem b11_p : placeE b11 0 0 1 = 0 := by decide
theorem c11_e : (applyF b11 ⟨1, 0, 0, 0, 2, 0, []⟩).1 = 31 := by decide
theorem b11_find {w w' : World} {e : Ending} (h : FTold w b11 2 e w') : e = .returned (.tuple #[.int .i64 0, .int .i64 1, .int .u64 0, .int .i64 0]) ∧ Mods Nil w w' := by
  obtain ⟨-, h2, h3⟩ := h
  refine ⟨?_, h3⟩
  obtain ⟨i, hi, ha, he⟩ := h2 b11_f2
  have hl : b11.L.length = 2 := by rw [b11_L]; rfl
  have key : ∀ (l : List PP) (hl : l = [⟨0, 0, 0, 0, 2⟩, ⟨2, 0, 1, 0, 1⟩]) (hi : i < l.length), l[i].at 2 → l[i].sh = 0 ∧ l[i].seg = 1 ∧ l[i].off + (2 - l[i].pos) = 0 := by
    rintro _ rfl hi ha
    match i, hi, ha with
    | 0, _, ha => exact absurd ha.2 (show ¬ (2 < 0 + 2) by omega)
    | 1, _, _ => exact ⟨rfl, rfl, rfl⟩
  obtain ⟨k1, k2, k3⟩ := key _ b11_L hi ha
  rw [he, k1, k2, k3]
  rfl
theorem b11_find3 {w w' : World} {e : Ending} (h : FTold w b11 3 e w') : e = .returned (.tuple #[.int .i64 0, .int .i64 0, .int .u64 0, .int .i64 36]) ∧ Mods Nil w w' := by
  obtain ⟨h1, h2, h3⟩ := h
  refine ⟨?_, h3⟩
  rw [b11_f3] at h1
  exact h1 (by decide)
theorem b11_place {w w' : World} {e : Ending} (h : PTold w b11 0 0 1 e w') : e = .returned (.tuple #[.int .u64 1, .int .i64 0]) ∧ Mods Nil w w' := by
  obtain ⟨-, h2, h3⟩ := h
  refine ⟨?_, h3⟩
  obtain ⟨i, hi, ha, he⟩ := h2 b11_p
  have key : ∀ (l : List PP) (hl : l = [⟨0, 0, 0, 0, 2⟩, ⟨2, 0, 1, 0, 1⟩]) (hi : i < l.length), l[i].has 0 (Int.toNat 0) 1 → l[i].pos + (1 - l[i].off) = 1 := by
    rintro _ rfl hi ha
    match i, hi, ha with
    | 0, _, _ => rfl
    | 1, _, ha => exact absurd ha.2.1 (show ¬ (1 = 0) by omega)
  have k1 := key _ b11_L hi ha
  rw [he, k1]
  rfl
section
variable {w W : World} {b T : Nat}
theorem say_a11 (h : HasS w W Nil b {} T) (hT : T ≤ 1000) : Calls Try.prog 12 #[.pointer (some ⟨b, 0, none⟩), .agg #[.int .i64 1, .int .u64 0, .int .u64 0, .int .i64 0, .int .i64 2, .int .u64 0, .slice none 0 0]] W (SaidS w W Nil b T 0 a11) := by
  have := h.say0 hT (op := 1) (shard := 0) (segs := 2) (pos := 0) (by omega) (by omega) (by omega) (by omega)
  rwa [a11_e] at this
theorem say_c11 (h : HasS w W Nil b b11 T) (hT : T ≤ 1000) : Calls Try.prog 12 #[.pointer (some ⟨b, 0, none⟩), .agg #[.int .i64 1, .int .u64 0, .int .u64 0, .int .i64 0, .int .i64 2, .int .u64 0, .slice none 0 0]] W (SaidS w W Nil b T 31 (applyF b11 ⟨1, 0, 0, 0, 2, 0, []⟩).2) := by
  have := h.say0 hT (op := 1) (shard := 0) (segs := 2) (pos := 0) (by omega) (by omega) (by omega) (by omega)
  rwa [c11_e] at this
theorem say_b11 (h : HasS w W Nil b a11 T) (hT : T ≤ 1000) {g1 g2 : Nat} (b1 : Blk W g1 27 #[.int .u64 2, .int .u64 1]) (b2 : Blk W g2 52 #[.int .i64 0, .slice (some ⟨g1, 0, none⟩) 2 2]) :
    Calls Try.prog 12 #[.pointer (some ⟨b, 0, none⟩), .agg #[.int .i64 4, .int .u64 0, .int .u64 0, .int .i64 0, .int .i64 0, .int .u64 0, .slice (some ⟨g2, 0, none⟩) 1 1]] W (SaidS w W Nil b T 0 b11) := by
  have := h.say hT (op := 4) (shard := 0) (segs := 0) (pos := 0) (by omega) (by omega) (by omega) (by omega) (by simp) (by omega) (row_at (g1 := g1) (g2 := g2) (m := 2) (x := 0) (xs := [2, 1]) b1 rfl rfl (by unfold maxLen; omega) b2 (by omega) (by simp))
  rw [show pws [⟨0, some ⟨g1, 0, none⟩, 2, [2, 1]⟩] = [⟨0, [2, 1]⟩] from rfl, b11_e] at this
  exact this
attribute [irreducible] a11 b11
end
set_option maxHeartbeats 200000 in
theorem awake11_any (w : World) : Calls Try.prog 9 #[] w fun e w' => e = .returned (.bool true) ∧ Mods Nil w w' := by
  go_enter Try.func9, Try.ntmps9
  go_wp2_with (first
    | (go_at_call 10; refine (new_has _).mono ?_; rintro e w1 ⟨b, rfl, h1⟩; have H1 := Lib.hid h1; clear h1)
    | (go_at_call 12; refine (say_a11 H1.out (by omega)).mono ?_; rintro e w2 ⟨rfl, h2, -⟩; have H2 := Lib.hid h2; clear h2 H1)
    | (go_at_call 12; refine (say_b11 (H2.out.nil (((Mods.refl Nil w2).alloc _).alloc _)) (by omega) ((Blk.new w2 _ _).alloc _) (blk_new2 w2 _ _ _)).mono ?_; rintro e w3 ⟨rfl, h3, -⟩; have H3 := Lib.hid h3; clear h3 H2)
    | (go_at_call 14; refine (H3.out.find (by omega) (p := 2) (by omega)).mono ?_; intro e w4 h4; obtain ⟨rfl, m4⟩ := b11_find h4; have H4 := Lib.hid (H3.out.nil m4); clear h4 m4 H3)
    | (go_at_call 15; refine (H4.out.place (by omega) 0 0 (in64_of (by omega) (by omega)) (o := 1) (by omega)).mono ?_; intro e w5 h5; obtain ⟨rfl, m5⟩ := b11_place h5; have H5 := Lib.hid (H4.out.nil m5); clear h5 m5 H4)
    | (go_at_call 14; refine (H5.out.find (by omega) (p := 3) (by omega)).mono ?_; intro e w6 h6; obtain ⟨rfl, m6⟩ := b11_find3 h6; have H6 := Lib.hid (H5.out.nil m6); clear h6 m6 H5)
    | (go_at_call 13; refine (H6.out.len_ (by omega)).mono ?_; rintro e w7 ⟨rfl, m7⟩; rw [b11_n]; have H7 := Lib.hid (H6.out.nil m7); clear m7 H6)
    | (go_at_call 12; refine (say_c11 H7.out (by omega)).mono ?_; rintro e w8 ⟨rfl, h8, -⟩; have H8 := Lib.hid h8; clear h8 H7))
  go_ret
  exact ⟨rfl, H8.out.m⟩
end Go.Proofs.Ytkodmgnagfolpaa
end

section
/- What a walk keeps of a state as it was: its spans, its shards, its low end. -/
namespace Go.Proofs.Ytkodmgnagfolpaa
set_option maxRecDepth 1000000
open Go.RowKit
set_option linter.unusedVariables false
set_option linter.unusedSimpArgs false

theorem short_in {W0 W : World} {q : CmdP} (hq : q.good W0) (hm : Mods Nil W0 W) : Calls Try.prog 11 #[.agg (CV q.c q.A q.n q.k)] W fun e w' => e = .returned (.bool (shortB q.c)) ∧ Mods Nil W w' :=
  short11_any W q.c hq.rows (Acts.mods hq.rws hm)
/-- The blocks that a row of spans and a row of shards lie in. -/
def XSnap (v8 v9 : Value) (l : List ShP) : Nat → Prop := fun k => v8.ownBlock = some k ∨ v9.ownBlock = some k ∨ ∃ q ∈ l, (Value.slice q.A q.lens.length q.c).ownBlock = some k
theorem HasS.sub {W0 W : World} {X Y : Nat → Prop} {b : Nat} {s : PF} {T : Nat} (h : HasS W0 W X b s T) (hY : ∀ k, Y k → X k) : HasS W0 W Y b s T := by
  obtain ⟨f, h1, h2, h3, h4, h5⟩ := h
  exact ⟨{ f with Y := Y }, h1, h2.setY (Mods.refl Nil W) (fun _ h => h.elim) (fun _ h => h.elim) (fun _ h => h.elim) (fun k hk => ⟨.inl (by rw [h5]; exact hY k hk), h4 k (hY k hk)⟩), fun k hk hy => h3 k hk (hY k hy), fun k hk => h4 k (hY k hk), rfl⟩
structure Snap (w wr : World) (b : Nat) (s : PF) (T : Nat) (s0 : PF) (A8 : Option Addr) (m8 c8 : Nat) (A9 : Option Addr) (n9 c9 : Nat) (l9 : List ShP) : Prop where
  has : HasS w wr (XSnap (.slice A8 m8 c8) (.slice A9 n9 c9) l9) b s T
  gr : s0.grows s
  good0 : s0.good
  len8 : s0.L.length = m8
  sp : wr.ownsRow 0 47 5 (.slice A8 m8 c8) m8 (rowP s0.L)
  sh : OwnH 0 wr (.slice A9 n9 c9) l9
  len9 : l9.length = n9
  pl : l9.map ShP.plain = shardsF s0
section
variable {w wr w' : World} {b : Nat} {s s0 : PF} {T : Nat} {A8 A9 : Option Addr} {m8 c8 n9 c9 : Nat} {l9 : List ShP}
theorem Snap.start (h : HasS w wr Nil b s T) (hg : ({} : PF).grows s) : Snap w wr b s T {} none 0 0 none 0 0 [] :=
  ⟨h.sub (fun k hk => by rcases hk with h | h | ⟨q, hq, _⟩; cases h; cases h; cases hq), hg, good_new, rfl, World.ownsRow_nil _ _ _ _, OwnH.none _ _, rfl, rfl⟩
theorem Snap.nil (h : Snap w wr b s T s0 A8 m8 c8 A9 n9 c9 l9) (hm : Mods Nil wr w') : Snap w w' b s T s0 A8 m8 c8 A9 n9 c9 l9 :=
  ⟨h.has.nil hm, h.gr, h.good0, h.len8, own_mods h.sp hm (fun _ _ h => h), h.sh.nil hm, h.len9, h.pl⟩
theorem Snap.apply (h : Snap w wr b s T s0 A8 m8 c8 A9 n9 c9 l9) (hT : T ≤ 1000) {q : CmdP} (hq : q.good w) (hs : shortB q.c = true) :
    Calls Try.prog 12 #[.pointer (some ⟨b, 0, none⟩), .agg (CV q.c q.A q.n q.k)] wr fun e w' => e = .returned (.int .i64 (applyF s q.c).1) ∧ Snap w w' b (applyF s q.c).2 (T + 2) s0 A8 m8 c8 A9 n9 c9 l9 :=
  (h.has.apply_in hT hq hs).mono fun e w' ⟨h1, h2, h3⟩ => ⟨h1, h2, h.gr.trans (apply_grows h.has.good q.c), h.good0, h.len8, own_mods h.sp h3 (fun k hk hx => hx.2 (.inl hk)), h.sh.mods h3 (fun k hk hx => hx.2 (.inr (.inl hk))) (fun r hr k hk hx => hx.2 (.inr (.inr ⟨r, hr, hk⟩))), h.len9, h.pl⟩
/-- It is taken. -/
theorem Snap.take {X : Nat → Prop} {w1 w2 : World} (h : HasS w wr X b s T) (m1 : Mods Nil wr w1) (o1 : w1.ownsRow wr.heap.size 47 5 (.slice A8 s.L.length c8) s.L.length (rowP s.L))
    (m2 : Mods Nil w1 w2) (o2 : OwnH w1.heap.size w2 (.slice A9 n9 c9) l9) (hn : l9.length = n9) (hp : l9.map ShP.plain = shardsF s) : Snap w w2 b s T s A8 s.L.length c8 A9 n9 c9 l9 := by
  have o1' := own_mods o1 m2 (fun _ _ h => h)
  refine ⟨(h.keep (m1.trans m2)).sub (fun k hk => ?_), PF.grows.refl s, h.good, rfl, ownsRow_base_a o1' (Nat.zero_le _), o2.base (Nat.zero_le _), hn, hp⟩
  have hs1 := m1.size
  rcases hk with hk | hk | ⟨q, hq, hk⟩
  · exact ⟨(o1'.lt k hk).1, (o1'.lt k hk).2⟩
  · have := o2.own.lt k hk
    exact ⟨by omega, this.2⟩
  · have := (o2.rows q hq).lt k hk
    exact ⟨by omega, this.2⟩
theorem Snap.low (h : Snap w wr b s T s0 A8 m8 c8 A9 n9 c9 l9) : s0.low ≤ s.low := h.gr.low
theorem Snap.more (h : Snap w wr b s T s0 A8 m8 c8 A9 n9 c9 l9) : m8 ≤ s.L.length := by
  obtain ⟨E, hE⟩ := h.gr.L
  rw [hE, List.length_append, h.len8]; omega
theorem Snap.same (h : Snap w wr b s T s0 A8 m8 c8 A9 n9 c9 l9) {i : Nat} (hi : i < s.L.length) (hi0 : i < s0.L.length) : s.L[i] = s0.L[i] := by
  obtain ⟨E, hE⟩ := h.gr.L
  have h1 : s.L[i]? = s0.L[i]? := by rw [hE, List.getElem?_append_left hi0]
  rw [List.getElem?_eq_getElem hi, List.getElem?_eq_getElem hi0] at h1
  injection h1
theorem sh_of {l : List ShP} {s : PF} (hg : s.good) (hp : l.map ShP.plain = shardsF s) {q : ShP} (hq : q ∈ l) : s.sh q.id = some { segs := q.segs, lens := q.lens, final := q.fin } := by
  refine (mem_shards hg).1 ?_
  rw [← hp]
  exact List.mem_map.2 ⟨q, hq, rfl⟩
theorem sh_len {l : List ShP} {s : PF} (hg : s.good) (hp : l.map ShP.plain = shardsF s) {q : ShP} (hq : q ∈ l) : q.lens.length ≤ 4 := by
  have := hg.ids _ _ (sh_of hg hp hq)
  have h1 := this.2.2.2
  have h2 := this.2.1
  simp only at h1 h2
  omega
theorem sh_many {l : List ShP} {s : PF} (hp : l.map ShP.plain = shardsF s) : l.length ≤ 8 := by
  have h1 := congrArg List.length hp
  rw [List.length_map] at h1
  rw [h1]
  exact shards_len s 8
theorem Snap.pair (h : Snap w wr b s T s0 A8 m8 c8 A9 n9 c9 l9) {ln : List ShP} (hp : ln.map ShP.plain = shardsF s) {q r : ShP} (hq : q ∈ l9) (hr : r ∈ ln) (e : r.id = q.id) : r.segs = q.segs ∧ leB q.lens r.lens = true ∧ (q.fin = true → r.lens = q.lens ∧ r.fin = true) := by
  have h1 := sh_of h.good0 h.pl hq
  have h2 := sh_of h.has.good hp hr
  obtain ⟨h', g1, g2, g3, g4⟩ := h.gr.sh _ _ h1
  rw [← e, h2] at g1
  injection g1 with g1
  subst g1
  refine ⟨g2, g3, fun hf => ?_⟩
  have := g4 hf
  simp only [PH.mk.injEq] at this
  exact ⟨this.2.1, by rw [this.2.2]; exact hf⟩
def foundB (x : Int) (l : List ShP) : Bool := l.any fun r => decide (r.id = x)
theorem foundB_snoc (x : Int) (l : List ShP) (r : ShP) : foundB x (l ++ [r]) = (foundB x l || decide (r.id = x)) := by simp [foundB]
theorem Snap.found (h : Snap w wr b s T s0 A8 m8 c8 A9 n9 c9 l9) {ln : List ShP} (hp : ln.map ShP.plain = shardsF s) {q : ShP} (hq : q ∈ l9) : foundB q.id ln = true := by
  obtain ⟨h', g1, -⟩ := h.gr.sh _ _ (sh_of h.good0 h.pl hq)
  have := (mem_shards h.has.good).2 g1
  rw [← hp] at this
  obtain ⟨r, hr, e⟩ := List.mem_map.1 this
  unfold foundB
  rw [List.any_eq_true]
  refine ⟨r, hr, ?_⟩
  unfold ShP.plain at e
  injection e with e1 e2
  simp [e1]
end
section
variable {W0 W : World} {X : Nat → Prop} {b T : Nat} {s s' : PF} {r : Int}
theorem HasS.says0 (h : HasS W0 W X b s T) (hT : T ≤ 1000) {op shard segs : Int} {pos : Nat} (e : applyF s ⟨op, 0, 0, shard, segs, pos, []⟩ = (r, s')) (h1 : 0 ≤ op ∧ op ≤ 1000) (h2 : 0 ≤ shard ∧ shard ≤ 1000) (h3 : 0 ≤ segs ∧ segs ≤ 1000) (h4 : pos < 18446744073709551616) :
    Calls Try.prog 12 #[.pointer (some ⟨b, 0, none⟩), .agg #[.int .i64 op, .int .u64 0, .int .u64 0, .int .i64 shard, .int .i64 segs, .int .u64 (pos : Int), .slice none 0 0]] W (SaidS W0 W X b T r s') := by
  have := h.say0 hT (op := op) (shard := shard) (segs := segs) (pos := pos) (by omega) (by omega) (by omega) h4
  rwa [e] at this
theorem HasS.says1 (h : HasS W0 W X b s T) (hT : T ≤ 1000) {op shard k : Int} {m g1 g2 : Nat} {u : Value} (e : applyF s ⟨op, 0, 0, shard, 0, 0, [⟨k, [m]⟩]⟩ = (r, s')) (h1 : 0 ≤ op ∧ op ≤ 1000) (h2 : 0 ≤ shard ∧ shard ≤ 1000) (h3 : 0 ≤ k ∧ k ≤ 1000) (h4 : m < 18446744073709551616)
    (b1 : Blk W g1 27 #[u]) (hu : u = .int .u64 (m : Int)) (b2 : Blk W g2 52 #[.int .i64 k, .slice (some ⟨g1, 0, none⟩) 1 1]) :
    Calls Try.prog 12 #[.pointer (some ⟨b, 0, none⟩), .agg #[.int .i64 op, .int .u64 0, .int .u64 0, .int .i64 shard, .int .i64 0, .int .u64 0, .slice (some ⟨g2, 0, none⟩) 1 1]] W (SaidS W0 W X b T r s') := by
  subst hu
  have := h.say hT (op := op) (shard := shard) (segs := 0) (pos := 0) (by omega) (by omega) (by omega) (by omega) (by simp) (by omega) (row_at (g1 := g1) (g2 := g2) (m := 1) (x := k) (xs := [m]) b1 rfl rfl (by unfold maxLen; omega) b2 (by omega) (by simpa using h4))
  rw [show pws [⟨k, some ⟨g1, 0, none⟩, 1, [m]⟩] = [⟨k, [m]⟩] from rfl, e] at this
  exact this
end
end Go.Proofs.Ytkodmgnagfolpaa
end

section
/- What single commands come to, in plain terms. No program. -/
namespace Go.Proofs.Ytkodmgnagfolpaa
set_option maxRecDepth 100000
set_option linter.unusedVariables false
set_option linter.unusedSimpArgs false

theorem u8_and7 (b : UInt8) : bits .and .u8 (b.toNat : Int) 7 = (b.toNat : Int) % 8 := by
  have := u8_and_nat b.toNat 7 b.toNat_lt (by omega)
  rw [nat_mask3] at this
  rw [show (7 : Int) = ((7 : Nat) : Int) from rfl, this]
  omega
theorem u8_and3 (b : UInt8) : bits .and .u8 (b.toNat : Int) 3 = (b.toNat : Int) % 4 := by
  have := u8_and_nat b.toNat 3 b.toNat_lt (by omega)
  rw [nat_mask2] at this
  rw [show (3 : Int) = ((3 : Nat) : Int) from rfl, this]
  omega
theorem u8_and15 (b : UInt8) : bits .and .u8 (b.toNat : Int) 15 = (b.toNat : Int) % 16 := by
  have := u8_and_nat b.toNat 15 b.toNat_lt (by omega)
  rw [nat_mask4] at this
  rw [show (15 : Int) = ((15 : Nat) : Int) from rfl, this]
  omega
theorem apply_one {s : PF} {c : PC} (h : chkC c = 0) (h2 : c.client = 0 ∧ c.seq = 0) : applyF s c = doF s c := by
  unfold applyF
  rw [if_neg (by omega), if_pos h2]
theorem add_new {s : PF} {k g : Int} (hk : 0 ≤ k ∧ k ≤ 7) (hg : 1 ≤ g ∧ g ≤ 4) (hs : s.sh k = none) : applyF s ⟨1, 0, 0, k, g, 0, []⟩ = (0, { s with sh := upH s.sh k { segs := g } }) := by
  rw [apply_one (chkC_zero.2 ⟨rfl, by simp [opB]; omega⟩) ⟨rfl, rfl⟩]
  simp [doF, hs]
theorem add_old {s : PF} {k g : Int} (hk : 0 ≤ k ∧ k ≤ 7) (hg : 1 ≤ g ∧ g ≤ 4) {h : PH} (hs : s.sh k = some h) : applyF s ⟨1, 0, 0, k, g, 0, []⟩ = (31, s) := by
  rw [apply_one (chkC_zero.2 ⟨rfl, by simp [opB]; omega⟩) ⟨rfl, rfl⟩]
  simp [doF, hs]
theorem cut_says {s : PF} {l : List PW} (hb : rowsB l (-1) = true) : applyF s ⟨4, 0, 0, 0, 0, 0, l⟩ = cutF s l := by
  rw [apply_one (chkC_zero.2 ⟨hb, by simp [opB]⟩) ⟨rfl, rfl⟩]
  simp [doF]
theorem trim_says {s : PF} {p : Nat} : applyF s ⟨3, 0, 0, 0, 0, p, []⟩ = if s.n < p then (36, s) else (0, { s with low := max s.low p }) := by
  rw [apply_one (chkC_zero.2 ⟨rfl, by simp [opB]⟩) ⟨rfl, rfl⟩]
  simp [doF]
theorem seal_says {s : PF} {k : Int} (hk : 0 ≤ k ∧ k ≤ 7) {l : List PW} (hb : rowsB l (-1) = true) (hl : l = [] ∨ ∃ r, l = [r] ∧ r.shard = k) :
    applyF s ⟨2, 0, 0, k, 0, 0, l⟩ = if liveE s k ≠ 0 then (liveE s k, s) else if (cutF s l).1 ≠ 0 then ((cutF s l).1, s) else (0, sealF (cutF s l).2 k) := by
  rw [apply_one (chkC_zero.2 ⟨hb, by
    rcases hl with rfl | ⟨r, rfl, e⟩
    · simp [opB]; omega
    · simp [opB, e]; omega⟩) ⟨rfl, rfl⟩]
  simp [doF]
theorem cut_bad {s : PF} {r : PW} (h : rowE s r ≠ 0) : cutF s [r] = (rowE s r, s) := by
  unfold cutF rowsE
  rw [if_pos h, if_pos h]
theorem cut_good {s : PF} {r : PW} (h : rowE s r = 0) (hn : (putRow s r).n < 18446744073709551616) : cutF s [r] = (0, putRow s r) := by
  have e : putRows s [r] = putRow s r := rfl
  unfold cutF rowsE rowsE
  rw [if_neg (by simp [h]), e, if_neg (by omega)]
theorem row_one {k : Int} (hk : 0 ≤ k ∧ k ≤ 7) {n : Nat} (hn : n ≠ 0) : rowsB [⟨k, [n]⟩] (-1) = true := by
  simp [rowsB, rowB, hn]; omega
end Go.Proofs.Ytkodmgnagfolpaa
end
