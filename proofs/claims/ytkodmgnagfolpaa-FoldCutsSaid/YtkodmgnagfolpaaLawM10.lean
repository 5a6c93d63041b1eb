/- Texts laid as one: Awake10, Help10, Short10. -/
import Derived.Test.YtkodmgnagfolpaaConfM4
import Derived.Lib.SmallJoins
import Derived.Deep.Slices

section
/- What the statements of layer 10 begin with: the document's example. -/
namespace Go.Proofs.Ytkodmgnagfolpaa
set_option maxRecDepth 1000000
open Go.RowKit
set_option linter.unusedVariables false

def ex10 : PC := { op := 3, client := 1, seq := 2, pos := 5 }
def bs10 : List UInt8 := [3, 1, 1, 1, 2, 1, 5]
theorem ok_small {op client seq shard segs pos : Nat} (h : op < 1000 ∧ client < 1000 ∧ seq < 1000 ∧ shard < 1000 ∧ segs < 1000 ∧ pos < 1000) : (⟨op, client, seq, shard, segs, pos, []⟩ : PC).ok :=
  ⟨by simp; omega, by simp; omega, by simp; omega, by simp; omega, by simp; omega, by simp; omega, by simp, by simp⟩
theorem ex10_ok : ex10.ok := ok_small (op := 3) (client := 1) (seq := 2) (shard := 0) (segs := 0) (pos := 5) (by omega)
theorem digs_one (x : Nat) (h0 : x ≠ 0) (h : x < 256) : digs x = [UInt8.ofNat x] := by
  rw [digs_pos h0, show x / 256 = 0 by omega, digs_zero, show x % 256 = x by omega]; rfl
theorem putU_one (x : Nat) (h0 : x ≠ 0) (h : x < 256) : putU x = [1, UInt8.ofNat x] := by
  unfold putU; rw [digs_one x h0 h]; rfl
theorem ex10_put : putC ex10 = bs10 := by
  show kbC 3 :: putAll [1, 2, 5] = _
  simp only [putAll, putU_one 1 (by omega) (by omega), putU_one 2 (by omega) (by omega), putU_one 5 (by omega) (by omega)]
  rfl
theorem ex10_chk : chkC ex10 = 0 := by decide
end Go.Proofs.Ytkodmgnagfolpaa
end

section
/- What the statements of layer 10 share: a command that is handed in, opened; short. -/
namespace Go.Proofs.Ytkodmgnagfolpaa
set_option maxRecDepth 1000000
open Go.ChangeShapes Go.WideShapes Go.ChangeAt Go.RowKit
set_option linter.unusedVariables false
set_option linter.unusedSimpArgs false

theorem array7 {α : Type} {cs : Array α} (h : cs.size = 7) : ∃ c0 c1 c2 c3 c4 c5 c6, cs = #[c0, c1, c2, c3, c4, c5, c6] := by
  obtain ⟨l⟩ := cs
  match l, h with
  | [c0, c1, c2, c3, c4, c5, c6], _ => exact ⟨c0, c1, c2, c3, c4, c5, c6, rfl⟩
theorem cmd_cells : Try.prog.cellsOf 30 = 7 := by kernel_rfl
theorem i64_wf10 {x : Int} (h : (Lit.int .i64 x).wf = true) : -9223372036854775808 ≤ x ∧ x ≤ 9223372036854775807 := by
  simp only [Lit.wf, Bool.and_eq_true, decide_eq_true_eq] at h
  have h1 : IntKind.i64.min = -9223372036854775808 := by decide
  have h2 : IntKind.i64.max = 9223372036854775807 := by decide
  omega
theorem u64_wf10 {x : Int} (h : (Lit.int .u64 x).wf = true) : 0 ≤ x ∧ x < 18446744073709551616 := by
  simp only [Lit.wf, Bool.and_eq_true, decide_eq_true_eq] at h
  have h1 : IntKind.u64.min = 0 := by decide
  have h2 : IntKind.u64.max = 18446744073709551615 := by decide
  omega
theorem fld10 {H : Type} {enc : TypeId × Value → H} {P : Program} {W : World} {n : Nat} {fs : Array Field} {cs : List Value} {xs : List (DataW H × List MemPlace)} (hone : Deep.oneCellFields P fs = true)
    (hfld : ∀ (i : Nat) (f : Field), fs[i]? = some f → DataW.trod enc P W 0 (fun _ => true) true n f.type (List.take (P.cellsOf f.type) (List.drop f.offset cs)) = xs[i]?) (i : Nat) (f : Field) (hf : fs[i]? = some f) (c : Value) (hc : cs[i]? = some c) (hi : i < xs.length) :
    ∃ y, DataW.trod enc P W 0 (fun _ => true) true n f.type [c] = some y := by
  obtain ⟨o, k⟩ := Deep.hone_of hone i f hf
  have h := hfld i f hf
  rw [k, o] at h
  have e : List.take 1 (List.drop i cs) = [c] := by
    obtain ⟨hlt, hc⟩ := List.getElem?_eq_some_iff.1 hc
    rw [List.drop_eq_getElem_cons hlt, hc]
    rfl
  rw [e, List.getElem?_eq_getElem hi] at h
  exact ⟨_, h⟩
theorem cmd_one : ∀ fs, Try.prog.underlying 30 = some (.struct fs) → Deep.oneCellFields Try.prog fs = true := by
  intro fs h
  rw [Try.underlying30] at h
  injection h with h
  injection h with h
  subst h
  kernel_rfl
theorem fv_two {v : Fv} (k : IntKind) (h : v.kind = .int k) : ∃ z, v = .int k z := by
  cases v with
  | int k' z => simp only [Fv.kind, Fk.int.injEq] at h; subst h; exact ⟨z, rfl⟩
  | bool => simp [Fv.kind] at h
  | bytes => simp [Fv.kind] at h
  | u64s => simp [Fv.kind] at h
theorem fv_u64s {v : Fv} (h : v.kind = .u64s) : ∃ A c xs, v = .u64s A c xs := by
  cases v with
  | int k' z => simp [Fv.kind] at h
  | bool => simp [Fv.kind] at h
  | bytes => simp [Fv.kind] at h
  | u64s A c xs => exact ⟨A, c, xs, rfl⟩
/-- A script of rows is rows. -/
theorem rws_of_acts {W : World} {A : Option Addr} {n c : Nat} {l : List (List Fv)} (h : Acts W A n c [.int .i64, .u64s] l) : ∃ L, l = L.map RowP.fv ∧ Rws W A n c L := by
  have hall : ∀ (l : List (List Fv)), (∀ x ∈ l, x.map Fv.kind = [.int .i64, .u64s]) → ∃ L : List RowP, l = L.map RowP.fv := by
    intro l
    induction l with
    | nil => intro _; exact ⟨[], rfl⟩
    | cons x l ih =>
      intro hx
      obtain ⟨L, rfl⟩ := ih (fun y hy => hx y (List.mem_cons_of_mem _ hy))
      have h0 := hx x List.mem_cons_self
      obtain ⟨a, b, rfl⟩ : ∃ a b, x = [a, b] := by
        have hl := congrArg List.length h0
        simp only [List.length_map, List.length_cons, List.length_nil] at hl
        obtain ⟨a, y, rfl⟩ := List.exists_cons_of_length_eq_add_one (n := 1) (by omega : x.length = 1 + 1)
        obtain ⟨b, z, rfl⟩ := List.exists_cons_of_length_eq_add_one (n := 0) (by simp at hl; omega : y.length = 0 + 1)
        obtain rfl : z = [] := by simpa using hl
        exact ⟨a, b, rfl⟩
      simp only [List.map_cons, List.map_nil, List.cons.injEq, and_true] at h0
      obtain ⟨z, rfl⟩ := fv_two _ h0.1
      obtain ⟨A, c, xs, rfl⟩ := fv_u64s h0.2
      exact ⟨⟨z, A, c, xs⟩ :: L, rfl⟩
  obtain ⟨L, e⟩ := hall l (fun x hx => (h.good x hx).1)
  subst e
  exact ⟨L, rfl, h⟩
/-- A command may be as long as the statements look at. -/
def shortB (c : PC) : Bool := decide (c.rows.length ≤ 12) && c.rows.all fun r => decide (r.lens.length ≤ 8)
theorem Rws.rowok {w : World} {A : Option Addr} {n c : Nat} {L : List RowP} (h : Rws w A n c L) : ∀ q ∈ L, (∀ x ∈ q.lens, x < 18446744073709551616) ∧ -9223372036854775808 ≤ q.shard ∧ q.shard ≤ 9223372036854775807 := fun q hq => by
  have hg := (h.good q.fv (List.mem_map.2 ⟨q, hq, rfl⟩)).2
  have h0 := hg (.int .i64 q.shard) (by simp [RowP.fv])
  have h1 := hg (.u64s q.A q.cap q.lens) (by simp [RowP.fv])
  exact ⟨h1.2, i64_wf10 h0⟩
/-- Rows that are few may be in Go. -/
theorem rows_ok {w : World} {A : Option Addr} {n c : Nat} {L : List RowP} (h : Rws w A n c L) (hl : ∀ r ∈ pws L, r.lens.length ≤ 8) : ∀ r ∈ pws L, r.ok := fun r hr => by
  obtain ⟨q, hq, rfl⟩ := List.mem_map.1 hr
  obtain ⟨h1, h2⟩ := h.rowok q hq
  have := hl _ hr
  exact ⟨h2, h1, by omega⟩
set_option maxHeartbeats 1600000 in
theorem open_cmd {H : Type} {enc : TypeId × Value → H} {W : World} {b0 : Nat} {v : Value} {d : DataW H} {p : List MemPlace} (hv : Value.okWide Try.prog W .any b0 30 v)
    (h : DataW.Trod enc Try.prog W 0 (fun _ => true) true 30 v d p) : ∃ c A n k L, v = .agg (CV c A n k) ∧ c.rows = pws L ∧ Rws W A n k L ∧ (shortB c = true → c.ok) := by
  obtain ⟨cs, rfl, hsz⟩ := okWide_struct Try.underlying30 hv
  obtain ⟨c0, c1, c2, c3, c4, c5, c6, rfl⟩ := array7 (hsz.trans cmd_cells)
  obtain ⟨fuel, hf⟩ := h
  obtain ⟨xs, n, _, hx, hl, hlen, hfld⟩ := DataW.trod_struct Try.underlying30 hf
  have hlen' : xs.length = 7 := hlen
  have hone := cmd_one _ Try.underlying30
  obtain ⟨y0, g0⟩ : ∃ y, DataW.trod enc Try.prog W 0 (fun _ => true) true n 3 [c0] = some y := fld10 hone hfld 0 _ rfl c0 rfl (by omega)
  obtain ⟨y1, g1⟩ : ∃ y, DataW.trod enc Try.prog W 0 (fun _ => true) true n 27 [c1] = some y := fld10 hone hfld 1 _ rfl c1 rfl (by omega)
  obtain ⟨y2, g2⟩ : ∃ y, DataW.trod enc Try.prog W 0 (fun _ => true) true n 27 [c2] = some y := fld10 hone hfld 2 _ rfl c2 rfl (by omega)
  obtain ⟨y3, g3⟩ : ∃ y, DataW.trod enc Try.prog W 0 (fun _ => true) true n 3 [c3] = some y := fld10 hone hfld 3 _ rfl c3 rfl (by omega)
  obtain ⟨y4, g4⟩ : ∃ y, DataW.trod enc Try.prog W 0 (fun _ => true) true n 3 [c4] = some y := fld10 hone hfld 4 _ rfl c4 rfl (by omega)
  obtain ⟨y5, g5⟩ : ∃ y, DataW.trod enc Try.prog W 0 (fun _ => true) true n 27 [c5] = some y := fld10 hone hfld 5 _ rfl c5 rfl (by omega)
  obtain ⟨y6, g6⟩ : ∃ y, DataW.trod enc Try.prog W 0 (fun _ => true) true n 28 [c6] = some y := fld10 hone hfld 6 _ rfl c6 rfl (by omega)
  obtain ⟨z0, e0, -, wf0⟩ := DataW.trod_int Try.underlying3 g0
  obtain rfl : c0 = .int .i64 z0 := by simpa using e0
  replace wf0 := i64_wf10 wf0
  obtain ⟨z1, e1, -, wf1⟩ := DataW.trod_int Try.underlying27 g1
  obtain rfl : c1 = .int .u64 z1 := by simpa using e1
  replace wf1 := u64_wf10 wf1
  obtain ⟨z2, e2, -, wf2⟩ := DataW.trod_int Try.underlying27 g2
  obtain rfl : c2 = .int .u64 z2 := by simpa using e2
  replace wf2 := u64_wf10 wf2
  obtain ⟨z3, e3, -, wf3⟩ := DataW.trod_int Try.underlying3 g3
  obtain rfl : c3 = .int .i64 z3 := by simpa using e3
  replace wf3 := i64_wf10 wf3
  obtain ⟨z4, e4, -, wf4⟩ := DataW.trod_int Try.underlying3 g4
  obtain rfl : c4 = .int .i64 z4 := by simpa using e4
  replace wf4 := i64_wf10 wf4
  obtain ⟨z5, e5, -, wf5⟩ := DataW.trod_int Try.underlying27 g5
  obtain rfl : c5 = .int .u64 z5 := by simpa using e5
  replace wf5 := u64_wf10 wf5
  obtain ⟨A6, l6, k6, e6⟩ := Joins.slice_form Try.underlying28 g6
  obtain rfl : c6 = .slice A6 l6 k6 := by simpa using e6
  obtain ⟨l, hl⟩ := open_acts (ks := [.int .i64, .u64s]) (enc := enc) Try.underlying28 Try.underlying52 ⟨Try.underlying3, rfl, (by kernel_rfl), ⟨_, Try.underlying34, Try.underlying27, (by kernel_rfl)⟩, rfl, (by kernel_rfl), trivial⟩ (by kernel_rfl) (by simp) (W := W) (a0 := A6) (len := l6) (cap := k6) (d0 := y6.1) (p := y6.2) ⟨n, by simpa [Value.cells] using g6⟩
  obtain ⟨L, rfl, hR⟩ := rws_of_acts hl
  refine ⟨{ op := z0, client := z1.toNat, seq := z2.toNat, shard := z3, segs := z4, pos := z5.toNat, rows := pws L }, A6, l6, k6, L, ?_, rfl, hR, ?_⟩
  · unfold CV
    simp only [Int.toNat_of_nonneg wf1.1, Int.toNat_of_nonneg wf2.1, Int.toNat_of_nonneg wf5.1]
  · intro hs
    simp only [shortB, Bool.and_eq_true, decide_eq_true_eq, List.all_eq_true] at hs
    exact ⟨wf0, by simp only; omega, by simp only; omega, wf3, wf4, by simp only; omega, rows_ok hR hs.2, by simp only; omega⟩
end Go.Proofs.Ytkodmgnagfolpaa
end

section
/- What the statements of layer 10 share: short. -/
namespace Go.Proofs.Ytkodmgnagfolpaa
set_option maxRecDepth 1000000
open Go.RowKit
set_option linter.unusedVariables false
set_option linter.unusedSimpArgs false

def lens8 (l : List PW) : Bool := l.all fun r => decide (r.lens.length ≤ 8)
theorem lens8_drop {l : List PW} {j : Nat} {q : PW} (h : l[j]? = some q) : lens8 (l.drop j) = (decide (q.lens.length ≤ 8) && lens8 (l.drop (j + 1))) := by
  obtain ⟨hj, e⟩ := List.getElem?_eq_some_iff.1 h
  rw [List.drop_eq_getElem_cons hj, e]; rfl
theorem conv10 {w : World} {A : Option Addr} {c n : Nat} {xs : List UInt8} (hn : xs.length = n) (hs : Sl w A c (bts xs)) : (convert 50 9 (.slice A n c)).run Try.prog w = .ok (.string (strOf xs)) w :=
  run_string_sl _ 50 5 Try.underlying50 Try.underlying5 A n c _ hn hs 9 Try.underlying9
theorem sizeU8_10 (W : World) : (sizeOf (Try.prog.elem 50)).run Try.prog W = .ok 1 W := by kernel_rfl
theorem slice_to10 {A : Option Addr} {n c j : Nat} (hj : j ≤ c) (W : World) : (Instr.slice 50 (.slice A n c) none (some (.int .i64 (j : Int))) none).run Try.prog W = .ok (.slice A j c) W := by
  rw [run_slice_h (P := Try.prog) W _ A n c (by exact Try.underlying50) .i64 (j : Int) (by omega) (by omega)]
  rw [sizeU8_10]
  cases A <;> simp [Result.andThen, sliced, Addr.add]
theorem u16_nat10 {a : Int} (w : (Lit.int .u16 a).wf = true) : ∃ k : Nat, a = (k : Int) ∧ k < 65536 := by
  simp only [Lit.wf, Bool.and_eq_true, decide_eq_true_eq] at w
  have h1 : IntKind.u16.min = 0 := by decide
  have h2 : IntKind.u16.max = 65535 := by decide
  exact ⟨a.toNat, by omega, by omega⟩
theorem u8_nat10 {a : Int} (w : (Lit.int .u8 a).wf = true) : ∃ k : UInt8, a = (k.toNat : Int) := by
  simp only [Lit.wf, Bool.and_eq_true, decide_eq_true_eq] at w
  have h1 : IntKind.u8.min = 0 := by decide
  have h2 : IntKind.u8.max = 255 := by decide
  exact ⟨UInt8.ofNat a.toNat, by simp; omega⟩
/-- No rows are none in memory. -/
theorem RowsIn.zero {B : Nat} {w : World} {c : PC} {A : Option Addr} {n k : Nat} (h : RowsIn B w c A n k) (hr : c.rows = []) : n = 0 := by
  obtain ⟨L, h1, h2, -⟩ := h
  have h3 := h2.len
  rw [hr] at h1
  have : (pws L).length = 0 := by rw [← h1]; rfl
  simp [pws] at this
  subst this
  simpa using h3.symm
end Go.Proofs.Ytkodmgnagfolpaa
end
