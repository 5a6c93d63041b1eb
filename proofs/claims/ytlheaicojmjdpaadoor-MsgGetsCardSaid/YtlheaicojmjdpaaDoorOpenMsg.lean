/- A message that is handed in: opened. -/
import Derived.Test.YtlheaicojmjdpaaDoorMsgB
import Derived.Deep.Slices
import Derived.Lib.SmallJoins
namespace Go.Proofs.YtlheaicojmjdpaaDoor
set_option maxRecDepth 100000
open Go.ChangeShapes Go.WideShapes Go.ChangeAt Go.RowKit
set_option linter.unusedVariables false

theorem array11 {α : Type} {cs : Array α} (h : cs.size = 11) : ∃ c0 c1 c2 c3 c4 c5 c6 c7 c8 c9 c10, cs = #[c0, c1, c2, c3, c4, c5, c6, c7, c8, c9, c10] := by
  obtain ⟨l⟩ := cs
  match l, h with
  | [c0, c1, c2, c3, c4, c5, c6, c7, c8, c9, c10], _ => exact ⟨c0, c1, c2, c3, c4, c5, c6, c7, c8, c9, c10, rfl⟩
theorem msg_cells : Tryd.prog.cellsOf 32 = 11 := by kernel_rfl
theorem cellsInt : Tryd.prog.cellsOf 3 = 1 := by kernel_rfl
theorem cellsU64 : Tryd.prog.cellsOf 29 = 1 := by kernel_rfl
theorem cellsU8 : Tryd.prog.cellsOf 5 = 1 := by kernel_rfl
theorem cellsNums : Tryd.prog.cellsOf 30 = 1 := by kernel_rfl
theorem cellsBytes : Tryd.prog.cellsOf 22 = 1 := by kernel_rfl
theorem i64_of_wf {x : Int} (h : (Lit.int .i64 x).wf = true) : -9223372036854775808 ≤ x ∧ x ≤ 9223372036854775807 := by
  simp only [Lit.wf, Bool.and_eq_true, decide_eq_true_eq] at h
  have h1 : IntKind.i64.min = -9223372036854775808 := by decide
  have h2 : IntKind.i64.max = 9223372036854775807 := by decide
  omega
theorem fld {H : Type} {enc : TypeId × Value → H} {P : Program} {W : World} {n : Nat} {fs : Array Field} {cs : List Value} {xs : List (DataW H × List MemPlace)} (hone : Deep.oneCellFields P fs = true)
    (hfld : ∀ (i : Nat) (f : Field), fs[i]? = some f → DataW.trod enc P W 0 (fun _ => true) true n f.type (List.take (P.cellsOf f.type) (List.drop f.offset cs)) = xs[i]?) (i : Nat) (f : Field) (hf : fs[i]? = some f) (c : Value) (hc : cs[i]? = some c) (hi : i < xs.length) :
    ∃ y, DataW.trod enc P W 0 (fun _ => true) true n f.type [c] = some y := by
  obtain ⟨o, k⟩ := Deep.hone_of hone i f hf
  have h := hfld i f hf
  rw [k, o] at h
  have e : List.take 1 (List.drop i cs) = [c] := by
    obtain ⟨hlt, hc⟩ := List.getElem?_eq_some_iff.1 hc
    rw [List.drop_eq_getElem_cons hlt, hc]
    rfl
  rw [e, List.getElem?_eq_getElem hi] at h
  exact ⟨_, h⟩
theorem msg_one : ∀ fs, Tryd.prog.underlying 32 = some (.struct fs) → Deep.oneCellFields Tryd.prog fs = true := by
  intro fs h
  rw [Tryd.underlying32] at h
  injection h with h
  injection h with h
  subst h
  kernel_rfl
set_option maxHeartbeats 1600000 in
theorem open_msg {H : Type} {enc : TypeId × Value → H} {W : World} {b0 : Nat} {v : Value} {d : DataW H} {p : List MemPlace} (hv : Value.okWide Tryd.prog W .any b0 32 v)
    (h : DataW.Trod enc Tryd.prog W 0 (fun _ => true) true 32 v d p) : ∃ m L, v = .agg (MC m L) ∧ (m.vec.length ≤ 140737488355328 → m.body.length ≤ 140737488355328 → m.ok) ∧ In W m L := by
  obtain ⟨cs, rfl, hsz⟩ := okWide_struct Tryd.underlying32 hv
  obtain ⟨c0, c1, c2, c3, c4, c5, c6, c7, c8, c9, c10, rfl⟩ := array11 (hsz.trans msg_cells)
  obtain ⟨fuel, hf⟩ := h
  obtain ⟨xs, n, _, hx, hl, hlen, hfld⟩ := DataW.trod_struct Tryd.underlying32 hf
  have hlen' : xs.length = 11 := hlen
  have hone := msg_one _ Tryd.underlying32
  obtain ⟨y0, g0⟩ : ∃ y, DataW.trod enc Tryd.prog W 0 (fun _ => true) true n 3 [c0] = some y := fld hone hfld 0 _ rfl c0 rfl (by omega)
  obtain ⟨y1, g1⟩ : ∃ y, DataW.trod enc Tryd.prog W 0 (fun _ => true) true n 29 [c1] = some y := fld hone hfld 1 _ rfl c1 rfl (by omega)
  obtain ⟨y2, g2⟩ : ∃ y, DataW.trod enc Tryd.prog W 0 (fun _ => true) true n 29 [c2] = some y := fld hone hfld 2 _ rfl c2 rfl (by omega)
  obtain ⟨y3, g3⟩ : ∃ y, DataW.trod enc Tryd.prog W 0 (fun _ => true) true n 3 [c3] = some y := fld hone hfld 3 _ rfl c3 rfl (by omega)
  obtain ⟨y4, g4⟩ : ∃ y, DataW.trod enc Tryd.prog W 0 (fun _ => true) true n 3 [c4] = some y := fld hone hfld 4 _ rfl c4 rfl (by omega)
  obtain ⟨y5, g5⟩ : ∃ y, DataW.trod enc Tryd.prog W 0 (fun _ => true) true n 29 [c5] = some y := fld hone hfld 5 _ rfl c5 rfl (by omega)
  obtain ⟨y6, g6⟩ : ∃ y, DataW.trod enc Tryd.prog W 0 (fun _ => true) true n 29 [c6] = some y := fld hone hfld 6 _ rfl c6 rfl (by omega)
  obtain ⟨y7, g7⟩ : ∃ y, DataW.trod enc Tryd.prog W 0 (fun _ => true) true n 29 [c7] = some y := fld hone hfld 7 _ rfl c7 rfl (by omega)
  obtain ⟨y8, g8⟩ : ∃ y, DataW.trod enc Tryd.prog W 0 (fun _ => true) true n 3 [c8] = some y := fld hone hfld 8 _ rfl c8 rfl (by omega)
  obtain ⟨y9, g9⟩ : ∃ y, DataW.trod enc Tryd.prog W 0 (fun _ => true) true n 30 [c9] = some y := fld hone hfld 9 _ rfl c9 rfl (by omega)
  obtain ⟨y10, g10⟩ : ∃ y, DataW.trod enc Tryd.prog W 0 (fun _ => true) true n 22 [c10] = some y := fld hone hfld 10 _ rfl c10 rfl (by omega)
  obtain ⟨z0, e0, -, wf0⟩ := DataW.trod_int Tryd.underlying3 g0
  obtain rfl : c0 = .int .i64 z0 := by simpa using e0
  replace wf0 := i64_of_wf wf0
  obtain ⟨z1, e1, -, wf1⟩ := DataW.trod_int Tryd.underlying29 g1
  obtain rfl : c1 = .int .u64 z1 := by simpa using e1
  replace wf1 := u64_of_wf wf1
  obtain ⟨z2, e2, -, wf2⟩ := DataW.trod_int Tryd.underlying29 g2
  obtain rfl : c2 = .int .u64 z2 := by simpa using e2
  replace wf2 := u64_of_wf wf2
  obtain ⟨z3, e3, -, wf3⟩ := DataW.trod_int Tryd.underlying3 g3
  obtain rfl : c3 = .int .i64 z3 := by simpa using e3
  replace wf3 := i64_of_wf wf3
  obtain ⟨z4, e4, -, wf4⟩ := DataW.trod_int Tryd.underlying3 g4
  obtain rfl : c4 = .int .i64 z4 := by simpa using e4
  replace wf4 := i64_of_wf wf4
  obtain ⟨z5, e5, -, wf5⟩ := DataW.trod_int Tryd.underlying29 g5
  obtain rfl : c5 = .int .u64 z5 := by simpa using e5
  replace wf5 := u64_of_wf wf5
  obtain ⟨z6, e6, -, wf6⟩ := DataW.trod_int Tryd.underlying29 g6
  obtain rfl : c6 = .int .u64 z6 := by simpa using e6
  replace wf6 := u64_of_wf wf6
  obtain ⟨z7, e7, -, wf7⟩ := DataW.trod_int Tryd.underlying29 g7
  obtain rfl : c7 = .int .u64 z7 := by simpa using e7
  replace wf7 := u64_of_wf wf7
  obtain ⟨z8, e8, -, wf8⟩ := DataW.trod_int Tryd.underlying3 g8
  obtain rfl : c8 = .int .i64 z8 := by simpa using e8
  replace wf8 := i64_of_wf wf8
  obtain ⟨A9, l9, k9, e9⟩ := Joins.slice_form Tryd.underlying30 g9
  obtain rfl : c9 = .slice A9 l9 k9 := by simpa using e9
  obtain ⟨A10, l10, k10, e10⟩ := Joins.slice_form Tryd.underlying22 g10
  obtain rfl : c10 = .slice A10 l10 k10 := by simpa using e10
  obtain ⟨vec, hvn, hvs, hvx⟩ := open_u64s_sl (enc := enc) Tryd.underlying30 Tryd.underlying29 (by kernel_rfl) (W := W) (a0 := A9) (len := l9) (cap := k9) (d0 := y9.1) (p := y9.2) ⟨n, by simpa [Value.cells] using g9⟩
  obtain ⟨body, hbn, hbs⟩ := open_bytes_sl (enc := enc) Tryd.underlying22 Tryd.underlying5 (by kernel_rfl) (W := W) (a0 := A10) (len := l10) (cap := k10) (d0 := y10.1) (p := y10.2) ⟨n, by simpa [Value.cells] using g10⟩
  refine ⟨{ kind := z0, ballot := z1.toNat, slot := z2.toNat, shard := z3, seg := z4, client := z5.toNat, seq := z6.toNat, pos := z7.toNat, code := z8, vec := vec, body := body }, ⟨A9, k9, A10, k10⟩, ?_, ?_, ⟨hvs, hbs⟩⟩
  · unfold MC
    simp only [Int.toNat_of_nonneg wf1.1, Int.toNat_of_nonneg wf2.1, Int.toNat_of_nonneg wf5.1, Int.toNat_of_nonneg wf6.1, Int.toNat_of_nonneg wf7.1, hvn, hbn]
  · exact fun h1 h2 => ⟨wf0, by simp only; omega, by simp only; omega, wf3, wf4, by simp only; omega, by simp only; omega, by simp only; omega, wf8, hvx, h1, h2⟩
end Go.Proofs.YtlheaicojmjdpaaDoor
