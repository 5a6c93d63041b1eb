/- Texts laid as one: Fold9, Folda. -/
import Derived.Test.YtkodmgnagfolpaaFoldA
import Derived.Test.YtkodmgnagfolpaaFoldP
import Derived.Test.YtkodmgnagfolpaaRef10a
import Derived.Test.YtkodmgnagfolpaaConfM1
import Derived.Laws.MakeOwn

section
/- Package fold: cut. -/
namespace Go.Proofs.Ytkodmgnagfolpaa
set_option maxRecDepth 100000
open Go.RowKit Go.Maps
set_option linter.unusedVariables false
set_option linter.unusedSimpArgs false

theorem infoRow64 : (Try.prog.info? 34).map (fun i => (i.zero, i.size, i.bytes)) = some (some (.slice none 0 0), 1, 24) := by kernel_rfl
theorem made_rows (n : Nat) : (madeCells (Value.slice none 0 0).cells (n * 1)).toList = List.replicate n (.slice none 0 0) := by
  rw [Nat.mul_one]
  apply List.ext_getElem
  · simp [madeCells]
  · intro i h1 h2
    simp [madeCells, Value.cells, Nat.mod_one]
theorem own_made_rows {w : World} {base n : Nat} (hb : base ≤ w.heap.size) (hn : n ≤ 1000000) : (w.alloc (.cells (madeCells (Value.slice none 0 0).cells (n * 1)) 34)).ownsRow base 34 1 (.slice (some ⟨w.heap.size, 0, none⟩) n n) n (List.replicate n (.slice none 0 0)) := by
  have h := made_rows n
  refine ⟨by simp, .inr ⟨w.heap.size, n, _, rfl, hb, heap_alloc_new w _, Nat.le_refl _, by unfold maxLen; omega, by rw [← Array.length_toList, h]; simp, ?_⟩⟩
  rw [h, List.take_of_length_le (by simp)]
/-- No row of a type that a state has not is one of its blocks. -/
theorem StAt.own_off {w : World} {f : FA} {s : PF} {T : Nat} (h : StAt w f s T) {base n size : Nat} {e : TypeId} {v : Value} {xs : List Value} (ho : w.ownsRow base e size v n xs) (h1 : e ≠ 60) (h2 : e ≠ 47) : ∀ k, v.ownBlock = some k → ¬ FS f k := by
  intro k hk hf
  rcases hf with rfl | rfl | rfl | hs
  · exact own_blk_ne ho h.blk h1 hk
  · exact isMap_own h.map1 ho hk
  · exact isMap_own h.map2 ho hk
  · exact own_own_ne ho h.spans h2 hk hs
def flatZ (Z : List RowN) : List Nat := (rowsOf Z).flatten
theorem flatZ_snoc (Z : List RowN) (r : RowN) : flatZ (Z ++ [r]) = flatZ Z ++ r.xs := by simp [flatZ, rowsOf]
/-- What is new of each row, so far. -/
structure CutS (w wr : World) (s : PF) (l : List PW) (n gN : Nat) (av : Value) (Z : List RowN) : Prop where
  m : Mods Nil w wr
  le : Z.length ≤ n
  new : w.heap.size ≤ gN
  news : wr.ownsRow 0 34 1 (.slice (some ⟨gN, 0, none⟩) n n) n (Z.map RowN.val ++ List.replicate (n - Z.length) (.slice none 0 0))
  all : wr.ownsRow w.heap.size 27 1 av (s.n :: flatZ Z).length (nums (s.n :: flatZ Z))
  z : ∀ t (h : t < Z.length) (hl : t < l.length), wr.ownsRow w.heap.size 27 1 Z[t].val Z[t].xs.length (nums Z[t].xs) ∧ isCut Z[t].xs ∧ ∀ g, vat Z[t].xs g = vat l[t].lens g - vat (lensO s l[t].shard) g
  far : ∀ t (h : t < Z.length) k, Z[t].val.ownBlock = some k → av.ownBlock ≠ some k
  ok : rowsE s (l.take Z.length) = 0
  few : (flatZ Z).length ≤ 4 * Z.length
  bd : Bd (s.n :: flatZ Z)
theorem new_len {zs a b : List Nat} {n : Nat} (hc : isCut zs) (hz : ∀ g, vat zs g = vat b g - vat a g) (hb : b.length ≤ n) : zs.length ≤ n := by
  rcases Nat.lt_or_ge n zs.length with hlt | hge
  · obtain ⟨k, hk⟩ : ∃ k, zs.length = k + 1 := ⟨zs.length - 1, by omega⟩
    have h1 := hc k hk
    rw [hz, vat_ge (xs := b) (by omega), Nat.zero_sub] at h1
    exact absurd rfl h1
  · exact hge
theorem Bd_append {a b : List Nat} (ha : Bd a) (hb : Bd b) : Bd (a ++ b) := fun i => by
  rw [vat_append]
  split
  · exact ha i
  · exact hb _
theorem rowsE_first {s : PF} : ∀ {l : List PW} {j : Nat} (hj : j < l.length), rowsE s (l.take j) = 0 → rowE s l[j] ≠ 0 → rowsE s l = rowE s l[j]
  | r :: l, 0, hj, _, h => by simp only [rowsE, List.getElem_cons_zero] at h ⊢; rw [if_pos h]
  | r :: l, j + 1, hj, h0, h => by
    simp only [List.take_succ_cons, rowsE] at h0
    split at h0
    · rename_i hne; exact absurd h0 hne
    · rename_i hz
      simp only [rowsE, List.getElem_cons_succ] at h ⊢
      rw [if_neg hz]
      exact rowsE_first (by simpa using hj) h0 h
theorem rowsE_snoc {s : PF} {l : List PW} {j : Nat} (hj : j < l.length) (h : rowsE s (l.take j) = 0) (h1 : rowE s l[j] = 0) : rowsE s (l.take (j + 1)) = 0 := by
  rw [List.take_succ_eq_append_getElem hj]
  refine rowsE_of fun r hr => ?_
  rcases List.mem_append.1 hr with hr | hr
  · exact rowsE_mem h r hr
  · rw [List.mem_singleton.1 hr]; exact h1
/-- One row more. -/
theorem CutS.push {w wr w2 w3 w4 : World} {s : PF} {l : List PW} {n gN : Nat} {av av' : Value} {Z : List RowN} (h : CutS w wr s l n gN av Z) (hln : l.length = n) (hlt : Z.length < n) {A : Option Addr} {c m : Nat} {zs : List Nat} (hzm : zs.length = m)
    (hm2 : Mods Nil wr w2) (ho : w2.ownsRow wr.heap.size 27 1 (.slice A m c) m (nums zs)) (hzc : isCut zs) (hz : ∀ g, vat zs g = vat (l[Z.length]'(by omega)).lens g - vat (lensO s (l[Z.length]'(by omega)).shard) g) (he : rowE s (l[Z.length]'(by omega)) = 0) (h4 : (l[Z.length]'(by omega)).lens.length ≤ 4) (hbd : Bd (l[Z.length]'(by omega)).lens)
    (hw3 : w3 = w2.setCell ⟨gN, Z.length, none⟩ (.slice A m c)) (ho4 : w4.ownsRow w.heap.size 27 1 av' ((s.n :: flatZ Z).length + m) (nums (s.n :: flatZ Z) ++ nums zs)) (hg : w3.grownBy w4 av.ownBlock) (hv : ∀ k, av'.ownBlock = some k → av.ownBlock = some k ∨ w3.heap.size ≤ k) :
    CutS w w4 s l n gN av' (Z ++ [⟨A, c, zs⟩]) := by
  have hs3 : Mods (fun k => k = gN) w2 w3 := by rw [hw3]; exact Mods.setCell (S := fun k => k = gN) (Mods.refl _ _) (fun _ => rfl) _
  have hs4 : Mods (fun k => av.ownBlock = some k) w3 w4 := (Mods.refl _ _).grown hg (fun k hk _ => hk)
  have hn2 := own_mods h.news hm2 (fun _ _ h => h)
  have hn3 : w3.ownsRow 0 34 1 (.slice (some ⟨gN, 0, none⟩) n n) n ((Z ++ [(⟨A, c, zs⟩ : RowN)]).map RowN.val ++ List.replicate (n - (Z ++ [(⟨A, c, zs⟩ : RowN)]).length) (.slice none 0 0)) := by
    have := own_cell_set hn2 Z.length (.slice A m c)
    rw [← hw3] at this
    have e : (Z.map RowN.val ++ List.replicate (n - Z.length) (Value.slice none 0 0)).set Z.length (.slice A m c) = (Z ++ [(⟨A, c, zs⟩ : RowN)]).map RowN.val ++ List.replicate (n - (Z ++ [(⟨A, c, zs⟩ : RowN)]).length) (Value.slice none 0 0) := by
      obtain ⟨q, hq⟩ : ∃ q, n - Z.length = q + 1 := ⟨n - Z.length - 1, by omega⟩
      have hq2 : n - (Z ++ [(⟨A, c, zs⟩ : RowN)]).length = q := by simp; omega
      rw [hq2, hq, List.set_append_right _ _ (by simp)]
      simp [List.replicate_succ, RowN.val, hzm]
    rw [e] at this
    exact this
  have hsz2 := hm2.size
  have hsz3 : w3.heap.size = w2.heap.size := by rw [hw3]; simp [World.setCell]
  have ha2 := own_mods h.all hm2 (fun _ _ h => h)
  have ha3 := own_mods ha2 hs3 (fun k hk e => by subst e; exact own_own_ne ha2 hn2 (by decide) hk (by rfl))
  have halt : ∀ k, av.ownBlock = some k → k < wr.heap.size := fun k hk => own_lt h.all hk
  have ho3 := own_mods ho hs3 (fun k hk e => by subst e; exact own_own_ne ho hn2 (by decide) hk (by rfl))
  have hzk : ∀ k, (Value.slice A m c).ownBlock = some k → wr.heap.size ≤ k ∧ k < w2.heap.size := fun k hk => ⟨by
    rcases ho.2 with ⟨e, _⟩ | ⟨g', cap, cur, e, hb, _⟩
    · rw [e] at hk; simp [Value.ownBlock] at hk
    · rw [e] at hk; simp [Value.ownBlock] at hk; omega, own_lt ho hk⟩
  have ho4z := own_mods ho3 hs4 (fun k hk e => by have := (hzk k hk).1; have := halt k e; omega)
  refine ⟨?_, by simp; omega, h.new, ?_, ?_, ?_, ?_, ?_, ?_, ?_⟩
  · refine ((h.m.trans hm2).trans2 hs3 (fun k hk e => ?_)).trans2 hs4 (fun k hk e => ?_)
    · have := h.new; omega
    · rcases h.all.2 with ⟨e', _⟩ | ⟨g', cap, cur, e', hb, _⟩
      · rw [e'] at e; simp [Value.ownBlock] at e
      · rw [e'] at e; simp [Value.ownBlock] at e; omega
  · exact own_mods hn3 hs4 (fun k hk e => own_own_ne hn3 ha3 (by decide) hk e)
  · rw [flatZ_snoc]
    have e1 : (s.n :: flatZ Z).length + m = (s.n :: (flatZ Z ++ zs)).length := by simp [hzm]; omega
    have e2 : nums (s.n :: flatZ Z) ++ nums zs = nums (s.n :: (flatZ Z ++ zs)) := by rw [← nums_append]; rfl
    rw [e1, e2] at ho4
    exact ho4
  · intro t ht hl
    simp only [List.length_append, List.length_singleton] at ht
    by_cases hlt : t < Z.length
    · rw [List.getElem_append_left hlt]
      obtain ⟨h1, h2, h3⟩ := h.z t hlt hl
      have h5 := own_mods h1 hm2 (fun _ _ h => h)
      have h6 := own_mods h5 hs3 (fun k hk e => by subst e; exact own_own_ne h5 hn2 (by decide) hk (by rfl))
      exact ⟨own_mods h6 hs4 (fun k hk e => h.far t hlt k hk e), h2, h3⟩
    · obtain rfl : t = Z.length := by omega
      rw [List.getElem_append_right (Nat.le_refl _)]
      simp only [Nat.sub_self, List.getElem_cons_zero, RowN.val]
      rw [hzm]
      exact ⟨own_rebase ho4z h.m.size, hzc, hz⟩
  · intro t ht k hk
    simp only [List.length_append, List.length_singleton] at ht
    by_cases hlt : t < Z.length
    · rw [List.getElem_append_left hlt] at hk
      have h1 := h.far t hlt k hk
      have h2 := own_lt (h.z t hlt (by omega)).1 hk
      intro e
      rcases hv k e with e | e
      · exact h1 e
      · omega
    · obtain rfl : t = Z.length := by omega
      rw [List.getElem_append_right (Nat.le_refl _)] at hk
      simp only [Nat.sub_self, List.getElem_cons_zero, RowN.val] at hk
      rw [hzm] at hk
      have h1 := hzk k hk
      intro e
      rcases hv k e with e | e
      · have := halt k e; omega
      · omega
  · simp only [List.length_append, List.length_singleton]
    exact rowsE_snoc (by omega) h.ok he
  · rw [flatZ_snoc]
    have := new_len hzc hz h4
    have := h.few
    simp only [List.length_append, List.length_singleton]; omega
  · rw [flatZ_snoc, ← List.cons_append]
    refine Bd_append h.bd (fun i => ?_)
    show vat zs i < _
    rw [hz]
    exact Nat.lt_of_le_of_lt (Nat.sub_le _ _) (hbd i)
theorem CutS.box {w wr w2 w3 w4 : World} {s : PF} {l : List PW} {n gN j g : Nat} {av u : Value} {Z : List RowN} {t : TypeId} {cs : Array Value} (h : CutS w wr s l n gN av Z) (hb : Blk wr g t cs) (h1 : 27 ≠ t) (h2 : 34 ≠ t) (hm2 : Mods Nil wr w2) (hw3 : w2.setCell ⟨gN, j, none⟩ u = w3) (hg : w3.grownBy w4 av.ownBlock) : Blk w4 g t cs := by
  have hb2 := hb.mods hm2 (fun h => h)
  have hn2 := own_mods h.news hm2 (fun _ _ h => h)
  have ha2 := own_mods h.all hm2 (fun _ _ h => h)
  have hs3 : Mods (fun k => k = gN) w2 w3 := by rw [← hw3]; exact Mods.setCell (S := fun k => k = gN) (Mods.refl _ _) (fun _ => rfl) _
  have hb3 := hb2.mods hs3 (fun e => by subst e; exact own_blk_ne hn2 hb2 h2 (by rfl))
  have ha3 := own_mods ha2 hs3 (fun k hk e => by subst e; exact own_own_ne ha2 hn2 (by decide) hk (by rfl))
  exact hb3.grown hg (fun e => own_blk_ne ha3 hb3 h1 e.symm)
theorem own_at_lit {w : World} {base n size g cap : Nat} {e : TypeId} {xs : List Value} (h : w.ownsRow base e size (.slice (some ⟨g, 0, none⟩) n cap) n xs) {j : Nat} {u : Value} (hj : xs[j]? = some u) : w.cell? ⟨g, j, none⟩ = some u ∧ w.frozen? ⟨g, j, none⟩ = false := by
  rcases h.2 with ⟨hv, _⟩ | ⟨g', cap', cur, hv, hb, hgg, h1, h2, h3, h4⟩
  · cases hv
  · injection hv with e1
    injection e1 with e1
    injection e1 with e1
    subst e1
    have hc := h.cells rfl j u hj
    rw [Addr.add_lit, Nat.zero_add] at hc
    exact ⟨hc, Blk.frozen (w := w) hgg j⟩
theorem span_lit {w : World} {n g c : Nat} {l : List PP} (h : w.ownsRow 0 47 5 (.slice (some ⟨g, 0, none⟩) n c) n (rowP l)) {i : Nat} (hi : i < l.length) :
    w.cell? ⟨g, i * 5, none⟩ = some (.int .u64 (l[i].pos : Int)) ∧ w.cell? ⟨g, i * 5 + 1, none⟩ = some (.int .i64 l[i].sh) ∧ w.cell? ⟨g, i * 5 + 2, none⟩ = some (.int .i64 (l[i].seg : Int)) ∧ w.cell? ⟨g, i * 5 + 3, none⟩ = some (.int .u64 (l[i].off : Int)) ∧ w.cell? ⟨g, i * 5 + 4, none⟩ = some (.int .u64 (l[i].many : Int)) :=
  ⟨(own_at_lit h (rowP_get hi (j := 0) (by omega))).1, (own_at_lit h (rowP_get hi (j := 1) (by omega))).1, (own_at_lit h (rowP_get hi (j := 2) (by omega))).1, (own_at_lit h (rowP_get hi (j := 3) (by omega))).1, (own_at_lit h (rowP_get hi (j := 4) (by omega))).1⟩
theorem CutS.six {w wr w2 w3 : World} {s : PF} {l : List PW} {n gN j : Nat} {av : Value} {Z : List RowN} (h : CutS w wr s l n gN av Z) {A : Option Addr} {c m : Nat} {zs : List Nat} (hm2 : Mods Nil wr w2) (ho : w2.ownsRow wr.heap.size 27 1 (.slice A m c) m (nums zs))
    (hw3 : w2.setCell ⟨gN, j, none⟩ (.slice A m c) = w3) : w3.ownsRow w.heap.size 27 1 av (s.n :: flatZ Z).length (nums (s.n :: flatZ Z)) ∧ Sl w3 A c (nums zs) ∧ w.heap.size ≤ w3.heap.size := by
  have hs3 : Mods (fun k => k = gN) w2 w3 := by rw [← hw3]; exact Mods.setCell (S := fun k => k = gN) (Mods.refl _ _) (fun _ => rfl) _
  have hn2 := own_mods h.news hm2 (fun _ _ h => h)
  have ha2 := own_mods h.all hm2 (fun _ _ h => h)
  refine ⟨own_mods ha2 hs3 (fun k hk e => by subst e; exact own_own_ne ha2 hn2 (by decide) hk (by rfl)), own_sl (own_mods ho hs3 (fun k hk e => by subst e; exact own_own_ne ho hn2 (by decide) hk (by rfl))), ?_⟩
  have := h.m.size
  have := hm2.size
  have := hs3.size
  omega
end Go.Proofs.Ytkodmgnagfolpaa
end

section
/- Package fold: cut, walked. -/
namespace Go.Proofs.Ytkodmgnagfolpaa
set_option maxRecDepth 100000
open Go.RowKit Go.Maps
set_option linter.unusedVariables false
set_option linter.unusedSimpArgs false

theorem Rws.rowbd {w : World} {A : Option Addr} {n c : Nat} {L : List RowP} (h : Rws w A n c L) : ∀ q ∈ L, Bd q.lens ∧ in64 q.shard := fun q hq => by
  have hg := (h.good q.fv (List.mem_map.2 ⟨q, hq, rfl⟩)).2
  have h0 := hg (.int .i64 q.shard) (by simp [RowP.fv])
  have h1 := hg (.u64s q.A q.cap q.lens) (by simp [RowP.fv])
  exact ⟨Bd.of h1.2, h0⟩
theorem cutF_bad {s : PF} {l : List PW} {j : Nat} (hj : j < l.length) (h0 : rowsE s (l.take j) = 0) (h : rowE s l[j] ≠ 0) : cutF s l = (rowE s l[j], s) := by
  have := rowsE_first hj h0 h
  unfold cutF
  rw [this, if_pos h]
theorem Rws.row_sl {w : World} {A : Option Addr} {n c j : Nat} {L : List RowP} {q : RowP} (h : Rws w A n c L) (hj : j < n) (hq : L[j]? = some q) : Sl w q.A q.cap (nums q.lens) := by
  obtain ⟨b, off, q', e, _, hq', _, _, hs, _⟩ := Rws.at_ h hj
  rw [hq] at hq'
  injection hq' with hq'
  subst hq'
  exact hs
theorem cutF_worn {s : PF} {l : List PW} (h0 : rowsE s l = 0) (h : ¬ (putRows s l).n < 18446744073709551616) : cutF s l = (37, s) := by
  unfold cutF
  rw [if_neg (by simp [h0]), if_pos (by omega)]
theorem cutF_ok {s : PF} {l : List PW} (h0 : rowsE s l = 0) (h : (putRows s l).n < 18446744073709551616) : cutF s l = (0, putRows s l) := by
  unfold cutF
  rw [if_neg (by simp [h0]), if_neg (by omega)]
theorem CutS.total {w wr : World} {s : PF} {l : List PW} {n gN : Nat} {av : Value} {Z : List RowN} (h : CutS w wr s l n gN av Z) (hg : s.good) (hb : rowsB l (-1) = true) (hln : l.length = n) (hz : Z.length = n) : rowsE s l = 0 ∧ total (s.n :: flatZ Z) = (putRows s l).n := by
  have h0 := h.ok
  rw [List.take_of_length_le (by omega)] at h0
  refine ⟨h0, ?_⟩
  have := putRows_total hg.L' hb h0 (Z := rowsOf Z) (by simp [rowsOf]; omega) (fun t ht => by
    simp only [rowsOf, List.length_map] at ht
    obtain ⟨h1, h2, h3⟩ := h.z t ht (by omega)
    simp only [rowsOf, List.getElem_map]
    exact ⟨h2, fun q hq g => by rw [h3, lensO_some hq]⟩) n (by omega)
  rw [List.take_of_length_le (by simp [rowsOf]; omega), List.take_of_length_le (by omega)] at this
  exact this
set_option maxHeartbeats 6400000 in
theorem fcut_any {w : World} {f : FA} {s : PF} {T : Nat} (h : StAt w f s T) (hg : s.good) (c : PC) {A : Option Addr} {n k : Nat} {L : List RowP} (hr : c.rows = pws L) (hR : ∀ V, Mods (FS f) w V → Rws V A n k L) (hb : rowsB c.rows (-1) = true) (hn8 : n ≤ 8) (hL : s.L.length ≤ 800000) (hT : T ≤ 1000000) :
    Calls Try.prog 40 #[.pointer (some ⟨f.b, 0, none⟩), .agg (CV c A n k)] w fun e w' => e = .returned (.int .i64 (cutF s c.rows).1) ∧ ∃ f', StAt w' f' (cutF s c.rows).2 T ∧ FA.next w f f' ∧ Mods (FS f) w w' := by
  obtain ⟨i0, hi0, hz0, hz1, hz2⟩ := info_parts infoV64
  obtain ⟨i1, hi1, ha0, ha1, ha2⟩ := info_parts infoRow64
  have HMK := fun V : World => run_make (P := Try.prog) V 88 34 i1 (.slice none 0 0) Try.underlying88 hi1 ha0 .i64 .i64 (n : Int) (n : Int) (by omega) (by omega) (by rw [ha2]; omega) (by omega)
  rw [ha1] at HMK
  simp only [Int.toNat_natCast] at HMK
  have HI0 := Lib.hid hi0
  clear hi0 hi1 ha0 ha1 ha2
  have hlen : c.rows.length = n := by
    rw [hr]
    have := (hR w (Mods.refl _ _)).len
    simpa [pws] using this
  obtain ⟨l, hl⟩ : ∃ l, c.rows = l := ⟨_, rfl⟩
  rw [hl] at hr hb hlen
  rw [hl]
  obtain ⟨W0, hW0⟩ : ∃ W, w.alloc (.cells (CV c A n k) 30) = W := ⟨_, rfl⟩
  have M0 : Hid (Mods Nil w W0) := by rw [← hW0]; exact Lib.hid ((Mods.refl Nil w).alloc _)
  have B0 : Hid (Blk W0 w.heap.size 30 (CV c A n k)) := by
    subst hW0
    exact Lib.hid (Blk.new w _ _)
  obtain ⟨d0, d1, d2, d3, d4, d5, d6⟩ := cv_seven B0.out
  clear d0 d1 d2 d3 d4 d5
  obtain ⟨W1, hW1⟩ : ∃ W, W0.alloc (.cells (madeCells #[.slice none 0 0] n) 34) = W := ⟨_, rfl⟩
  have M1 : Hid (Mods Nil w W1) := by rw [← hW1]; exact Lib.hid (M0.out.alloc _)
  have N1 : Hid (W1.ownsRow 0 34 1 (.slice (some ⟨W0.heap.size, 0, none⟩) n n) n (List.replicate n (.slice none 0 0))) := by
    subst hW1
    have := own_made_rows (w := W0) (base := 0) (n := n) (Nat.zero_le _) (by omega)
    rw [Nat.mul_one] at this
    exact Lib.hid this
  have HH := Lib.hid h
  have HG := Lib.hid hg
  have HR := Lib.hid hR
  have HB := Lib.hid hb
  have HN := Lib.hid hlen
  have HPW := Lib.hid hr
  have HLL := Lib.hid hL
  have S0 := Lib.hid M0.out.size
  have HLEN := Lib.hid (fun V (hV : Mods Nil w V) => flen_any (h.nil hV) hg.len (by omega))
  obtain ⟨N, hN⟩ : ∃ N, s.n = N := ⟨_, rfl⟩
  rw [hN] at HLEN
  have HNN := Lib.hid hN
  clear h hg hR hb hlen hr hL hN hl
  go_enter Try.func40, Try.ntmps40
  go_wp2_with (first
    | (go_at_call 13; refine (HLEN.out _ M1.out).mono ?_; rintro e w2 ⟨rfl, m2⟩; have M2 := Lib.hid m2; clear m2; obtain ⟨W3, hW3⟩ : ∃ W, w2.alloc (.cells #[.int .u64 (N : Int)] 27) = W := ⟨_, rfl⟩; have M3 : Hid (Mods Nil W1 W3) := (by rw [← hW3]; exact Lib.hid (M2.out.alloc _)); have BX := Lib.hid ((B0.out.mods (show Mods Nil W0 W1 from (by rw [← hW1]; exact (Mods.refl Nil W0).alloc _)) (fun h => h)).mods M3.out (fun h => h)); have d6 := (cv_seven BX.out).2.2.2.2.2.2))
  have C0 : Hid (CutS w W3 s l n W0.heap.size (.slice (some ⟨w2.heap.size, 0, none⟩) 1 1) []) := by
    refine Lib.hid ⟨M1.out.trans M3.out, Nat.zero_le _, M0.out.size, ?_, ?_, fun t h => by simp at h, fun t h => by simp at h, rfl, by simp [flatZ, rowsOf], ?_⟩
    · exact own_mods N1.out M3.out (fun _ _ h => h)
    · refine ⟨by simp [flatZ, rowsOf], .inr ⟨w2.heap.size, 1, #[.int .u64 (N : Int)], rfl, ?_, ?_, by simp [flatZ, rowsOf], by unfold maxLen; omega, rfl, ?_⟩⟩
      · have := M1.out.size; have := M2.out.size; omega
      · rw [← hW3]; exact Blk.new w2 _ _
      · rw [← HNN.out]; simp [flatZ, rowsOf, nums]
    · intro i
      rcases i with _ | i
      · rw [vat_cons_zero]; exact HG.out.fit
      · rw [vat_cons_succ]; simp [flatZ, rowsOf, vat]
  have D0 := Lib.hid d6
  clear hW1 hW3 hW0 HMK
  go_wp2_with fail
  go_loopw [6, 25] (fun y x wr => ∃ (Z : List RowN) (A6 : Option Addr) (n6 c6 : Nat), x = .int .i64 (Z.length : Int) ∧ y = .slice A6 n6 c6 ∧ CutS w wr s l n W0.heap.size (.slice A6 n6 c6) Z ∧ Blk wr w.heap.size 30 (CV c A n k)) (fun _ x _ => n - (intOf x).toNat)
  case atStart => exact ⟨[], _, _, _, rfl, rfl, C0.out, BX.out⟩
  case round =>
    obtain ⟨Z, A6, n6, c6, rfl, rfl, hc, hbx⟩ := hrel
    have HC := Lib.hid hc
    have hjn := hc.le
    clear hc C0 BX
    have BX := Lib.hid hbx
    clear hbx
    obtain ⟨j, hj⟩ : ∃ j, Z.length = j := ⟨_, rfl⟩
    have HJ := Lib.hid hj
    rw [hj] at hjn ⊢
    clear hj
    by_cases hlt : j < n
    · have hjI : (j : Int) < (n : Int) := by omega
      have hrw := HR.out wr (HC.out.m.mono (fun _ _ h => h.elim))
      obtain ⟨g, off, q, rfl, hgl, hq, hc0, hc1, hs, hx, -⟩ := Rws.at_ hrw hlt
      rw [← Nat.add_assoc] at hc1
      have hqm : q ∈ L := List.mem_of_getElem? hq
      obtain ⟨hbd, hin⟩ := hrw.rowbd q hqm
      have hlq : l[j]'(by rw [HN.out]; exact hlt) = q.pw := by
        have e1 : l[j]? = some q.pw := by rw [HPW.out]; simp [pws, hq]
        exact (List.getElem?_eq_some_iff.1 e1).2
      have h4 := (rowsB_cut HB.out _ (List.getElem_mem (show j < l.length by rw [HN.out]; exact hlt))).2.1
      rw [hlq] at h4
      have hq4 : q.lens.length ≤ 4 := h4
      have HLQ := Lib.hid hlq
      have HBD := Lib.hid hbd
      have HFR := Lib.hid (fun V (hV : Mods Nil wr V) => ffresh_any (HH.out.nil (HC.out.m.trans hV)) HG.out q.pw hin rfl (show q.lens.length ≤ 1000000 by omega) hbd (hs.mods hV (fun _ _ h => h)))
      obtain ⟨re, hre⟩ : ∃ re, rowE s q.pw = re := ⟨_, rfl⟩
      have HRE := Lib.hid hre
      obtain ⟨m, hm⟩ : ∃ m, q.lens.length = m := ⟨_, rfl⟩
      rw [hm] at hc1 hq4
      rw [show q.pw.lens.length = m from hm] at HFR
      have HQM := Lib.hid hm
      obtain ⟨sh, hsh⟩ : ∃ sh, q.shard = sh := ⟨_, rfl⟩
      rw [hsh] at hc0
      rw [show q.pw.shard = sh from hsh] at HFR
      obtain ⟨Wb, hWb⟩ : ∃ W, wr.alloc (.cells #[.int .i64 sh, .slice q.A m q.cap] 52) = W := ⟨_, rfl⟩
      have MWb : Hid (Mods Nil wr Wb) := by rw [← hWb]; exact Lib.hid ((Mods.refl Nil wr).alloc _)
      have y0 : Wb.cell? ⟨wr.heap.size, 0, none⟩ = some (.int .i64 sh) := by rw [← hWb]; exact (Blk.new wr _ _).cell 0
      have y1 : Wb.cell? ⟨wr.heap.size, 1, none⟩ = some (.slice q.A m q.cap) := by rw [← hWb]; exact (Blk.new wr _ _).cell 1
      clear hrw hq hs hx hqm hbd hin hlq h4 hre hm hsh hgl
      by_cases hz : re = 0
      · subst hz
        have HLZ : Hid (∀ h : Z.length < l.length, l[Z.length]'h = q.pw) := Lib.hid (fun h => by
          have := HLQ.out
          simp only [← HJ.out] at this
          exact this)
        have hall := HC.out.all
        obtain ⟨A9, c9, e9, hn9, -, -⟩ := own_slice hall
        injection e9 with e1 e2 e3
        have HN6 := Lib.hid e2
        rw [← e2] at hall
        have HALL := Lib.hid hall
        have HCJ : Hid ((Z.map RowN.val ++ List.replicate (n - Z.length) (Value.slice none 0 0))[j]? = some (.slice none 0 0)) := Lib.hid (by
          rw [List.getElem?_append_right (by simp [HJ.out])]
          rw [List.length_map, HJ.out, List.getElem?_replicate, if_pos (by omega)])
        have N6L : Hid (n6 ≤ 33) := Lib.hid (by have := HC.out.few; have := HC.out.le; rw [HN6.out]; simp; omega)
        clear hall e1 e2 e3 hn9
        go_wp2_with (first
          | (go_at_call 49; go_loud (
             refine (HFR.out _ MWb.out).mono ?_; intro e w5 h5; have H5 : Hid (∃ A3 m3 c3 zs, e = .returned (.tuple #[.slice A3 m3 c3, .int .i64 0]) ∧ zs.length = m3 ∧ w5.ownsRow wr.heap.size 27 1 (.slice A3 m3 c3) m3 (nums zs) ∧ isCut zs ∧ (∀ g, vat zs g = vat q.pw.lens g - vat (lensO s q.pw.shard) g) ∧ Mods Nil wr w5) := Lib.hid (by
              obtain ⟨v, h6, zs, h7, h8, h9⟩ := h5.2.1 HRE.out
              obtain ⟨A3, c3, rfl, -, -, -⟩ := own_slice h7
              exact ⟨A3, _, c3, zs, h6, rfl, own_rebase h7 MWb.out.size, h8, h9, MWb.out.trans h5.2.2⟩); clear h5; obtain ⟨A3, m3, c3, zs, rfl, z1, z2, z3, z4, z5⟩ := H5.out; have Z1 := Lib.hid z1; have Z2 := Lib.hid z2; have Z3 := Lib.hid z3; have Z4 := Lib.hid z4; have Z5 := Lib.hid z5; clear z1 z2 z3 z4 z5 H5
             obtain ⟨c5, f5⟩ := own_at_lit (own_mods HC.out.news Z5.out (fun _ _ h => h)) HCJ.out
             obtain ⟨W6, hW6⟩ : ∃ W, w5.setCell ⟨W0.heap.size, j, none⟩ (.slice A3 m3 c3) = W := ⟨_, rfl⟩
             have hsix := HC.out.six Z5.out Z2.out hW6
             rw [← HN6.out] at hsix
             have SIX := Lib.hid hsix
             have M34 : Hid (m3 ≤ 4) := Lib.hid (by rw [← Z1.out]; exact new_len Z3.out Z4.out (by rw [show q.pw.lens.length = m from HQM.out]; exact hq4))
             clear hsix))
          | (at_builtin; refine wpList_append_sl _ rfl _ _ 34 rfl w.heap.size 27 i0 (.int .u64 0) 8 Try.underlying34 HI0.out hz0 hz1 hz2 rfl (.slice A6 n6 c6) n6 (nums (s.n :: flatZ Z)) rfl SIX.out.1 A3 m3 c3 (nums zs) rfl (by simp [Z1.out]) SIX.out.2.1 (nums_one zs) (by have := M34.out; have := N6L.out; omega) (by have := M34.out; have := N6L.out; unfold maxLen; omega) SIX.out.2.2 ?_; intro v' w7 hown hgrow hv; obtain ⟨A7, c7, rfl, -, -, -⟩ := own_slice hown; have OWN := Lib.hid hown; have GROW := Lib.hid hgrow; have HVV := Lib.hid hv; clear hown hgrow hv))
        have hpush := HC.out.push HN.out (by rw [HJ.out]; exact hlt) Z1.out Z5.out Z2.out Z3.out (fun g => by rw [HLZ.out]; exact Z4.out g) (by rw [HLZ.out]; exact HRE.out) (by rw [HLZ.out, show q.pw.lens.length = m from HQM.out]; exact hq4) (by rw [HLZ.out]; exact HBD.out) (w3 := W6) (w4 := w7) (by rw [HJ.out]; exact hW6.symm) (by rw [← HN6.out]; exact OWN.out) GROW.out HVV.out
        have HPU := Lib.hid hpush
        have HBX := Lib.hid (HC.out.box BX.out (by decide) (by decide) Z5.out hW6 GROW.out)
        clear hpush hW6
        exact ⟨⟨Z ++ [⟨A3, c3, zs⟩], A7, n6 + m3, c7, by rw [show (Z ++ [(⟨A3, c3, zs⟩ : RowN)]).length = j + 1 by simp [HJ.out]]; go_num, rfl, HPU.out, HBX.out⟩, by simp [intOf]; omega⟩
      · have hzb : (re == 0) = false := by rw [beq_eq_false_iff_ne]; exact hz
        have HZ := Lib.hid hz
        clear hz
        go_wp2_with (first
          | (go_at_call 49; refine (HFR.out _ MWb.out).mono ?_; intro e w5 h5; have H5 : Hid (e = .returned (.tuple #[.slice none 0 0, .int .i64 re]) ∧ Mods Nil w w5) := Lib.hid ⟨by have := h5.1 (by rw [HRE.out]; exact HZ.out); rw [HRE.out] at this; exact this, HC.out.m.trans (MWb.out.trans h5.2.2)⟩; clear h5; obtain ⟨rfl, m5⟩ := H5.out; have M5 := Lib.hid m5; clear m5 H5))
        go_ret
        have hcf := cutF_bad (s := s) (l := l) (j := j) (by rw [HN.out]; exact hlt) (by rw [← HJ.out]; exact HC.out.ok) (by rw [HLQ.out, HRE.out]; exact HZ.out)
        rw [HLQ.out, HRE.out] at hcf
        rw [hcf]
        exact ⟨rfl, f, HH.out.nil M5.out, FA.next.refl _ _, M5.out.mono (fun _ _ h => h.elim)⟩
    · obtain rfl : n = j := by omega
      have hall := HC.out.all
      obtain ⟨A9, c9, e9, hn9, hsl, -⟩ := own_slice hall
      injection e9 with e1 e2 e3
      subst e1; subst e3
      obtain ⟨h0, htot⟩ := HC.out.total HG.out HB.out HN.out HJ.out
      have hsum := sum_any wr (n := n6) (c := c6) (A := A6) (xs := s.n :: flatZ Z) e2.symm (by have := HC.out.few; have := HC.out.le; rw [e2]; simp; omega) HC.out.bd hsl
      have H0 := Lib.hid h0
      have HTOT := Lib.hid htot
      have hse : sumE (s.n :: flatZ Z) = if (putRows s l).n < 18446744073709551616 then 0 else 37 := by unfold sumE; rw [htot]
      have HSUM := Lib.hid hsum
      rw [hse] at HSUM
      generalize (sumV (s.n :: flatZ Z) : Int) = sv at HSUM
      clear hall hn9 hsl h0 htot hsum hse e2
      by_cases hf : (putRows s l).n < 18446744073709551616
      · rw [if_pos hf] at HSUM
        have hcf := cutF_ok H0.out hf
        have HCF := Lib.hid hcf
        have HF := Lib.hid hf
        obtain ⟨wo, hwo⟩ : ∃ x, x = wr := ⟨_, rfl⟩
        subst hwo
        clear hcf hf
        go_wp2_with (first
          | (go_at_call 50; refine HSUM.out.mono ?_; rintro e w5 ⟨rfl, m5⟩; have N5 := Lib.hid m5; have M5 := Lib.hid (HC.out.m.trans m5); have B5 := Lib.hid (BX.out.mods m5 (fun h => h)); have d6 := (cv_seven B5.out).2.2.2.2.2.2; clear m5))
        have NW5 := Lib.hid (own_mods HC.out.news N5.out (fun _ _ h => h))
        have ST5 := Lib.hid (HH.out.nil M5.out)
        have M5F : Hid (Mods (FS f) w w5) := Lib.hid (M5.out.mono (fun _ _ h => h.elim))
        clear d6
        go_loopw [58] (fun x wr => ∃ (j : Nat) (f' : FA), j ≤ n ∧ x = .int .i64 (j : Int) ∧ StAt wr f' (putRows s (l.take j)) T ∧ FA.next w5 f f' ∧ Mods (FS f) w5 wr) (fun x _ => n - (intOf x).toNat)
        case atStart => exact ⟨0, f, Nat.zero_le _, rfl, ST5.out, FA.next.refl _ _, Mods.refl _ _⟩
        case round =>
          obtain ⟨j, f', hj, rfl, hst, hnx, hm5⟩ := hrel
          have HST := Lib.hid hst
          have HNX := Lib.hid hnx
          have HM5 := Lib.hid hm5
          have HMO := Lib.hid (M5F.out.trans hm5)
          have HNW := Lib.hid (hnx.old M5F.out.size)
          clear hst hnx hm5
          by_cases hlt : j < n
          · have hjI : (j : Int) < (n : Int) := by omega
            have hrw := HR.out wr HMO.out
            obtain ⟨g, off, q, rfl, hgl, hq, hc0, hc1, hs, hx, -⟩ := Rws.at_ hrw hlt
            rw [← Nat.add_assoc] at hc1
            have hqm : q ∈ L := List.mem_of_getElem? hq
            obtain ⟨hbd, hin⟩ := hrw.rowbd q hqm
            have hjl : j < l.length := by rw [HN.out]; exact hlt
            have hlq : l[j]'hjl = q.pw := by
              have e1 : l[j]? = some q.pw := by rw [HPW.out]; simp [pws, hq]
              exact (List.getElem?_eq_some_iff.1 e1).2
            have h4 := (rowsB_cut HB.out _ (List.getElem_mem hjl)).2.1
            obtain ⟨qs, hra⟩ := rowAt HG.out.L' HB.out H0.out hjl
            rw [hlq] at h4 hra
            have hq4 : q.lens.length ≤ 4 := h4
            have hjz : j < Z.length := by rw [HJ.out]; exact hlt
            obtain ⟨z1, z2, z3⟩ := HC.out.z j hjz hjl
            rw [hlq, lensO_some hra.sh0] at z3
            have z5 := own_rebase (own_mods (own_mods z1 N5.out (fun _ _ h => h)) HM5.out (fun k hk => ST5.out.own_off (own_mods z1 N5.out (fun _ _ h => h)) (by decide) (by decide) k hk)) (Nat.zero_le _)
            have hnew := own_mods NW5.out HM5.out (fun k hk => ST5.out.own_off NW5.out (by decide) (by decide) k hk)
            obtain ⟨cz, fz⟩ := own_at_lit hnew (j := j) (u := Z[j].val) (by rw [List.getElem?_append_left (by simp; omega)]; simp [hjz])
            obtain ⟨zr, hzr⟩ : ∃ zr, Z[j] = zr := ⟨_, rfl⟩
            rw [hzr] at z1 z2 z3 z5 cz
            unfold RowN.val at z5 cz
            obtain ⟨zn, hzn⟩ : ∃ zn, zr.xs.length = zn := ⟨_, rfl⟩
            rw [hzn] at z5 cz
            have hL8 := putRows_length (j := 0) s (l := l.take j) (fun r hr => (rowsB_cut HB.out r (List.mem_of_mem_take hr)).2.1)
            have hL9 : (putRows s (l.take j)).L.length ≤ 900000 := by
              have := HLL.out
              rw [List.length_take] at hL8
              omega
            have HTK : Hid (∀ V, Mods Nil wr V → Calls Try.prog 51 #[.pointer (some ⟨f.b, 0, none⟩), .agg #[.int .i64 q.shard, .slice q.A q.lens.length q.cap], .slice zr.A zn zr.c] V fun e w' => e = .returned (.tuple #[]) ∧ ∃ f2, StAt w' f2 (putRows s (l.take (j + 1))) T ∧ FA.next w5 f f2 ∧ Mods (FS f) w5 w') := Lib.hid (fun V hV => by
              have := ftake_any (HST.out.nil hV) hra.good q.pw hin hra.sh hra.le hra.cut (Nat.lt_of_le_of_lt hra.n HF.out) (A := q.A) (c := q.cap) (n := q.lens.length) rfl (by omega)
                (fun V' hV' => (HR.out V' (mods_next HMO.out HNW.out ((hV.mono (fun _ _ h => h.elim)).trans hV'))).row_sl hlt hq) hzn (own_mods z5 hV (fun _ _ h => h)) z2 z3 hL9 hT
              rw [HNX.out.1] at this
              refine this.mono fun e w' ⟨h1, f2, h2, h3, h5⟩ => ⟨h1, f2, ?_, ?_, ?_⟩
              · rw [hra.next]; exact h2
              · exact HNX.out.trans h3 (by have := HM5.out.size; have := hV.size; omega)
              · exact mods_next HM5.out HNX.out ((hV.mono (fun _ _ h => h.elim)).trans h5))
            obtain ⟨m, hm⟩ : ∃ m, q.lens.length = m := ⟨_, rfl⟩
            rw [hm] at hc1 HTK
            obtain ⟨sh, hsh⟩ : ∃ sh, q.shard = sh := ⟨_, rfl⟩
            rw [hsh] at hc0 HTK
            obtain ⟨Wb, hWb⟩ : ∃ W, wr.alloc (.cells #[.int .i64 sh, .slice q.A m q.cap] 52) = W := ⟨_, rfl⟩
            have MWb : Hid (Mods Nil wr Wb) := by rw [← hWb]; exact Lib.hid ((Mods.refl Nil wr).alloc _)
            have yb : Blk Wb wr.heap.size 52 #[.int .i64 sh, .slice q.A m q.cap] := by rw [← hWb]; exact Blk.new wr _ _
            have y0 : ∀ V, Mods Nil Wb V → V.cell? ⟨wr.heap.size, 0, none⟩ = some (.int .i64 sh) := fun V hV => (yb.mods hV (fun h => h)).cell 0
            have y1 : ∀ V, Mods Nil Wb V → V.cell? ⟨wr.heap.size, 1, none⟩ = some (.slice q.A m q.cap) := fun V hV => (yb.mods hV (fun h => h)).cell 1
            have y2 : ∀ V, Mods Nil Wb V → V.cell? ⟨W0.heap.size, j, none⟩ = some (.slice zr.A zn zr.c) := fun V hV => (own_at_lit (own_mods hnew (MWb.out.trans hV) (fun _ _ h => h)) (j := j) (u := .slice zr.A zn zr.c) (by rw [List.getElem?_append_left (by simp; omega)]; simp [hjz, hzr, RowN.val, hzn])).1
            clear hrw hq hs hx hqm hbd hin hlq h4 hm hsh hgl yb hra z1 z2 z3 z5 hnew cz fz hzr hzn hL8 hL9 hq4 hjl hjz
            go_wp2_with fail
            refine qt_region 7 (by kernel_rfl) rfl ?_
            refine qt_quiet (fun V => Mods Nil Wb V) 0 6 1 (by kernel_rfl) ((Mods.refl Nil Wb).drew) ?_
            simp only [List.drop_zero, List.take_succ_cons, List.take_zero]
            repeat (first
              | go_big_quiet_skip
              | (go_big_quiet_want; first
                  | (refine gq_op (v := ?_) ?_ ?_; rotate_left; (focus (intro V hV; go_simp; try with_reducible rfl)); go_big_quiet_on))
                simp only [Act.put, List.setIfInBounds_toArray, List.set_cons_zero, List.set_cons_succ])
            refine wpQuiet_nil ?_
            intro V hV
            refine qt_call 6 0 (by kernel_rfl) _ rfl rfl 51 #[.pointer (some ⟨f.b, 0, none⟩), .agg #[.int .i64 sh, .slice q.A m q.cap], .slice zr.A zn zr.c] ?_ ((HTK.out V (MWb.out.trans hV)).mono ?_)
            · go_simp
            rintro e w7 ⟨rfl, f2, g1, g2, g3⟩
            have G1 := Lib.hid g1
            have G2 := Lib.hid g2
            have G3 := Lib.hid g3
            clear g1 g2 g3 hV y0 y1 y2
            refine ⟨_, rfl, ?_⟩
            refine wpAny_done (by kernel_rfl) ?_ _
            simp only [List.getElem_toArray, List.getElem_cons_succ, List.getElem_cons_zero, Act.put, List.setIfInBounds_toArray, List.set_cons_zero, List.set_cons_succ]
            go_wp2_with fail
            exact ⟨⟨j + 1, f2, by omega, by go_num, G1.out, G2.out, G3.out⟩, by simp [intOf]; omega⟩
          · obtain rfl : n = j := by omega
            have hfull : l.take n = l := List.take_of_length_le (by rw [HN.out]; exact Nat.le_refl _)
            rw [hfull] at HST
            go_wp2_with fail
            go_ret
            rw [HCF.out]
            exact ⟨rfl, f', HST.out, HNW.out, HMO.out⟩
      · rw [if_neg hf] at HSUM
        have hcf := cutF_worn H0.out hf
        have HCF := Lib.hid hcf
        clear hcf
        go_wp2_with (first
          | (go_at_call 50; refine HSUM.out.mono ?_; rintro e w5 ⟨rfl, m5⟩; have M5 := Lib.hid (HC.out.m.trans m5); clear m5))
        go_ret
        rw [HCF.out]
        exact ⟨rfl, f, HH.out.nil M5.out, FA.next.refl _ _, M5.out.mono (fun _ _ h => h.elim)⟩
end Go.Proofs.Ytkodmgnagfolpaa
end
