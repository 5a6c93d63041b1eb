/- Package net: what is lost with a node: the row sifted (slices.DeleteFunc), Clear. -/
import Derived.Test.YtglaenoaeiendaaNet6
namespace Go.Proofs.Ytglaenoaeiendaa
set_option maxRecDepth 100000
open Go.RowKit
set_option linter.unusedVariables false

theorem pslice_to {g n cap k : Nat} (hk : k ≤ cap) : ∀ W : World, (Instr.slice 44 (.slice (some ⟨g, 0, none⟩) n cap) none (some (.int .i64 (k : Int))) none).run Try.prog W = .ok (.slice (some ⟨g, 0, none⟩) k cap) W := by
  intro W
  rw [run_slice_h (P := Try.prog) W _ _ n cap (by exact Try.underlying44) .i64 (k : Int) (by omega) (by omega), sizePacket]
  simp only [Result.andThen, sliced]
  rw [show (k : Int).toNat = k by omega]
  simp [Addr.add_lit]
theorem pslice_from {g n cap k : Nat} (hk : k ≤ n) : ∃ AA : Addr, (k < n → n ≤ cap → AA = ⟨g, k * 3, none⟩) ∧ ∀ W : World, (Instr.slice 44 (.slice (some ⟨g, 0, none⟩) n cap) (some (.int .i64 (k : Int))) none none).run Try.prog W = .ok (.slice (some AA) (n - k) (cap - k)) W := by
  refine ⟨if cap = k then (⟨g, 0, none⟩ : Addr) else ⟨g, k * 3, none⟩, fun h1 h2 => by rw [if_neg (by omega)], fun W => ?_⟩
  rw [run_slice_l (P := Try.prog) W _ _ n cap (by exact Try.underlying44) .i64 (k : Int) (by omega) (by omega), sizePacket]
  simp only [Result.andThen, sliced]
  rw [show (k : Int).toNat = k by omega]
  by_cases hc : cap = k <;> simp [hc, Addr.add_lit]

/-- The row while it is sifted: j packets have been looked at, a of them stand ahead. -/
structure Sift (w wr : World) (base g n cap : Nat) (k : Int) (l : List Pk) (j a : Nat) (cur : List Pk) : Prop where
  len : cur.length = n
  own : wr.ownsRow base 32 3 (.slice (some ⟨g, 0, none⟩) n cap) n (pks cur)
  front : cur.take a = (l.take j).filter (keepB k)
  rest : cur.drop j = l.drop j
  lt : a < j
  mods : Mods (fun i => i = g) w wr
section
variable {w wr : World} {base g n cap : Nat} {k : Int} {l cur : List Pk} {j a : Nat}
theorem Sift.at_ (h : Sift w wr base g n cap k l j a cur) (hj : j < n) : ∃ q, l[j]? = some q ∧ cur[j]? = some q := by
  have hc : cur[j]? = some (cur[j]'(by rw [h.len]; exact hj)) := List.getElem?_eq_getElem (by rw [h.len]; exact hj)
  refine ⟨_, ?_, hc⟩
  have e1 : (cur.drop j)[0]? = cur[j]? := by simp
  have e2 : (l.drop j)[0]? = l[j]? := by simp
  rw [← e2, ← h.rest, e1]
  exact hc
theorem Sift.miss {w2 : World} (h : Sift w wr base g n cap k l j a cur) {q : Pk} (hq : l[j]? = some q) (hk : keepB k q = false) (hm : Mods Nil wr w2) : Sift w w2 base g n cap k l (j + 1) a cur := by
  have hlt := (List.getElem?_eq_some_iff.1 hq).1
  have hv := (List.getElem?_eq_some_iff.1 hq).2
  refine ⟨h.len, own_mods h.own hm (fun _ _ h => h), ?_, ?_, by have := h.lt; omega, h.mods.trans (hm.mono (fun _ _ h => h.elim))⟩
  · rw [List.take_succ_eq_append_getElem hlt, List.filter_append, hv]
    simp [hk, h.front]
  · rw [← List.drop_drop, ← List.drop_drop, h.rest]
theorem Sift.hit {w2 : World} (h : Sift w wr base g n cap k l j a cur) {q : Pk} (hq : l[j]? = some q) (hk : keepB k q = true) (hj : j < n) (hm : Mods Nil wr w2) :
    Sift w (((w2.setCell ⟨g, a * 3, none⟩ (.int .i64 q.f)).setCell ⟨g, a * 3 + 1, none⟩ (.int .i64 q.t)).setCell ⟨g, a * 3 + 2, none⟩ (.slice q.A q.xs.length q.c)) base g n cap k l (j + 1) (a + 1) (cur.set a q) := by
  have hlt := (List.getElem?_eq_some_iff.1 hq).1
  have hv := (List.getElem?_eq_some_iff.1 hq).2
  have haj := h.lt
  have han : a < cur.length := by rw [h.len]; omega
  have o2 := own_mods h.own hm (fun _ _ h => h)
  have o3 := own_cell_set (own_cell_set (own_cell_set o2 (a * 3) (.int .i64 q.f)) (a * 3 + 1) (.int .i64 q.t)) (a * 3 + 2) (.slice q.A q.xs.length q.c)
  rw [pks_set cur a han q] at o3
  refine ⟨by simpa using h.len, o3, ?_, ?_, by omega, ?_⟩
  · rw [List.take_succ_eq_append_getElem (by simpa using han), List.take_succ_eq_append_getElem hlt, List.filter_append, hv]
    simp [hk, h.front, List.take_set_of_le]
  · rw [List.drop_set_of_lt (by omega), ← List.drop_drop, ← List.drop_drop, h.rest]
  · refine (h.mods.trans (hm.mono (fun _ _ h => h.elim))).trans ?_
    exact Mods.setCell (S := fun i => i = g) (Mods.setCell (S := fun i => i = g) (Mods.setCell (S := fun i => i = g) (Mods.refl _ _) (fun _ => rfl) _) (fun _ => rfl) _) (fun _ => rfl) _
theorem Sift.cells (h : Sift w wr base g n cap k l j a cur) {w2 : World} (hm : Mods Nil wr w2) {i : Nat} {q : Pk} (hq : cur[i]? = some q) :
    w2.cell? ⟨g, i * 3, none⟩ = some (.int .i64 q.f) ∧ w2.cell? ⟨g, i * 3 + 1, none⟩ = some (.int .i64 q.t) ∧ w2.cell? ⟨g, i * 3 + 2, none⟩ = some (.slice q.A q.xs.length q.c) ∧ ∀ o, w2.frozen? ⟨g, o, none⟩ = false := by
  have hlt := (List.getElem?_eq_some_iff.1 hq).1
  have hv := (List.getElem?_eq_some_iff.1 hq).2
  obtain ⟨g', cap', c', hV, -, -, -, -, -, -, -, hc, hf⟩ := own_place (own_mods h.own hm (fun _ _ h => h)) (by have := h.len; omega)
  injection hV with e1 e2 e3
  injection e1 with e1
  injection e1 with e1
  subst e1
  obtain ⟨p0, p1, p2⟩ := pks_at cur i hlt
  rw [hv] at p0 p1 p2
  exact ⟨hc _ _ p0, hc _ _ p1, hc _ _ p2, hf⟩
end

/-- What a sifting leaves. -/
def Sifted (w : World) (base g cap a : Nat) (l : List Pk) (e : Ending) (w' : World) : Prop :=
  e = .returned (.slice (some ⟨g, 0, none⟩) a cap) ∧ w'.ownsRow base 32 3 (.slice (some ⟨g, 0, none⟩) a cap) a (pks l) ∧ Mods (fun i => i = g) w w'

theorem ndelf_none {w : World} {bx n c : Nat} {k : Int} {A : Option Addr} {l : List Pk} (hc : w.cell? ⟨bx, 0, none⟩ = some (.int .i64 k)) (hr : RowOf w A l) (hn : l.length = n) (h4 : n ≤ 4096) (hk : ∀ p ∈ l, keepB k p = true) :
    Calls Try.prog 19 #[.slice A n c, .func (.func 20) #[] #[.pointer (some ⟨bx, 0, none⟩)]] w fun e w' => e = .returned (.slice A n c) ∧ Mods Nil w w' := by
  have HI := Lib.hid (nindex_none (c := c) hc hr hn h4 hk)
  clear hc hr hn hk
  go_enter Try.func19, Try.ntmps19
  go_wp2_with (go_at_call 24; refine (HI.out).mono ?_; rintro e w1 ⟨rfl, m1⟩; have M1 := Lib.hid m1; clear m1)
  go_ret
  exact ⟨rfl, M1.out⟩

set_option maxHeartbeats 6400000 in
theorem ndelf_at {w : World} {base bx g n cap i : Nat} {k : Int} {l : List Pk} (hc : w.cell? ⟨bx, 0, none⟩ = some (.int .i64 k)) (hbg : bx ≠ g) (hown : w.ownsRow base 32 3 (.slice (some ⟨g, 0, none⟩) n cap) n (pks l)) (hr : RowOf w (some ⟨g, 0, none⟩) l) (hn : l.length = n) (h4 : n ≤ 4096) (hcap : n ≤ cap)
    (hi : i < n) (hk : ∀ j q, j < i → l[j]? = some q → keepB k q = true) (hki : ∀ q, l[i]? = some q → keepB k q = false) :
    Calls Try.prog 19 #[.slice (some ⟨g, 0, none⟩) n cap, .func (.func 20) #[] #[.pointer (some ⟨bx, 0, none⟩)]] w (Sifted w base g cap (l.filter (keepB k)).length (l.filter (keepB k))) := by
  obtain ⟨i0, hi0, hz0, hz1, hz2⟩ := info_parts infoPacket
  have hx : bx < w.heap.size := World.block_lt_of_cell? w _ hc
  have HI := Lib.hid (nindex_at (c := cap) hc hr hn h4 hi hk hki)
  have hstart : ∀ w1, Mods Nil w w1 → Sift w w1 base g n cap k l (i + 1) i l := fun w1 m1 => by
    refine ⟨hn, own_mods hown m1 (fun _ _ h => h), ?_, rfl, by omega, m1.mono (fun _ _ h => h.elim)⟩
    have hil : i < l.length := by omega
    rw [List.take_succ_eq_append_getElem hil, List.filter_append]
    have h1 : (l.take i).filter (keepB k) = l.take i := by
      rw [List.filter_eq_self]
      intro q hq
      obtain ⟨j, hj, rfl⟩ := List.getElem_of_mem hq
      have hj' : j < i := by simp at hj; omega
      refine hk j _ hj' ?_
      rw [List.getElem_take]
      exact List.getElem?_eq_getElem (by omega)
    have h2 := hki _ (List.getElem?_eq_getElem hil)
    simp [h1, h2]
  have HST := Lib.hid hstart
  have HC := Lib.hid hc
  have HN := Lib.hid hn
  have hine : ((i : Int) == -1) = false := by rw [beq_eq_false_iff_ne]; omega
  have hi4 : (i : Int) ≤ 4096 := by omega
  clear hc hown hr hn hk hki hstart
  go_enter Try.func19, Try.ntmps19
  go_wp2_with (go_at_call 24; refine (HI.out).mono ?_; rintro e w1 ⟨rfl, m1⟩; have S1 := Lib.hid (HST.out _ m1); clear m1)
  go_loopw [5, 6] (fun x y wr => ∃ (j a : Nat) (cur : List Pk), j ≤ n ∧ a < j ∧ x = .int .i64 a ∧ y = .int .i64 j ∧ Sift w wr base g n cap k l j a cur) (fun _ y _ => n - (intOf y).toNat)
  case atStart => exact ⟨i + 1, i, l, by omega, by omega, rfl, by go_num, S1.out⟩
  case round =>
    obtain ⟨j, a, cur, hj, haj, rfl, rfl, hs⟩ := hrel
    clear S1 HST HI
    by_cases hlt : j < n
    · have hjI : (j : Int) < (n : Int) := by omega
      have haI : (a : Int) < (n : Int) := by omega
      have hn4 : (n : Int) ≤ 4096 := by omega
      obtain ⟨q, hq, hcq⟩ := hs.at_ hlt
      obtain ⟨e0, e1, e2, -⟩ := hs.cells (Mods.refl Nil wr) hcq
      have hcw : (wr.alloc (.cells #[.int .i64 q.f, .int .i64 q.t, .slice q.A q.xs.length q.c] 32)).cell? ⟨bx, 0, none⟩ = some (.int .i64 k) := (World.cell?_of_block ((hs.mods.alloc (.cells #[.int .i64 q.f, .int .i64 q.t, .slice q.A q.xs.length q.c] 32)).block bx hx hbg)).trans HC.out
      have hxw : bx < (wr.alloc (.cells #[.int .i64 q.f, .int .i64 q.t, .slice q.A q.xs.length q.c] 32)).heap.size := by have := hs.mods.size; simp; omega
      have mA : Mods Nil wr (wr.alloc (.cells #[.int .i64 q.f, .int .i64 q.t, .slice q.A q.xs.length q.c] 32)) := (Mods.refl _ _).alloc _
      have mB : Mods Nil wr ((wr.alloc (.cells #[.int .i64 q.f, .int .i64 q.t, .slice q.A q.xs.length q.c] 32)).alloc (.cells #[.int .i64 q.f, .int .i64 q.t, .slice q.A q.xs.length q.c] 32)) := mA.alloc _
      obtain ⟨d0, d1, d2, -, -, -⟩ := (Blk.new wr 32 #[.int .i64 q.f, .int .i64 q.t, .slice q.A q.xs.length q.c]).three
      cases hkq : keepB k q with
      | false =>
        have HM := Lib.hid (hs.miss hq hkq mB)
        have HCL := Lib.hid (clear1_yes (A := q.A) (m := q.xs.length) (c := q.c) hcw hxw (keepB_no.1 hkq))
        clear hs hq hcq hcw hxw mA mB hkq
        go_wp2_with (go_at_call 20; refine (HCL.out).mono ?_; rintro e w1 ⟨rfl, rfl⟩)
        exact ⟨⟨j + 1, a, cur, by omega, by omega, rfl, by go_num, HM.out⟩, by simp [intOf]; omega⟩
      | true =>
        have HM := Lib.hid (hs.hit hq hkq hlt mB)
        have HCL := Lib.hid (clear1_no (A := q.A) (m := q.xs.length) (c := q.c) hcw hxw (keepB_yes.1 hkq).1 (keepB_yes.1 hkq).2)
        have hac : a < cur.length := by rw [hs.len]; omega
        obtain ⟨k0, k1, k2, kf⟩ := hs.cells mB (List.getElem?_eq_getElem hac)
        obtain ⟨d3, d4, d5, -, -, -⟩ := ((Blk.new wr 32 #[.int .i64 q.f, .int .i64 q.t, .slice q.A q.xs.length q.c]).alloc (.cells #[.int .i64 q.f, .int .i64 q.t, .slice q.A q.xs.length q.c] 32)).three
        have kf0 := kf (a * 3)
        have kf1 := kf (a * 3 + 1)
        have kf2 := kf (a * 3 + 2)
        clear hs hq hcq hcw hxw mA mB hkq kf
        go_wp2_with (go_at_call 20; refine (HCL.out).mono ?_; rintro e w1 ⟨rfl, rfl⟩)
        exact ⟨⟨j + 1, a + 1, cur.set a q, by omega, by omega, by go_num, by go_num, HM.out⟩, by simp [intOf]; omega⟩
    · obtain rfl : n = j := by omega
      have hfr := hs.front
      rw [List.take_of_length_le (show l.length ≤ n by rw [HN.out]; exact Nat.le_refl _)] at hfr
      have hal : (l.filter (keepB k)).length = a := by rw [← hfr]; simp; have := hs.len; omega
      have HE : Hid (∀ w5 : World, w5.ownsRow base 32 3 (.slice (some ⟨g, 0, none⟩) a cap) a (pks (cur.take a)) → Mods (fun i => i = g) w w5 → Sifted w base g cap (l.filter (keepB k)).length (l.filter (keepB k)) (.returned (.slice (some ⟨g, 0, none⟩) a cap)) w5) := fun w5 h1 h2 => by rw [hal, ← hfr]; exact ⟨rfl, h1, h2⟩
      have hfront := own_front hs.own (k := a) (by omega)
      rw [pks_take] at hfront
      obtain ⟨AA, hAA, qa⟩ := pslice_from (g := g) (n := n) (cap := cap) (k := a) (by omega)
      have qb := pslice_to (g := g) (n := n) (cap := cap) (k := a) (by omega)
      have HF := Lib.hid hfront
      have HM := Lib.hid hs.mods
      have hfit : a * 3 + (n - a) * 3 ≤ cap * 3 := by omega
      have HAA := Lib.hid (hAA haj hcap)
      clear hs hfr hal hfront hAA
      go_wp2_with (refine wpList_clear_rows rfl _ 44 rfl base a 3 g cap 32 i0 (.agg #[.int .i64 0, .int .i64 0, .slice none 0 0]) _ HF.out Try.underlying44 hi0 hz0 rfl (by simp [Value.cells, Value.oneCell']) (some AA) (n - a) (cap - a) (a * 3) rfl (fun _ => ⟨congrArg some HAA.out, Nat.le_refl _, hfit⟩) ?_; intro w5 hown m5; have O5 := Lib.hid hown; have M5 := Lib.hid (HM.out.trans m5); clear hown m5)
      go_ret
      exact HE.out _ O5.out M5.out

theorem keep_cases (k : Int) : ∀ l : List Pk, (∀ p ∈ l, keepB k p = true) ∨ ∃ i, i < l.length ∧ (∀ j q, j < i → l[j]? = some q → keepB k q = true) ∧ ∀ q, l[i]? = some q → keepB k q = false
  | [] => .inl (fun p h => by cases h)
  | p :: l => by
    cases hp : keepB k p with
    | false => exact .inr ⟨0, by simp, fun j q hj => by omega, fun q hq => by simp at hq; rw [← hq]; exact hp⟩
    | true =>
      rcases keep_cases k l with h | ⟨i, h1, h2, h3⟩
      · exact .inl (fun q hq => by rcases List.mem_cons.1 hq with rfl | hq; exact hp; exact h q hq)
      · refine .inr ⟨i + 1, by simpa using h1, fun j q hj hq => ?_, fun q hq => h3 q (by simpa using hq)⟩
        cases j with
        | zero => simp at hq; rw [← hq]; exact hp
        | succ j => exact h2 j q (by omega) (by simpa using hq)

/-- What Clear leaves. -/
def Cleared (w : World) (base nb nodes : Nat) (v : Value) (l : List Pk) (k : Int) (e : Ending) (w' : World) : Prop :=
  e = .returned (.int .i64 ((l.length : Int) - ((l.filter (keepB k)).length : Int))) ∧ ∃ v', NetAt w' base nb nodes v' (l.filter (keepB k)) ∧ Mods (NS nb v) w w' ∧ (∀ k, v'.ownBlock = some k → v.ownBlock = some k ∨ w.heap.size ≤ k)

set_option maxHeartbeats 3200000 in
theorem nclear_any {w : World} {base nb nodes : Nat} {v : Value} {l : List Pk} (h : NetAt w base nb nodes v l) (hl : l.length ≤ 4096) (k : Int) :
    Calls Try.prog 13 #[.pointer (some ⟨nb, 0, none⟩), .int .i64 k] w (Cleared w base nb nodes v l k) := by
  have hnb := h.blk.lt
  have mA : Mods Nil w (w.alloc (.cells #[.int .i64 k] 3)) := (Mods.refl _ _).alloc _
  have hA := h.nil mA
  have hbx : (w.alloc (.cells #[.int .i64 k] 3)).cell? ⟨w.heap.size, 0, none⟩ = some (.int .i64 k) := by simp
  obtain ⟨A, cap, rfl, hlc, hcm, hpl⟩ := h.place
  obtain ⟨n, hn⟩ : ∃ n, l.length = n := ⟨_, rfl⟩
  have c1 := hA.cells.2.1
  have f1 := hA.cells.2.2.2
  have hr : RowOf (w.alloc (.cells #[.int .i64 k] 3)) A l := fun h0 => by
    obtain ⟨g, rfl, hgl, -, hc, -⟩ := hpl h0
    exact ⟨g, rfl, by simp; omega, fun j u hu => (World.cell?_of_block (mA.block g hgl (fun h => h))).trans (hc j u hu)⟩
  have hb1 : base ≤ w.heap.size := by have := h.le; omega
  have hnI : (n : Int) ≤ 4096 := by omega
  have hne : nb ≠ w.heap.size := by omega
  rcases keep_cases k l with hall | ⟨i, hi, h1, h2⟩
  · have hfl : l.filter (keepB k) = l := List.filter_eq_self.2 hall
    have hD := ndelf_none (c := cap) hbx hr hn (by omega) hall
    rw [hn] at c1
    have HFIN : Hid (∀ w2, Mods Nil (w.alloc (.cells #[.int .i64 k] 3)) w2 → Cleared w base nb nodes (.slice A n cap) l k (.returned (.int .i64 0)) (w2.setCell ⟨nb, 1, none⟩ (.slice A n cap))) := fun w2 m2 => by
      have h2 := hA.nil m2
      have m3 : Mods (NS nb (.slice A n cap)) w2 (w2.setCell ⟨nb, 1, none⟩ (.slice A n cap)) := (Mods.refl _ _).setCell (fun _ => .inl rfl) _
      rw [hn] at h2
      refine ⟨by rw [hfl]; congr 2; omega, .slice A n cap, ?_, ((mA.trans m2).mono (fun _ _ h => h.elim)).trans m3, fun k hk => .inl hk⟩
      rw [hfl]
      refine ⟨?_, ?_, fun p hp => h2.ok_ns (h2.oks p hp) m3, h2.le⟩
      · have := h2.blk.set_ 1 (.slice A n cap)
        simpa using this
      · exact own_mods h2.own (Mods.setCell (S := fun k => k = nb) (p := ⟨nb, 1, none⟩) (Mods.refl _ w2) (fun _ => rfl) _) (fun k hk e => h2.ne (by rw [hk, e]))
    have HD := Lib.hid hD
    have HA := Lib.hid hA
    have HN := Lib.hid hn
    clear h hA mA hbx hpl hr hall hfl hD hn hl hlc
    rw [HN.out]
    go_enter Try.func13, Try.ntmps13
    go_wp2_with (go_at_call 19; refine (HD.out).mono ?_; rintro e w2 ⟨rfl, m2⟩; have d2 := (HA.out.nil m2).cells.2.1; have d3 := (HA.out.nil m2).cells.2.2.2; rw [HN.out] at d2; have d4 := (((HA.out.nil m2).blk.set_ 1 (.slice A n cap)).cell 1); simp at d4; have F2 := Lib.hid (HFIN.out _ m2); clear m2)
    go_ret
    exact F2.out
  · obtain ⟨g, rfl, hgl, hgn, -, -⟩ := hpl (by omega)
    have hown := hA.own
    obtain ⟨a, ha⟩ : ∃ a, (l.filter (keepB k)).length = a := ⟨_, rfl⟩
    have han : a ≤ n := by rw [← ha, ← hn]; exact List.length_filter_le _ _
    rw [hn] at hown c1
    have hD := ndelf_at hbx (by omega) hown hr hn (by omega) (by omega) (by omega) h1 h2
    rw [ha] at hD
    have HFIN : Hid (∀ w2, w2.ownsRow base 32 3 (.slice (some ⟨g, 0, none⟩) a cap) a (pks (l.filter (keepB k))) → Mods (fun i => i = g) (w.alloc (.cells #[.int .i64 k] 3)) w2 → Cleared w base nb nodes (.slice (some ⟨g, 0, none⟩) n cap) l k (.returned (.int .i64 ((n : Int) - (a : Int)))) (w2.setCell ⟨nb, 1, none⟩ (.slice (some ⟨g, 0, none⟩) a cap))) := fun w2 o2 m2 => by
      have m2' : Mods (NS nb (.slice (some ⟨g, 0, none⟩) n cap)) (w.alloc (.cells #[.int .i64 k] 3)) w2 := m2.mono (fun i _ h => by rw [h]; exact .inr rfl)
      have mN : Mods (fun k => k = nb) w2 (w2.setCell ⟨nb, 1, none⟩ (.slice (some ⟨g, 0, none⟩) a cap)) := Mods.setCell (S := fun k => k = nb) (Mods.refl _ _) (fun _ => rfl) _
      have m3 := m2'.trans (mN.mono (fun i _ h => .inl h))
      refine ⟨by rw [ha, hn], .slice (some ⟨g, 0, none⟩) a cap, ⟨?_, ?_, fun p hp => ?_, h.le⟩, (mA.mono (fun _ _ h => h.elim)).trans m3, fun k hk => .inl hk⟩
      · have := (hA.blk.mods m2 (fun e => hgn e.symm)).set_ 1 (.slice (some ⟨g, 0, none⟩) a cap)
        simpa using this
      · rw [ha]
        exact own_mods o2 mN (fun k hk e => hgn (by simp [Value.ownBlock] at hk; omega))
      · rw [← hn] at m3
        exact hA.ok_ns (hA.oks p (List.mem_filter.1 hp).1) m3
    have HBL := Lib.hid hA.blk
    have HD := Lib.hid hD
    have HN := Lib.hid hn
    have hanI : (a : Int) ≤ (n : Int) := by omega
    clear h hA mA hbx hpl hr hD hn hl hlc hown h1 h2 hi ha
    rw [HN.out]
    go_enter Try.func13, Try.ntmps13
    go_wp2_with (go_at_call 19; refine (HD.out).mono ?_; rintro e w2 ⟨rfl, o2, m2⟩; have b2 := HBL.out.mods m2 (fun e => hgn e.symm); have d2 := b2.two.2.1; have d3 := b2.two.2.2.2; have d4 := ((b2.set_ 1 (.slice (some ⟨g, 0, none⟩) a cap)).cell 1); simp at d4; have F2 := Lib.hid (HFIN.out _ o2 m2); clear o2 m2 b2)
    go_ret
    exact F2.out
end Go.Proofs.Ytglaenoaeiendaa
