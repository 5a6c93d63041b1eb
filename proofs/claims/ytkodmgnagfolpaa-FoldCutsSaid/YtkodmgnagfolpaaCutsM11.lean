/- FoldCuts' walk: what lies in memory within a round, and what each operation makes of it. -/
import Derived.Test.YtkodmgnagfolpaaLaw11M
import Derived.Test.YtkodmgnagfolpaaCuts11
namespace Go.Proofs.Ytkodmgnagfolpaa
set_option maxRecDepth 1000000
open Go.RowKit
set_option linter.unusedVariables false
set_option linter.unusedSimpArgs false

/-- A row of structs of the call's own, one more. -/
theorem OwnR.push3 {t : TypeId} {B : Nat} {W W1 W2 : World} {v v' : Value} {L : List RowP} {q : RowP} (h : OwnR t B W v L) (hq : Sl W q.A q.cap (nums q.lens)) (hx : ∀ x ∈ q.lens, x < 18446744073709551616) (hs : -9223372036854775808 ≤ q.shard ∧ q.shard ≤ 9223372036854775807)
    (ho : q.off (fun k => v.ownBlock = some k)) (hm : Mods Nil W W1) (hown : W2.ownsRow B t 2 v' (L.length + 1) (rcs L ++ [.int .i64 q.shard, .slice q.A q.lens.length q.cap])) (hg : W1.grownBy W2 v.ownBlock) (hv : ∀ b, v'.ownBlock = some b → v.ownBlock = some b ∨ W1.heap.size ≤ b) : OwnR t B W2 v' (L ++ [q]) := by
  have hg2 : Mods (fun k => v.ownBlock = some k) W W2 := (hm.mono (fun _ _ h => h.elim)).grown hg (fun k hk _ => hk)
  have hall : ∀ r ∈ L ++ [q], Sl W r.A r.cap (nums r.lens) ∧ r.off (fun k => v.ownBlock = some k) := fun r hr => by
    rcases List.mem_append.1 hr with hr | hr
    · exact ⟨h.lens r hr, h.off r hr⟩
    · rw [List.mem_singleton.1 hr]; exact ⟨hq, ho⟩
  refine ⟨?_, ?_, ?_, ?_, ?_⟩
  · rw [rcs_append, List.length_append]; exact hown
  · intro r hr; exact (hall r hr).1.mods' hg2 (fun hne a ha => (hall r hr).2 hne a ha)
  · intro r hr
    rcases List.mem_append.1 hr with hr | hr
    · exact h.lt r hr
    · rw [List.mem_singleton.1 hr]; exact hx
  · intro r hr
    rcases List.mem_append.1 hr with hr | hr
    · exact h.sh r hr
    · rw [List.mem_singleton.1 hr]; exact hs
  · intro r hr hne a ha hk
    have h1 := (hall r hr).2 hne a ha
    have h2 := (hall r hr).1.old hne a ha
    rcases hv _ hk with hv | hv
    · exact h1 hv
    · have := hm.size
      omega
structure C3 (w9 W : World) (gl : Nat) (u d : Nat → Nat) (P tz tw h : Nat) (zs : List Nat) (A3 : Option Addr) (c3 : Nat) (L : List RowP) (A4 : Option Addr) (m4 c4 : Nat) : Prop where
  glt : gl < w9.heap.size
  m : Mods (fun q => q = gl) w9 W
  lens : W.ownsRow 0 27 1 (.slice (some ⟨gl, 0, none⟩) 8 8) 8 (nums zs)
  zl : zs.length = 8
  zv : ∀ i, i < 8 → vat zs i = if i < tz then u i + d i else u i
  want : W.ownsRow w9.heap.size 47 5 (.slice A4 m4 c4) m4 (rowP (wantL u d P tw))
  wl : (wantL u d P tw).length = m4
  rows : OwnR 52 w9.heap.size W (.slice A3 h c3) L
  rl : L.length = h
  rok : ∀ i q, L[i]? = some q → q.shard = ((3 * i : Nat) : Int) ∧ isCut q.lens ∧ four (fun i => u i + d i) i q.lens
  rb : ∀ q ∈ L, nums q.lens ≠ [] → ∀ a, q.A = some a → w9.heap.size ≤ a.block ∧ ∃ cs, Blk W a.block 27 cs
section
variable {S : Nat → Prop} {w9 W W' W2 : World} {gl gw : Nat} {u d : Nat → Nat} {P tz tw h g : Nat} {zs rl : List Nat} {A3 A4 A5 : Option Addr} {c3 c4 c5 m4 : Nat} {L : List RowP}
theorem C3.mods (k : C3 w9 W gl u d P tz tw h zs A3 c3 L A4 m4 c4) (hm : Mods S W W') (h0 : ∀ q, S q → w9.heap.size ≤ q) (h1 : ∀ q, (Value.slice A4 m4 c4).ownBlock = some q → ¬ S q) (h2 : ∀ q, (Value.slice A3 h c3).ownBlock = some q → ¬ S q)
    (h3 : ∀ q ∈ L, nums q.lens ≠ [] → ∀ a, q.A = some a → ¬ S a.block) : C3 w9 W' gl u d P tz tw h zs A3 c3 L A4 m4 c4 :=
  ⟨k.glt, k.m.trans2 hm (fun i hi hs => by have := h0 i hs; omega), own_mods k.lens hm (fun q hq hs => by
    have e : gl = q := by simpa [Value.ownBlock] using hq
    have := h0 q hs; have := k.glt; omega), k.zl, k.zv, own_mods k.want hm h1, k.wl, k.rows.mods hm h2 h3, k.rl, k.rok, fun q hq hne a ha => by
    obtain ⟨e1, cs, e2⟩ := k.rb q hq hne a ha
    exact ⟨e1, cs, e2.mods hm (h3 q hq hne a ha)⟩⟩
theorem C3.nil (k : C3 w9 W gl u d P tz tw h zs A3 c3 L A4 m4 c4) (hm : Mods Nil W W') : C3 w9 W' gl u d P tz tw h zs A3 c3 L A4 m4 c4 :=
  k.mods hm (fun _ h => h.elim) (fun _ _ h => h) (fun _ _ h => h) (fun _ _ _ _ _ h => h)
theorem C3.start (hg : gl < w9.heap.size) (hl : w9.ownsRow 0 27 1 (.slice (some ⟨gl, 0, none⟩) 8 8) 8 (nums zs)) (h8 : zs.length = 8) (hz : ∀ i, i < 8 → vat zs i = u i) : C3 w9 w9 gl u d P 0 0 0 zs none 0 [] none 0 0 :=
  ⟨hg, Mods.refl _ _, hl, h8, fun i hi => by rw [hz i hi, if_neg (by omega)], World.ownsRow_nil _ _ _ _, rfl, OwnR.nil _ _ _, rfl, fun i q h => by simp at h, fun q h => by cases h⟩
/-- With the row that grows. -/
structure C4 (w9 W : World) (gl : Nat) (u d : Nat → Nat) (P tz tw h : Nat) (zs : List Nat) (A3 : Option Addr) (c3 : Nat) (L : List RowP) (A4 : Option Addr) (m4 c4 gw g : Nat) (A5 : Option Addr) (c5 : Nat) (rl : List Nat) : Prop where
  c : C3 w9 W gl u d P tz tw h zs A3 c3 L A4 m4 c4
  box : Blk W gw 52 #[.int .i64 ((3 * h : Nat) : Int), .slice A5 g c5]
  row : W.ownsRow gw 27 1 (.slice A5 g c5) g (nums rl)
  gwn : w9.heap.size ≤ gw
  nb1 : ∀ k, (Value.slice A3 h c3).ownBlock = some k → k < gw
  nb2 : ∀ q ∈ L, nums q.lens ≠ [] → ∀ a, q.A = some a → a.block < gw
theorem C4.mods (k : C4 w9 W gl u d P tz tw h zs A3 c3 L A4 m4 c4 gw g A5 c5 rl) (hm : Mods S W W') (h0 : ∀ q, S q → w9.heap.size ≤ q) (h1 : ∀ q, (Value.slice A4 m4 c4).ownBlock = some q → ¬ S q) (h2 : ∀ q, (Value.slice A3 h c3).ownBlock = some q → ¬ S q)
    (h3 : ∀ q ∈ L, nums q.lens ≠ [] → ∀ a, q.A = some a → ¬ S a.block) (h4 : ¬ S gw) (h5 : ∀ q, (Value.slice A5 g c5).ownBlock = some q → ¬ S q) : C4 w9 W' gl u d P tz tw h zs A3 c3 L A4 m4 c4 gw g A5 c5 rl :=
  ⟨k.c.mods hm h0 h1 h2 h3, k.box.mods hm h4, own_mods k.row hm h5, k.gwn, k.nb1, k.nb2⟩
theorem C4.nil (k : C4 w9 W gl u d P tz tw h zs A3 c3 L A4 m4 c4 gw g A5 c5 rl) (hm : Mods Nil W W') : C4 w9 W' gl u d P tz tw h zs A3 c3 L A4 m4 c4 gw g A5 c5 rl :=
  k.mods hm (fun _ h => h.elim) (fun _ _ h => h) (fun _ _ h => h) (fun _ _ _ _ _ h => h) (fun h => h) (fun _ _ h => h)
theorem C3.box (k : C3 w9 W gl u d P tz tw h zs A3 c3 L A4 m4 c4) : C4 w9 (W.alloc (.cells #[.int .i64 ((3 * h : Nat) : Int), .slice none 0 0] 52)) gl u d P tz tw h zs A3 c3 L A4 m4 c4 W.heap.size 0 none 0 [] :=
  ⟨k.nil ((Mods.refl _ _).alloc _), Blk.new _ _ _, World.ownsRow_nil _ _ _ _, k.m.size, fun q hq => (k.rows.own.lt q hq).2, fun q hq hne a ha => by obtain ⟨_, cs, e⟩ := k.rb q hq hne a ha; exact e.lt⟩
/-- One span more is wanted. -/
theorem C4.more (k : C4 w9 W gl u d P tz tw h zs A3 c3 L A4 m4 c4 gw g A5 c5 rl) (hm : Mods (fun q => (Value.slice A4 m4 c4).ownBlock = some q) W W') {A6 : Option Addr} {c6 : Nat} {p : PP} (ho : W'.ownsRow w9.heap.size 47 5 (.slice A6 (m4 + 1) c6) (m4 + 1) (rowP (wantL u d P tw) ++ cellsP p))
    (hp : wantL u d P (tw + 1) = wantL u d P tw ++ [p]) : C4 w9 W' gl u d P tz (tw + 1) h zs A3 c3 L A6 (m4 + 1) c6 gw g A5 c5 rl := by
  have hd : ∀ q ∈ L, nums q.lens ≠ [] → ∀ a, q.A = some a → ¬ (Value.slice A4 m4 c4).ownBlock = some a.block := fun q hq hne a ha => by
    obtain ⟨_, cs, e⟩ := k.c.rb q hq hne a ha
    exact own_blk_ne k.c.want e (by decide)
  refine ⟨⟨k.c.glt, k.c.m.trans2 hm (fun i hi hs => by have := (k.c.want.lt i hs).1; omega), own_mods k.c.lens hm (fun q hq hs => own_own_ne k.c.lens k.c.want (by decide) hq hs), k.c.zl, k.c.zv, ?_, ?_, k.c.rows.mods hm (fun q hq hs => own_own_ne k.c.rows.own k.c.want (by decide) hq hs) hd, k.c.rl, k.c.rok, fun q hq hne a ha => ?_⟩,
    k.box.mods hm (own_blk_ne k.c.want k.box (by decide)), own_mods k.row hm (fun q hq hs => own_own_ne k.row k.c.want (by decide) hq hs), k.gwn, k.nb1, k.nb2⟩
  · rw [hp, rowP_append]
    simpa [rowP] using ho
  · rw [hp, List.length_append, k.c.wl]; rfl
  · obtain ⟨e1, cs, e2⟩ := k.c.rb q hq hne a ha
    exact ⟨e1, cs, e2.mods hm (hd q hq hne a ha)⟩
theorem C4.same (k : C4 w9 W gl u d P tz tw h zs A3 c3 L A4 m4 c4 gw g A5 c5 rl) (hp : wantL u d P (tw + 1) = wantL u d P tw) : C4 w9 W gl u d P tz (tw + 1) h zs A3 c3 L A4 m4 c4 gw g A5 c5 rl :=
  ⟨⟨k.c.glt, k.c.m, k.c.lens, k.c.zl, k.c.zv, by rw [hp]; exact k.c.want, by rw [hp]; exact k.c.wl, k.c.rows, k.c.rl, k.c.rok, k.c.rb⟩, k.box, k.row, k.gwn, k.nb1, k.nb2⟩
/-- A length is set. -/
theorem C4.set (k : C4 w9 W gl u d P tz tw h zs A3 c3 L A4 m4 c4 gw g A5 c5 rl) (ht : tz < 8) {y : Int} (hy : y = ((u tz + d tz : Nat) : Int)) : C4 w9 (W.setCell ⟨gl, tz, none⟩ (.int .u64 y)) gl u d P (tz + 1) tw h (zs.set tz (u tz + d tz)) A3 c3 L A4 m4 c4 gw g A5 c5 rl := by
  subst hy
  have hm : Mods (fun q => q = gl) W (W.setCell ⟨gl, tz, none⟩ (.int .u64 ((u tz + d tz : Nat) : Int))) := Mods.setCell (S := fun q => q = gl) (Mods.refl _ _) (fun _ => rfl) _
  have hlt := k.c.glt
  have hd : ∀ q ∈ L, nums q.lens ≠ [] → ∀ a, q.A = some a → ¬ a.block = gl := fun q hq hne a ha e => by
    obtain ⟨e1, cs, e2⟩ := k.c.rb q hq hne a ha
    omega
  refine ⟨⟨hlt, k.c.m.trans hm, ?_, by simp [k.c.zl], fun i hi => ?_, own_mods k.c.want hm (fun q hq e => by have := (k.c.want.lt q hq).1; omega), k.c.wl, k.c.rows.mods hm (fun q hq e => by have := (k.c.rows.own.lt q hq).1; omega) hd, k.c.rl, k.c.rok, fun q hq hne a ha => ?_⟩,
    k.box.mods hm (fun e => by have := k.gwn; omega), own_mods k.row hm (fun q hq e => by have := (k.row.lt q hq).1; have := k.gwn; omega), k.gwn, k.nb1, k.nb2⟩
  · have := own_cell_set k.c.lens tz (.int .u64 ((u tz + d tz : Nat) : Int))
    rwa [nums_set] at this
  · rw [vat_set (by rw [k.c.zl]; exact ht), k.c.zv i hi]
    by_cases e : i = tz
    · subst e; rw [if_pos rfl, if_pos (by omega)]
    · rw [if_neg e]
      by_cases h1 : i < tz
      · rw [if_pos h1, if_pos (by omega)]
      · rw [if_neg h1, if_neg (by omega)]
  · obtain ⟨e1, cs, e2⟩ := k.c.rb q hq hne a ha
    exact ⟨e1, cs, e2.mods hm (hd q hq hne a ha)⟩
/-- The row's slice is another one: its cells were laid, and the box is set. -/
theorem C4.lay (k : C4 w9 W gl u d P tz tw h zs A3 c3 L A4 m4 c4 gw g A5 c5 rl) (hm : Mods (fun q => (Value.slice A5 g c5).ownBlock = some q) W W2) {A6 : Option Addr} {g6 c6 : Nat} {rl6 : List Nat} (ho : W2.ownsRow gw 27 1 (.slice A6 g6 c6) g6 (nums rl6)) :
    C4 w9 (W2.setCell ⟨gw, 1, none⟩ (.slice A6 g6 c6)) gl u d P tz tw h zs A3 c3 L A4 m4 c4 gw g6 A6 c6 rl6 := by
  have hd : ∀ q ∈ L, nums q.lens ≠ [] → ∀ a, q.A = some a → ¬ (Value.slice A5 g c5).ownBlock = some a.block := fun q hq hne a ha e => by
    have h1 := k.nb2 q hq hne a ha
    have h2 := (k.row.lt _ e).1
    omega
  have k2 := k.c.mods hm (fun q hq => by have := (k.row.lt q hq).1; have := k.gwn; omega) (fun q hq hs => own_own_ne k.row k.c.want (by decide) hs hq) (fun q hq hs => own_own_ne k.row k.c.rows.own (by decide) hs hq) hd
  have hb2 := k.box.mods hm (own_blk_ne k.row k.box (by decide))
  have hm2 : Mods (fun q => q = gw) W2 (W2.setCell ⟨gw, 1, none⟩ (.slice A6 g6 c6)) := Mods.setCell (S := fun q => q = gw) (Mods.refl _ _) (fun _ => rfl) _
  refine ⟨k2.mods hm2 (fun q e => by have := k.gwn; omega) (fun q hq e => by subst e; exact own_blk_ne k2.want hb2 (by decide) hq) (fun q hq e => by have := k.nb1 q hq; omega) (fun q hq hne a ha e => by have := k.nb2 q hq hne a ha; omega), ?_, own_mods ho hm2 (fun q hq e => by subst e; exact own_blk_ne ho hb2 (by decide) hq), k.gwn, k.nb1, k.nb2⟩
  have := hb2.set_ 1 (.slice A6 g6 c6)
  simpa using this
/-- The row is one of the rows. -/
theorem C4.push (k : C4 w9 W gl u d P tz tw h zs A3 c3 L A4 m4 c4 gw g A5 c5 rl) (hh : h ≤ 2) (hx : ∀ x ∈ rl, x < 18446744073709551616) (hr : isCut rl) (hf : four (fun i => u i + d i) h rl) {W1 : World} (hm : Mods Nil W W1) {A6 : Option Addr} {c6 : Nat}
    (hown : W2.ownsRow w9.heap.size 52 2 (.slice A6 (h + 1) c6) (h + 1) (rcs L ++ [.int .i64 ((3 * h : Nat) : Int), .slice A5 g c5])) (hg : W1.grownBy W2 (Value.slice A3 h c3).ownBlock) (hv : (Value.slice A6 (h + 1) c6).ownBlock = (Value.slice A3 h c3).ownBlock ∨ (Value.slice A6 (h + 1) c6).ownBlock = some W1.heap.size) :
    C3 w9 W2 gl u d P tz tw (h + 1) zs A6 c6 (L ++ [⟨((3 * h : Nat) : Int), A5, c5, rl⟩]) A4 m4 c4 := by
  have hgl : rl.length = g := by obtain ⟨A', c', e, hn, -, -⟩ := own_slice k.row; rw [nums_length] at hn; exact hn.symm
  subst hgl
  have hrl := k.c.rl
  subst hrl
  have hm2 : Mods (fun q => (Value.slice A3 L.length c3).ownBlock = some q) W W2 := (hm.mono (fun _ _ h => h.elim)).grown hg (fun k hk _ => hk)
  have hd : ∀ q ∈ L, nums q.lens ≠ [] → ∀ a, q.A = some a → ¬ (Value.slice A3 L.length c3).ownBlock = some a.block := fun q hq hne a ha => by
    obtain ⟨_, cs, e⟩ := k.c.rb q hq hne a ha
    exact own_blk_ne k.c.rows.own e (by decide)
  have hnb : ∀ a, nums rl ≠ [] → A5 = some a → gw ≤ a.block ∧ ∃ cs, Blk W a.block 27 cs := fun a hne ha => by
    obtain ⟨g, cap, cur, e, h1, -, h2, -⟩ := own_place k.row (by cases rl with | nil => exact absurd rfl hne | cons x r => simp)
    injection e with e1
    rw [e1] at ha
    injection ha with ha
    subst ha
    exact ⟨h1, cur, h2⟩
  refine ⟨k.c.glt, k.c.m.trans2 hm2 (fun i hi hs => by have := (k.c.rows.own.lt i hs).1; omega), own_mods k.c.lens hm2 (fun q hq hs => own_own_ne k.c.lens k.c.rows.own (by decide) hq hs), k.c.zl, k.c.zv, own_mods k.c.want hm2 (fun q hq hs => own_own_ne k.c.want k.c.rows.own (by decide) hq hs), k.c.wl, ?_, by simp, fun i q hq => ?_, fun q hq hne a ha => ?_⟩
  · refine OwnR.push3 (q := ⟨((3 * L.length : Nat) : Int), A5, c5, rl⟩) k.c.rows (own_sl k.row) hx (by show _ ≤ ((3 * L.length : Nat) : Int) ∧ ((3 * L.length : Nat) : Int) ≤ _; omega) (fun hne a ha hk => ?_) hm hown hg (fun b hb => ?_)
    · obtain ⟨_, cs, e⟩ := hnb a hne ha
      exact own_blk_ne k.c.rows.own e (by decide) hk
    · rcases hv with h | h
      · exact .inl (h ▸ hb)
      · right; rw [h] at hb; injection hb with hb; omega
  · rcases Nat.lt_or_ge i L.length with hlt | hge
    · rw [List.getElem?_append_left hlt] at hq
      exact k.c.rok i q hq
    · have hi : i = L.length := by
        have := (List.getElem?_eq_some_iff.1 hq).1
        rw [List.length_append, List.length_singleton] at this
        omega
      subst hi
      simp at hq
      subst hq
      exact ⟨rfl, hr, hf⟩
  · rcases List.mem_append.1 hq with hq | hq
    · obtain ⟨e1, cs, e2⟩ := k.c.rb q hq hne a ha
      exact ⟨e1, cs, e2.mods hm2 (hd q hq hne a ha)⟩
    · rw [List.mem_singleton.1 hq] at hne ha
      obtain ⟨e1, cs, e2⟩ := hnb a hne ha
      exact ⟨Nat.le_trans k.gwn e1, cs, e2.mods hm2 (own_blk_ne k.c.rows.own e2 (by decide))⟩
theorem C3.rowsAt (k : C3 w9 W gl u d P tz tw h zs A3 c3 L A4 m4 c4) : RowsAt W A3 h c3 L := ⟨⟨_, k.rows⟩, fun q hq hne a ha => (k.rb q hq hne a ha).2⟩
/-- Both rows. -/
theorem C3.both (k : C3 w9 W gl u d P tz tw h zs A3 c3 L A4 m4 c4) (hh : h = 2) : ∃ r0 r3, pws L = cutR r0 r3 ∧ isCut r0 ∧ isCut r3 ∧ four (fun i => u i + d i) 0 r0 ∧ four (fun i => u i + d i) 1 r3 ∧ ∀ q ∈ L, q.lens.length ≤ 4 := by
  obtain ⟨q0, q3, rfl⟩ : ∃ a b, L = [a, b] := by
    have := k.rl
    rw [hh] at this
    match L, this with
    | [a, b], _ => exact ⟨a, b, rfl⟩
  obtain ⟨a1, a2, a3⟩ := k.rok 0 q0 rfl
  obtain ⟨b1, b2, b3⟩ := k.rok 1 q3 rfl
  refine ⟨q0.lens, q3.lens, ?_, a2, b2, a3, b3, fun q hq => ?_⟩
  · simp only [pws, List.map_cons, List.map_nil, cutR, RowP.pw, a1, b1]
  · simp only [List.mem_cons, List.not_mem_nil, or_false] at hq
    rcases hq with rfl | rfl
    · exact four_len a3 a2
    · exact four_len b3 b2
end
end Go.Proofs.Ytkodmgnagfolpaa
