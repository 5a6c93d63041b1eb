/- Texts laid as one: Ref13a, Ref13b, Ref13c, Ref13d. -/
import Derived.Test.YtpabbhhaagfoeaaAcc0
import Derived.Test.YtpabbhhaagfoeaaSlS
import Derived.Test.YtpabbhhaagfoeaaMemX
import Derived.Test.YtpabbhhaagfoeaaRefM1
import Derived.Deep.QuietTactic
import Derived.BigQuiet
import Derived.Test.YtpabbhhaagfoeaaGQ
import Derived.Laws.StructEq

section
/- The reference of layer 13: votes by value; Prepare, Forget. -/
namespace Go.Proofs.Ytpabbhhaagfoeaa
set_option maxRecDepth 100000
open Go.RowKit
set_option linter.unusedVariables false
set_option linter.unusedSimpArgs false

theorem infoVt : (Try.prog.info? 53).map (fun i => (i.zero, i.size, i.bytes)) = some (some (.agg #[.int .u64 0, .int .u64 0, .string ⟨#[]⟩]), 3, 32) := by kernel_rfl
/-- A vote's cells. -/
def vtC (x : PVt) : List Value := [.int .u64 (x.slot : Int), .int .u64 (x.bal : Int), .string (strOf x.val)]
def vtCs (l : List PVt) : List Value := l.flatMap vtC
theorem vtCs_append (l m : List PVt) : vtCs (l ++ m) = vtCs l ++ vtCs m := by simp [vtCs]
theorem vtCs_snoc (l : List PVt) (x : PVt) : vtCs (l ++ [x]) = vtCs l ++ vtC x := by simp [vtCs]
theorem vtCs_length : ∀ (l : List PVt), (vtCs l).length = l.length * 3
  | [] => rfl
  | x :: l => by
    have := vtCs_length l
    simp only [vtCs, List.flatMap_cons, List.length_append, List.length_cons] at this ⊢
    rw [this]
    simp [vtC]; omega
theorem vtC_one (x : PVt) : ∀ u ∈ vtC x, u.oneCell' = true := by
  intro u hu
  simp [vtC] at hu
  rcases hu with rfl | rfl | rfl <;> rfl
theorem vtCs_at : ∀ (l : List PVt) (j : Nat) (h : j < l.length), (vtCs l)[j * 3]? = some (.int .u64 (l[j].slot : Int)) ∧ (vtCs l)[j * 3 + 1]? = some (.int .u64 (l[j].bal : Int)) ∧ (vtCs l)[j * 3 + 2]? = some (.string (strOf l[j].val))
  | x :: l, 0, h => by simp [vtCs, vtC]
  | x :: l, j + 1, h => by
    have := vtCs_at l j (by simpa using h)
    rw [show (j + 1) * 3 = j * 3 + 3 by omega]
    simp only [vtCs, List.flatMap_cons, vtC, List.getElem_cons_succ] at this ⊢
    exact ⟨by simpa using this.1, by simpa using this.2.1, by simpa using this.2.2⟩
theorem vt_new {w : World} {t : TypeId} (x : PVt) {g : Nat} (hg : g = w.heap.size) : ∀ j u, (vtC x)[j]? = some u → (w.alloc (.cells #[.int .u64 (x.slot : Int), .int .u64 (x.bal : Int), .string (strOf x.val)] t)).cell? ((⟨g, 0, none⟩ : Addr).add j) = some u := by
  subst hg
  intro j u hu
  rw [Addr.add_lit, Nat.zero_add, (Blk.new w t #[.int .u64 (x.slot : Int), .int .u64 (x.bal : Int), .string (strOf x.val)]).cell]
  simpa [vtC] using hu
/-- A slice that reads as votes. -/
structure RVs (w : World) (A : Option Addr) (c n : Nat) (l : List PVt) : Prop where
  len : l.length = n
  sl : SlS 3 w A c n (vtCs l)
  ty : ∀ a, A = some a → ∃ cs, Blk w a.block 53 cs
section
variable {S : Nat → Prop} {w w' : World} {A : Option Addr} {c n : Nat} {l : List PVt}
theorem RVs.mods (h : RVs w A c n l) (hm : Mods S w w') (hA : ∀ a, A = some a → ¬ S a.block) : RVs w' A c n l :=
  ⟨h.len, h.sl.mods hm hA, fun a ha => by obtain ⟨cs, hb⟩ := h.ty a ha; exact ⟨cs, hb.mods hm (hA a ha)⟩⟩
theorem RVs.nil (h : RVs w A c n l) (hm : Mods Nil w w') : RVs w' A c n l := h.mods hm (fun _ _ h => h)
theorem RVs.none_ (w : World) : RVs w none 0 0 [] := ⟨rfl, SlS.none_ _ _, fun a h => by cases h⟩
theorem RVs.at_ (h : RVs w A c n l) {j : Nat} (hj : j < n) : ∃ b off, A = some ⟨b, off, none⟩ ∧ b < w.heap.size ∧ w.cell? ⟨b, off + j * 3, none⟩ = some (.int .u64 ((l[j]'(by rw [h.len]; exact hj)).slot : Int)) ∧ w.cell? ⟨b, off + j * 3 + 1, none⟩ = some (.int .u64 ((l[j]'(by rw [h.len]; exact hj)).bal : Int)) ∧ w.cell? ⟨b, off + j * 3 + 2, none⟩ = some (.string (strOf (l[j]'(by rw [h.len]; exact hj)).val)) := by
  obtain ⟨b, off, hA, hb, hc⟩ := h.sl.at_ (by omega) (by omega)
  obtain ⟨h0, h1, h2⟩ := vtCs_at l j (by rw [h.len]; exact hj)
  exact ⟨b, off, hA, hb, hc _ _ h0, by rw [Nat.add_assoc]; exact hc _ _ h1, by rw [Nat.add_assoc]; exact hc _ _ h2⟩
theorem rvs_own {base : Nat} {v : Value} (h : w.ownsRow base 53 3 v n (vtCs l)) (hl : l.length = n) : ∃ A c, v = .slice A n c ∧ RVs w A c n l ∧ ∀ a, A = some a → base ≤ a.block := by
  obtain ⟨A, c, rfl, hs, ho⟩ := own_sls h
  refine ⟨A, c, rfl, ⟨hl, hs, fun a ha => ?_⟩, fun a ha => (ho a ha).2⟩
  rcases h.2 with ⟨h0, _⟩ | ⟨g, cap, cur, h0, _, hb, _⟩
  · injection h0 with h1
    rw [h1] at ha
    cases ha
  · injection h0 with h1
    rw [h1] at ha
    injection ha with ha
    subst ha
    exact ⟨_, hb⟩
end
/-- An acceptor by value. -/
@[reducible] def acC (a : PAc) (A : Option Addr) (n c : Nat) : Array Value := #[.int .u64 (a.prom : Int), .int .u64 (a.low : Int), .slice A n c]
theorem Blk.three {w : World} {g : Nat} {t : TypeId} {a b c : Value} (h : Blk w g t #[a, b, c]) : w.cell? ⟨g, 0, none⟩ = some a ∧ w.cell? ⟨g, 1, none⟩ = some b ∧ w.cell? ⟨g, 2, none⟩ = some c := ⟨h.cell 0, h.cell 1, h.cell 2⟩

/-- A vote more, behind a row of the call's own. -/
theorem push_vt {ops : Array Oper} {rest : List Oper} {o : Oper} {a : Act} {Q : Exit → Act → World → Prop} (hgd : o.guard = none) (s x : Operand)
    (ho : o.op = .call { callee := .builtin .append, args := #[s, x], argTypes := #[30, 30] })
    {W : World} {base m : Nat} {v : Value} {l : List PVt} (y : PVt) (hs : a.eval s = v) (hown : W.ownsRow base 53 3 v m (vtCs l)) (hx : a.eval x = .slice (some ⟨W.heap.size, 0, none⟩) 1 1)
    (hlim : m ≤ 1000000) (hbase : base ≤ W.heap.size)
    (h : ∀ v' w', w'.ownsRow base 53 3 v' (m + 1) (vtCs (l ++ [y])) → Mods (fun k => v.ownBlock = some k) W w' → wpList Try.prog ops Q rest (a.put o.dst v') w') :
    wpList Try.prog ops Q (o :: rest) a (W.alloc (.cells #[.int .u64 (y.slot : Int), .int .u64 (y.bal : Int), .string (strOf y.val)] 53)) := by
  obtain ⟨i0, hi0, hz0, hz1, hz2⟩ := info_parts infoVt
  refine wpList_append_own _ hgd s x 30 ho base 53 i0 (.agg #[.int .u64 0, .int .u64 0, .string ⟨#[]⟩]) 3 32 Try.underlying30 hi0 hz0 hz1 hz2 rfl (by decide) v m (vtCs l) hs (own_mods hown ((Mods.refl Nil W).alloc _) (fun _ _ h => h)) ⟨W.heap.size, 0, none⟩ 1 1 (vtC y) hx rfl (vt_new y rfl) (vtC_one y) (by unfold maxLen; omega) (by omega) (by simp; omega) ?_
  intro v' w' h1 h2 _
  rw [← vtCs_snoc] at h1
  exact h v' w' h1 (((Mods.refl (fun k => v.ownBlock = some k) W).alloc _).grown h2 (fun k hk _ => hk))
theorem own_nilm {w w0 w' : World} {base m : Nat} {v : Value} {xs : List Value} (ho : w.ownsRow base 53 3 v m xs) (hb : w0.heap.size ≤ base) (h0 : Mods Nil w0 w) (hm : Mods (fun k => v.ownBlock = some k) w w') : Mods Nil w0 w' :=
  h0.nil_trans hm (fun k hk => by have := (ho.lt k hk).1; omega)
theorem take_vt {l : List PVt} {i : Nat} (h : i < l.length) : l.take (i + 1) = l.take i ++ [l[i]] := by simp

/-- What Prepare tells. -/
def RPrep (w : World) (a : PAc) (A : Option Addr) (n c b f : Nat) (e : Ending) (w' : World) : Prop :=
  ∃ A' c' n', e = .returned (.tuple #[.agg (acC (a.prepare b) A n c), .slice A' n' c', .int .i64 (a.prepE b : Int)]) ∧ RVs w' A' c' n' (a.told b f) ∧ Mods Nil w w'

end Go.Proofs.Ytpabbhhaagfoeaa
end

section
/- The reference of layer 13: Forget, Accept. -/
namespace Go.Proofs.Ytpabbhhaagfoeaa
set_option maxRecDepth 100000
open Go.RowKit
set_option linter.unusedVariables false
set_option linter.unusedSimpArgs false

/-- What Forget tells. -/
def RForg (w : World) (a : PAc) (A : Option Addr) (n c s : Nat) (e : Ending) (w' : World) : Prop :=
  ∃ A' c' n', e = .returned (.agg (acC (a.forget s) A' n' c')) ∧ RVs w' A' c' n' (a.forget s).L ∧ (∀ x, A' = some x → A = some x ∨ w.heap.size ≤ x.block) ∧ Mods Nil w w'

/-- What stands ahead of a place, with the vote in it as soon as it is due. -/
def stV (v : PVt) (p : List PVt) : Bool := p.any (fun x => decide (v.slot ≤ x.slot))
def outV (v : PVt) (p : List PVt) : List PVt := if stV v p then insV v p else p
theorem stV_false {v : PVt} {p : List PVt} : stV v p = false ↔ ∀ x ∈ p, x.slot < v.slot := by
  unfold stV
  rw [List.any_eq_false]
  constructor
  · intro h x hx
    have := h x hx
    simp at this
    omega
  · intro h x hx
    have := h x hx
    simp
    omega
theorem stV_snoc (v : PVt) (p : List PVt) (x : PVt) : stV v (p ++ [x]) = (stV v p || decide (v.slot ≤ x.slot)) := by simp [stV, List.any_append]
theorem outV_len (v : PVt) (p : List PVt) : (outV v p).length ≤ p.length + 1 := by
  unfold outV
  split
  · exact insV_len v p
  · omega
theorem outV_false {v : PVt} {p : List PVt} (h : stV v p = false) : outV v p = p := by unfold outV; rw [h]; simp
theorem outV_fin {v : PVt} {p : List PVt} : (if stV v p then outV v p else outV v p ++ [v]) = insV v p := by
  by_cases h : stV v p = true
  · rw [if_pos h]; unfold outV; rw [if_pos h]
  · have h' : stV v p = false := by simpa using h
    rw [if_neg h, outV_false h', insV_below (stV_false.1 h')]
/-- One place further: the vote is due, or isn't; the one that stands there is kept, or isn't. -/
theorem outV_snoc {v x : PVt} {p : List PVt} (h : riseV (p ++ [x])) : outV v (p ++ [x]) = outV v p ++ (if v.slot ≤ x.slot ∧ stV v p = false then [v] else []) ++ (if x.slot ≠ v.slot then [x] else []) := by
  obtain ⟨hr, hx⟩ := h.snoc
  cases hs : stV v p with
  | false =>
    have hb := stV_false.1 hs
    rw [outV_false hs]
    by_cases h1 : v.slot ≤ x.slot
    · have h2 : stV v (p ++ [x]) = true := by rw [stV_snoc]; simp [h1]
      unfold outV
      rw [if_pos h2, if_pos ⟨h1, rfl⟩]
      by_cases h3 : x.slot = v.slot
      · rw [if_neg (by simp [h3]), insV_same hb h3]; simp
      · rw [if_pos h3, insV_above (by omega), insV_below hb]
    · have h2 : stV v (p ++ [x]) = false := by rw [stV_snoc, hs]; simp; omega
      rw [outV_false h2, if_neg (by omega), if_pos (by omega)]; simp
  | true =>
    have h2 : stV v (p ++ [x]) = true := by rw [stV_snoc, hs]; simp
    obtain ⟨y, hy, hvy⟩ : ∃ y ∈ p, v.slot ≤ y.slot := by
      unfold stV at hs
      obtain ⟨y, hy, h⟩ := List.any_eq_true.1 hs
      exact ⟨y, hy, by simpa using h⟩
    have := hx y hy
    unfold outV
    rw [if_pos h2, hs, if_pos rfl, if_neg (by simp), if_pos (by omega), insV_above (by omega)]
    simp
end Go.Proofs.Ytpabbhhaagfoeaa
end

section
/- The reference of layer 13: Accept. -/
namespace Go.Proofs.Ytpabbhhaagfoeaa
set_option maxRecDepth 100000
open Go.RowKit
set_option linter.unusedVariables false
set_option linter.unusedSimpArgs false

theorem RVs.cells {w : World} {blk off c n j : Nat} {l : List PVt} {x : PVt} (h : RVs w (some ⟨blk, off, none⟩) c n l) (hx : l[j]? = some x) : w.cell? ⟨blk, off + j * 3, none⟩ = some (.int .u64 (x.slot : Int)) ∧ w.cell? ⟨blk, off + j * 3 + 1, none⟩ = some (.int .u64 (x.bal : Int)) ∧ w.cell? ⟨blk, off + j * 3 + 2, none⟩ = some (.string (strOf x.val)) := by
  obtain ⟨hj, hx⟩ := List.getElem?_eq_some_iff.1 hx
  obtain ⟨b, o, hA, _, h0, h1, h2⟩ := h.at_ (j := j) (by rw [← h.len]; exact hj)
  injection hA with hA
  injection hA with e1 e2
  subst e1; subst e2
  rw [hx] at h0 h1 h2
  exact ⟨h0, h1, h2⟩
/-- What Accept tells. -/
def RAcc (w : World) (a : PAc) (A : Option Addr) (v : PVt) (e : Ending) (w' : World) : Prop :=
  ∃ A' c' n', e = .returned (.tuple #[.agg (acC (a.accept v) A' n' c'), .int .i64 (a.accE v : Int)]) ∧ RVs w' A' c' n' (a.accept v).L ∧ (∀ x, A' = some x → A = some x ∨ w.heap.size ≤ x.block) ∧ Mods Nil w w'

end Go.Proofs.Ytpabbhhaagfoeaa
end

section
/- The reference of layer 13: Same, Put. -/
namespace Go.Proofs.Ytpabbhhaagfoeaa
set_option maxRecDepth 100000
open Go.RowKit
set_option linter.unusedVariables false
set_option linter.unusedSimpArgs false

theorem vneq_any (W : World) (x y : PVt) : (binOp .neq 53 (.agg #[.int .u64 (x.slot : Int), .int .u64 (x.bal : Int), .string (strOf x.val)]) (.agg #[.int .u64 (y.slot : Int), .int .u64 (y.bal : Int), .string (strOf y.val)])).run Try.prog W = .ok (.bool (!((x.slot == y.slot) && (x.bal == y.bal) && (x.val == y.val)))) W := by
  obtain ⟨a, b, c⟩ := x
  obtain ⟨d, e, f⟩ := y
  have hc : ((strOf c).toList == (strOf f).toList) = (c == f) := by rw [strOf_toList, strOf_toList]
  by_cases h1 : a = d
  · by_cases h2 : b = e
    · by_cases h3 : c = f
      · subst h1; subst h2; subst h3
        simp [go_sem]
      · have h3' : (c == f) = false := by simpa using h3
        subst h1; subst h2
        rw [h3'] at hc
        simp [go_sem, hc, h3']
    · have h2' : ((b : Int) == (e : Int)) = false := by rw [beq_eq_false_iff_ne]; omega
      have h2n : (b == e) = false := by rw [beq_eq_false_iff_ne]; omega
      subst h1
      simp [go_sem, h2', h2n, h2]
  · have h1' : ((a : Int) == (d : Int)) = false := by rw [beq_eq_false_iff_ne]; omega
    have h1n : (a == d) = false := by rw [beq_eq_false_iff_ne]; omega
    simp [go_sem, h1', h1n, h1]
theorem vneq_iff (x y : PVt) : (!((x.slot == y.slot) && (x.bal == y.bal) && (x.val == y.val))) = true ↔ x ≠ y := by
  obtain ⟨a, b, c⟩ := x
  obtain ⟨d, e, f⟩ := y
  by_cases h1 : a = d
  · by_cases h2 : b = e
    · simp [h1, h2]
    · simp [h1, h2]
  · simp [h1]

/-- What Same tells. -/
def SameV (w : World) (l m : List PVt) (e : Ending) (w' : World) : Prop := ∃ r : Bool, e = .returned (.bool r) ∧ (r = true ↔ l = m) ∧ Mods Nil w w'
set_option maxHeartbeats 3200000 in
theorem r13same_any (w : World) {l m : List PVt} {A B : Option Addr} {n k c d : Nat} (hA : RVs w A c n l) (hB : RVs w B d k m) (hn : n ≤ 100000) (hk : k ≤ 100000) :
    Calls Try.prog 16 #[.slice A n c, .slice B k d] w (SameV w l m) := by
  have HA := Lib.hid hA
  have HB := Lib.hid hB
  have HN := Lib.hid hA.len
  have HK := Lib.hid hB.len
  clear hA hB
  by_cases hnk : n = k
  · subst hnk
    have hne : ((n : Int) != (n : Int)) = false := by simp
    go_enter Try.func16, Try.ntmps16
    go_wp2
    go_loopw [5] (fun x wr => ∃ i : Nat, i ≤ n ∧ x = .int .i64 (i : Int) ∧ l.take i = m.take i ∧ Mods Nil w wr) (fun x _ => n - (intOf x).toNat)
    case atStart => exact ⟨0, Nat.zero_le _, rfl, by simp, Mods.refl _ _⟩
    case round =>
      obtain ⟨i, hi, rfl, he, hm⟩ := hrel
      have HM := Lib.hid hm
      have HE := Lib.hid he
      clear hm he
      by_cases hlt : i < n
      · have hltI : (i : Int) < (n : Int) := by omega
        have hl1 : i < l.length := by rw [HN.out]; exact hlt
        have hl2 : i < m.length := by rw [HK.out]; exact hlt
        obtain ⟨b1, o1, rfl, -, c0, c1, c2⟩ := (HA.out.nil HM.out).at_ hlt
        obtain ⟨b2, o2, rfl, -, d0, d1, d2⟩ := (HB.out.nil HM.out).at_ hlt
        have ht1 := take_vt hl1
        have ht2 := take_vt hl2
        obtain ⟨x, hx⟩ : ∃ x, l[i] = x := ⟨_, rfl⟩
        obtain ⟨y, hy⟩ : ∃ y, m[i] = y := ⟨_, rfl⟩
        have HG1 := Lib.hid (show l[i]? = some x by rw [← hx]; exact List.getElem?_eq_getElem hl1)
        have HG2 := Lib.hid (show m[i]? = some y by rw [← hy]; exact List.getElem?_eq_getElem hl2)
        rw [hx] at c0 c1 c2 ht1
        rw [hy] at d0 d1 d2 ht2
        have HT1 := Lib.hid ht1
        have HT2 := Lib.hid ht2
        clear hx hy ht1 ht2 hl1 hl2
        by_cases hxy : x = y
        · have hq : ∀ W, (binOp .neq 53 (.agg #[.int .u64 (x.slot : Int), .int .u64 (x.bal : Int), .string (strOf x.val)]) (.agg #[.int .u64 (y.slot : Int), .int .u64 (y.bal : Int), .string (strOf y.val)])).run Try.prog W = .ok (.bool false) W := fun W => by
            have h := vneq_any W x y
            rw [show (!((x.slot == y.slot) && (x.bal == y.bal) && (x.val == y.val))) = false by
              have := (not_congr (vneq_iff x y)).2 (by simp [hxy])
              simpa using this] at h
            exact h
          have HXY := Lib.hid hxy
          clear hxy
          go_wp2
          go_quiet (fail)
          go_wp2
          exact ⟨⟨i + 1, by omega, by go_num, by rw [HT1.out, HT2.out, HE.out, HXY.out], HM.out.drewN _⟩, by simp [intOf]; omega⟩
        · have hq : ∀ W, (binOp .neq 53 (.agg #[.int .u64 (x.slot : Int), .int .u64 (x.bal : Int), .string (strOf x.val)]) (.agg #[.int .u64 (y.slot : Int), .int .u64 (y.bal : Int), .string (strOf y.val)])).run Try.prog W = .ok (.bool true) W := fun W => by
            have h := vneq_any W x y
            rw [(vneq_iff x y).2 hxy] at h
            exact h
          have HXY := Lib.hid hxy
          clear hxy
          go_wp2
          go_quiet (fail)
          go_wp2
          go_ret
          refine ⟨false, rfl, ⟨fun h => (by cases h), fun h => ?_⟩, HM.out.drewN _⟩
          have h1 := HG1.out
          rw [h, HG2.out] at h1
          injection h1 with h1
          exact absurd h1.symm HXY.out
      · obtain rfl : i = n := by omega
        go_wp2
        go_ret
        refine ⟨true, rfl, ⟨fun _ => ?_, fun _ => rfl⟩, HM.out⟩
        have h := HE.out
        rw [List.take_of_length_le (by rw [HN.out]; exact Nat.le_refl _), List.take_of_length_le (by rw [HK.out]; exact Nat.le_refl _)] at h
        exact h
  · have hne : ((n : Int) != (k : Int)) = true := by rw [bne_iff_ne]; omega
    have hneN : (n != k) = true := by rw [bne_iff_ne]; omega
    go_enter Try.func16, Try.ntmps16
    go_wp2
    go_ret
    exact ⟨false, rfl, ⟨fun h => (by cases h), fun h => absurd (by rw [← HN.out, ← HK.out, h]) hnk⟩, Mods.refl _ _⟩

end Go.Proofs.Ytpabbhhaagfoeaa
end
