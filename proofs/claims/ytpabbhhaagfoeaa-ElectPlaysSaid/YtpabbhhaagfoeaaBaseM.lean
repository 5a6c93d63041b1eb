/- Texts laid as one: Mem, Gen, Gen2. -/
import Derived.WalkKit
import Derived.Laws.AppendOwnNone
import Derived.Laws.BytesArg
import Derived.Laws.Rows
import Derived.Deep.Draws
import Derived.Lib.Hide
import Derived.Test.YtpabbhhaagfoeaaProg
import Derived.Outline
import Derived.WalkLawsBesides
import Derived.Lib.SlBytesConst
import Derived.Deep.RegionWith
import Derived.Deep.RegionLaw

section
/- Plain laws on memory: which blocks may have changed; slices that read as lists; blocks known whole; appends onto rows of the call's own. No program. -/
namespace Go.Proofs.Ytpabbhhaagfoeaa
set_option maxRecDepth 100000
open Go.RowKit

/-- Only blocks of S, among those that were there, may have changed. -/
structure Mods (S : Nat → Prop) (w w' : World) : Prop where
  os : w'.os = w.os
  tape : w'.tape = w.tape
  output : w'.output = w.output
  size : w.heap.size ≤ w'.heap.size
  block : ∀ k, k < w.heap.size → ¬ S k → w'.heap[k]? = w.heap[k]?

def Nil : Nat → Prop := fun _ => False

section
variable {S T : Nat → Prop} {w w' w1 w2 : World}
theorem Mods.refl (S : Nat → Prop) (w : World) : Mods S w w := ⟨rfl, rfl, rfl, Nat.le_refl _, fun _ _ _ => rfl⟩
theorem Mods.trans (h : Mods S w w1) (k : Mods S w1 w2) : Mods S w w2 :=
  ⟨k.os.trans h.os, k.tape.trans h.tape, k.output.trans h.output, Nat.le_trans h.size k.size,
    fun i hi hn => (k.block i (Nat.lt_of_lt_of_le hi h.size) hn).trans (h.block i hi hn)⟩
/-- Behind: T may name new blocks, too. -/
theorem Mods.trans2 (h : Mods S w w1) (k : Mods T w1 w2) (hT : ∀ i, i < w.heap.size → T i → S i) : Mods S w w2 :=
  ⟨k.os.trans h.os, k.tape.trans h.tape, k.output.trans h.output, Nat.le_trans h.size k.size,
    fun i hi hn => (k.block i (Nat.lt_of_lt_of_le hi h.size) (fun ht => hn (hT i hi ht))).trans (h.block i hi hn)⟩
theorem Mods.mono (h : Mods S w w') (hT : ∀ i, i < w.heap.size → S i → T i) : Mods T w w' :=
  ⟨h.os, h.tape, h.output, h.size, fun i hi hn => h.block i hi (fun hs => hn (hT i hi hs))⟩
theorem Mods.drew (h : Mods S w w') : Mods S w w'.drew := ⟨h.os, h.tape, h.output, h.size, h.block⟩
theorem Mods.drewN (h : Mods S w w') (n : Nat) : Mods S w (w'.drewN n) := ⟨h.os, h.tape, h.output, h.size, h.block⟩
theorem Mods.of_drew (h : Mods S w.drew w') : Mods S w w' := ⟨h.os, h.tape, h.output, h.size, h.block⟩
theorem Mods.of_drewN {n : Nat} (h : Mods S (w.drewN n) w') : Mods S w w' := ⟨h.os, h.tape, h.output, h.size, h.block⟩
theorem Mods.alloc (h : Mods S w w') (o : Obj) : Mods S w (w'.alloc o) :=
  h.trans ⟨rfl, rfl, rfl, by simp, fun k hk _ => Below.heap_alloc _ _ _ hk⟩
theorem Mods.setCell (h : Mods S w w') {p : Addr} (hp : p.block < w.heap.size → S p.block) (u : Value) : Mods S w (w'.setCell p u) := by
  refine ⟨h.os, h.tape, h.output, by simpa [World.setCell] using h.size, fun k hk hn => ?_⟩
  rw [Below.heap_setCell _ _ _ _ (fun e => hn (by subst e; exact hp hk))]
  exact h.block k hk hn
theorem Mods.grown (h : Mods S w w1) {row : Option Nat} (hg : w1.grownBy w' row) (hr : ∀ k, row = some k → k < w.heap.size → S k) : Mods S w w' :=
  ⟨hg.os.trans h.os, hg.tape.trans h.tape, hg.output.trans h.output, Nat.le_trans h.size hg.size,
    fun k hk hn => (hg.block k (Nat.lt_of_lt_of_le hk h.size) (fun e => hn (hr k e.symm hk))).trans (h.block k hk hn)⟩
theorem Mods.below {B : Nat} (h : Mods S w w') (hS : ∀ k, S k → B ≤ k) (hB : B ≤ w.heap.size) : Below B w w' :=
  ⟨h.os, h.tape, h.output, h.size, fun k hk => h.block k (by omega) (fun hs => by have := hS k hs; omega)⟩
theorem Mods.ofBelow {B : Nat} (h : Below B w w') : Mods (fun k => B ≤ k) w w' :=
  ⟨h.os, h.tape, h.output, h.size, fun k _ hn => h.block k (by omega)⟩
end

/-! A block known whole. -/
def Blk (w : World) (g : Nat) (t : TypeId) (cs : Array Value) : Prop := w.heap[g]? = some (.cells cs t (0, 0))

section
variable {S : Nat → Prop} {w w' : World} {g : Nat} {t : TypeId} {cs : Array Value}
theorem Blk.lt (h : Blk w g t cs) : g < w.heap.size := lt_of_block h
theorem Blk.cell (h : Blk w g t cs) (i : Nat) : w.cell? ⟨g, i, none⟩ = cs[i]? := cell_of_row w g i cs t (0, 0) h
theorem Blk.frozen (h : Blk w g t cs) (i : Nat) : w.frozen? ⟨g, i, none⟩ = false := by
  unfold Blk at h
  simp [World.frozen?, h]
theorem Blk.new (w : World) (t : TypeId) (cs : Array Value) : Blk (w.alloc (.cells cs t)) w.heap.size t cs := heap_alloc_new w _
theorem Blk.drew (h : Blk w g t cs) : Blk w.drew g t cs := h
theorem Blk.drewN (h : Blk w g t cs) (n : Nat) : Blk (w.drewN n) g t cs := h
theorem Blk.alloc (h : Blk w g t cs) (o : Obj) : Blk (w.alloc o) g t cs := (Below.heap_alloc w o g h.lt).trans h
theorem Blk.set_ (h : Blk w g t cs) (i : Nat) (u : Value) : Blk (w.setCell ⟨g, i, none⟩ u) g t (cs.setIfInBounds i u) := by
  unfold Blk at h ⊢
  simp [World.setCell, Array.getElem?_modify, h]
theorem Blk.far (h : Blk w g t cs) {p : Addr} (hp : g ≠ p.block) (u : Value) : Blk (w.setCell p u) g t cs := (Below.heap_setCell w p u g hp).trans h
theorem Blk.mods (h : Blk w g t cs) (hm : Mods S w w') (hS : ¬ S g) : Blk w' g t cs := (hm.block g h.lt hS).trans h
theorem Blk.grown {row : Option Nat} (h : Blk w g t cs) (hb : w.grownBy w' row) (hg : some g ≠ row) : Blk w' g t cs := (hb.block g h.lt hg).trans h
theorem Blk.ne_ {g' : Nat} {t' : TypeId} {cs' : Array Value} (h : Blk w g t cs) (h' : Blk w g' t' cs') (hne : t ≠ t') : g ≠ g' := by
  rintro rfl
  unfold Blk at h h'
  rw [h] at h'
  injection h' with h'
  injection h' with _ ht
  exact hne ht
theorem own_blk_ne {base : Nat} {e : TypeId} {size n : Nat} {v : Value} {xs : List Value} (h : w.ownsRow base e size v n xs) (hg : Blk w g t cs) (hne : e ≠ t) : v.ownBlock ≠ some g := by
  rcases h.2 with ⟨rfl, _⟩ | ⟨g', cap, cur, rfl, _, hh, _⟩
  · simp [Value.ownBlock]
  · intro he
    simp [Value.ownBlock] at he
    subst he
    exact Blk.ne_ (w := w) hh hg hne rfl
theorem own_own_ne {base base' : Nat} {e e' : TypeId} {size size' n n' : Nat} {v v' : Value} {xs xs' : List Value} (h : w.ownsRow base e size v n xs) (h' : w.ownsRow base' e' size' v' n' xs') (hne : e ≠ e') {k : Nat} (hk : v.ownBlock = some k) : v'.ownBlock ≠ some k := by
  rcases h.2 with ⟨rfl, _⟩ | ⟨g', cap, cur, rfl, _, hh, _⟩
  · simp [Value.ownBlock] at hk
  · simp [Value.ownBlock] at hk
    subst hk
    exact own_blk_ne (w := w) h' hh (Ne.symm hne)
theorem own_mods {base : Nat} {e : TypeId} {size n : Nat} {v : Value} {xs : List Value} (h : w.ownsRow base e size v n xs) (hm : Mods S w w') (hS : ∀ k, v.ownBlock = some k → ¬ S k) : w'.ownsRow base e size v n xs := by
  refine ⟨h.1, ?_⟩
  rcases h.2 with hn | ⟨g, cap, cur, rfl, hb, hgg, rest⟩
  · exact .inl hn
  · exact .inr ⟨g, cap, cur, rfl, hb, (hm.block g (lt_of_block hgg) (hS g rfl)).trans hgg, rest⟩
theorem own_rebase {base base' : Nat} {e : TypeId} {size n : Nat} {v : Value} {xs : List Value} (h : w.ownsRow base e size v n xs) (hb : base' ≤ base) : w.ownsRow base' e size v n xs := by
  refine ⟨h.1, ?_⟩
  rcases h.2 with hn | ⟨g, cap, cur, hv, hg, rest⟩
  · exact .inl hn
  · exact .inr ⟨g, cap, cur, hv, by omega, rest⟩
end

/-! A slice that reads as a list of cells. -/
def Has (w : World) (A : Option Addr) (xs : List Value) : Prop :=
  xs = [] ∨ ∃ b off, A = some ⟨b, off, none⟩ ∧ ∀ j u, xs[j]? = some u → w.cell? ⟨b, off + j, none⟩ = some u

structure Sl (w : World) (A : Option Addr) (c : Nat) (xs : List Value) : Prop where
  le : xs.length ≤ c
  max : c ≤ maxLen
  nil : A = none → c = 0
  has : Has w A xs

/-- Its block, if it has one, is none of S. -/
def Off (S : Nat → Prop) (A : Option Addr) : Prop := ∀ a, A = some a → ¬ S a.block

section
variable {S : Nat → Prop} {w w' : World} {A : Option Addr} {c : Nat} {xs : List Value}
theorem Has.lt {b off : Nat} (h : Has w (some ⟨b, off, none⟩) xs) (hne : 0 < xs.length) : b < w.heap.size := by
  rcases h with rfl | ⟨b', off', hA, hc⟩
  · simp at hne
  · injection hA with hA
    injection hA with h1 h2
    subst h1
    have := World.block_lt_of_cell? w _ (hc 0 _ (List.getElem?_eq_getElem hne))
    exact this
theorem Has.at_ (h : Has w A xs) (hne : 0 < xs.length) : ∃ b off, A = some ⟨b, off, none⟩ ∧ b < w.heap.size ∧ ∀ j u, xs[j]? = some u → w.cell? ⟨b, off + j, none⟩ = some u := by
  rcases h with rfl | ⟨b, off, rfl, hc⟩
  · simp at hne
  · exact ⟨b, off, rfl, World.block_lt_of_cell? w _ (hc 0 _ (List.getElem?_eq_getElem hne)), hc⟩
theorem Has.mods (h : Has w A xs) (hm : Mods S w w') (hA : Off S A) : Has w' A xs := by
  rcases h with rfl | ⟨b, off, rfl, hc⟩
  · exact .inl rfl
  · refine .inr ⟨b, off, rfl, fun j u hu => ?_⟩
    have hx := hc j u hu
    have hlt := World.block_lt_of_cell? w _ hx
    rw [World.cell?_of_block (hm.block b hlt (hA _ rfl))]
    exact hx
theorem Sl.mods (h : Sl w A c xs) (hm : Mods S w w') (hA : Off S A) : Sl w' A c xs := ⟨h.le, h.max, h.nil, h.has.mods hm hA⟩
theorem Sl.drew (h : Sl w A c xs) : Sl w.drew A c xs := h.mods (S := Nil) (Mods.refl _ _).drew (fun _ _ h => h)
theorem Sl.drewN (h : Sl w A c xs) (n : Nat) : Sl (w.drewN n) A c xs := h.mods (S := Nil) ((Mods.refl _ _).drewN n) (fun _ _ h => h)
theorem Sl.alloc (h : Sl w A c xs) (o : Obj) : Sl (w.alloc o) A c xs := h.mods (S := Nil) ((Mods.refl _ _).alloc o) (fun _ _ h => h)
theorem Sl.none_ (w : World) : Sl w none 0 [] := ⟨Nat.le_refl _, Nat.zero_le _, fun _ => rfl, .inl rfl⟩
theorem Sl.empty (w : World) (a : Addr) : Sl w (some a) 0 [] := ⟨Nat.le_refl _, Nat.zero_le _, (fun h => by cases h), .inl rfl⟩
theorem Sl.at_ (h : Sl w A c xs) (hne : 0 < xs.length) : ∃ b off, A = some ⟨b, off, none⟩ ∧ b < w.heap.size ∧ ∀ j u, xs[j]? = some u → w.cell? ⟨b, off + j, none⟩ = some u := h.has.at_ hne
theorem Sl.cells {b off : Nat} {p : Option Nat} (h : Sl w (some ⟨b, off, p⟩) c xs) : ∀ j u, xs[j]? = some u → w.cell? ⟨b, off + j, none⟩ = some u := by
  intro j u hu
  rcases h.has with rfl | ⟨b', off', hA, hc⟩
  · simp at hu
  · injection hA with hA
    injection hA with h1 h2
    subst h1; subst h2
    exact hc j u hu
theorem Sl.of_nil (h : Sl w none c xs) : c = 0 ∧ xs = [] := by
  have := h.nil rfl
  exact ⟨this, List.eq_nil_of_length_eq_zero (by have := h.le; omega)⟩
theorem Sl.take (h : Sl w A c xs) (k : Nat) : Sl w A c (xs.take k) := by
  refine ⟨by have := h.le; simp; omega, h.max, h.nil, ?_⟩
  rcases h.has with rfl | ⟨b, off, rfl, hc⟩
  · exact .inl (by simp)
  · refine .inr ⟨b, off, rfl, fun j u hu => hc j u ?_⟩
    rw [List.getElem?_take] at hu
    split at hu
    · exact hu
    · cases hu
/-- 's[k:]', as the model cuts it. -/
theorem Sl.cut (h : Sl w A c xs) {k : Nat} (hk : k ≤ xs.length) : Sl w (if c = k then A else A.map (·.add k)) (c - k) (xs.drop k) := by
  have hle := h.le
  refine ⟨by simp; omega, by have := h.max; omega, fun hn => ?_, ?_⟩
  · split at hn
    · omega
    · cases A with
      | none => have := h.nil rfl; omega
      | some a => simp at hn
  · by_cases hkl : k = xs.length
    · exact .inl (by subst hkl; simp)
    · rw [if_neg (by omega)]
      obtain ⟨b, off, rfl, _, hc⟩ := h.at_ (by omega)
      refine .inr ⟨b, off + k, by simp [Addr.add_lit], fun j u hu => ?_⟩
      rw [Nat.add_assoc]
      exact hc _ u (by rw [← hu, List.getElem?_drop])
theorem own_slice {base : Nat} {e : TypeId} {v : Value} {n : Nat} (h : w.ownsRow base e 1 v n xs) : ∃ A c, v = .slice A n c ∧ n = xs.length ∧ Sl w A c xs ∧ (∀ a, A = some a → v.ownBlock = some a.block ∧ base ≤ a.block) := by
  have hl := h.1
  rcases h.2 with ⟨rfl, rfl⟩ | ⟨g, cap, cur, rfl, hb, hgg, h1, h2, h3, h4⟩
  · obtain rfl : xs = [] := List.eq_nil_of_length_eq_zero (by simpa using hl)
    exact ⟨none, 0, rfl, rfl, Sl.none_ _, fun a ha => by cases ha⟩
  · refine ⟨some ⟨g, 0, none⟩, cap, rfl, by omega, ⟨by omega, h2, (fun h => by cases h), .inr ⟨g, 0, rfl, fun j u hu => ?_⟩⟩, (fun a ha => by injection ha with ha; subst ha; exact ⟨rfl, hb⟩)⟩
    have hc := h.cells (g := g) rfl j u hu
    rw [Addr.add_lit] at hc
    exact hc
end

/-! An append of any slice onto a row of the call's own. -/
section
variable {P : Program}
theorem run_append_sl (w : World) (base : Nat) (t ty e : TypeId) (i : TypeInfo) (z : Value) (bytes : Nat) (ht : P.underlying t = some (.slice e)) (hi : P.info? e = some i) (hz : i.zero = some z)
    (hsize : i.size = 1) (hby : i.bytes = bytes) (hzs : z.cells.size = 1)
    (v : Value) (n : Nat) (xs : List Value) (hown : w.ownsRow base e 1 v n xs)
    (A : Option Addr) (m c : Nat) (news : List Value) (hm : news.length = m) (hsl : Sl w A c news) (h1 : ∀ u ∈ news, u.oneCell' = true)
    (hbytes : (n + m) * bytes ≤ 140737488355328) (h63 : n + m ≤ maxLen) (hbase : base ≤ w.heap.size) :
    ∃ v' w', (Builtin.append_ #[t, t] ty #[v, .slice A m c]).run P w = .ok v' w' ∧ w'.ownsRow base e 1 v' (n + m) (xs ++ news) ∧ w.grownBy w' v.ownBlock ∧
      (∀ k, v'.ownBlock = some k → v.ownBlock = some k ∨ w.heap.size ≤ k) := by
  subst hm
  cases A with
  | none =>
    obtain ⟨rfl, rfl⟩ := hsl.of_nil
    have hrun := run_append_owned_none (P := P) (w := w) base t ty e i 1 ht hi v n xs hown
    exact ⟨v, w, hrun, by simpa using hown, ⟨rfl, rfl, rfl, Nat.le_refl _, fun _ _ _ => rfl⟩, fun k hk => .inl hk⟩
  | some a =>
    have hc : ∀ j u, news[j]? = some u → w.cell? (a.add j) = some u := by
      intro j u hu
      rcases hsl.has with rfl | ⟨b, off, hA, hcc⟩
      · simp at hu
      · injection hA with hA
        subst hA
        rw [Addr.add_lit]
        exact hcc j u hu
    obtain ⟨v', w', hr, h2, h3, h4⟩ := run_append_own (P := P) w base t ty e i z 1 bytes ht hi hz hsize hby hzs (by omega) v n xs hown a news.length c news (by simp) hc h1 h63 hbytes hbase
    by_cases hroom : ∃ g cap cur, v = .slice (some ⟨g, 0, none⟩) n cap ∧ w.heap[g]? = some (.cells cur e (0, 0)) ∧ n + news.length ≤ cap ∧ cur.size = cap
    · obtain ⟨g, cap, cur, rfl, hg, hle, hcs⟩ := hroom
      have hr2 := run_append_room (P := P) w t ty e i ht hi g n cap cur hg a news.length c news (by rw [hsize]; omega) hc h1 hle (by rw [hsize]; omega)
      rw [hr2] at hr
      injection hr with e1 e2
      subst e1; subst e2
      exact ⟨_, _, hr2, h2, h3, fun k hk => .inl hk⟩
    · rcases hown.2 with ⟨rfl, rfl⟩ | ⟨g, cap, cur, rfl, hbg, hg, hnc, hcm, hcs, htake⟩
      · obtain rfl : xs = [] := List.eq_nil_of_length_eq_zero (by simpa using hown.1)
        by_cases hm0 : news.length = 0
        · have : v' = .slice none 0 0 := (h4.2 ⟨rfl, hm0⟩)
          subst this
          exact ⟨_, _, hr, h2, h3, fun k hk => by simp [Value.ownBlock] at hk⟩
        · have hr2 := run_append_nil (P := P) w t ty e i z ht hi hz a news.length c news (by rw [hsize]; simp) hc (by omega) (by have := h63; simp only [maxLen] at this; omega) (by have hb := hbytes; simp only [Nat.zero_add] at hb; subst hby; omega)
          rw [hr2] at hr
          injection hr with e1 e2
          subst e1; subst e2
          refine ⟨_, _, hr2, h2, h3, fun k hk => .inr ?_⟩
          simp [Value.ownBlock] at hk
          omega
      · have hgrow : cap < n + news.length := by
          apply Nat.lt_of_not_le
          intro hle
          exact hroom ⟨g, cap, cur, rfl, hg, hle, by omega⟩
        obtain ⟨v2, w2, hr2, h5, h6⟩ := run_append_arg_grows (P := P) w t ty e i z 1 bytes ht hi hz hsize hby hzs (by omega) ⟨g, 0, none⟩ n cap xs (by simpa using hown.1) (hown.cells rfl) a news.length c news (by simp) hc hgrow h63 hbytes
        rw [hr2] at hr
        injection hr with e1 e2
        subst e1; subst e2
        exact ⟨_, _, hr2, h2, h3, fun k hk => .inr ((h5.lt k hk).1)⟩

theorem wpList_append_sl (w : World) {ops : Array Oper} {rest : List Oper} {o : Oper} {a : Act} {Q : Exit → Act → World → Prop}
    (hg : o.guard = none) (s x : Operand) (t : TypeId) (hop : o.op = Op.call { callee := Callee.builtin Builtin.append, args := #[s, x], argTypes := #[t, t] })
    (base : Nat) (e : TypeId) (i : TypeInfo) (z : Value) (bytes : Nat) (ht : P.underlying t = some (.slice e)) (hi : P.info? e = some i) (hz : i.zero = some z)
    (hsize : i.size = 1) (hby : i.bytes = bytes) (hzs : z.cells.size = 1)
    (v : Value) (n : Nat) (xs : List Value) (hs : a.eval s = v) (hown : w.ownsRow base e 1 v n xs)
    (A : Option Addr) (m c : Nat) (news : List Value) (hx : a.eval x = .slice A m c) (hm : news.length = m) (hsl : Sl w A c news) (h1 : ∀ u ∈ news, u.oneCell' = true)
    (hbytes : (n + m) * bytes ≤ 140737488355328) (h63 : n + m ≤ maxLen) (hbase : base ≤ w.heap.size)
    (hK : ∀ v' w', w'.ownsRow base e 1 v' (n + m) (xs ++ news) → w.grownBy w' v.ownBlock → (∀ k, v'.ownBlock = some k → v.ownBlock = some k ∨ w.heap.size ≤ k) → wpList P ops Q rest (a.put o.dst v') w') :
    wpList P ops Q (o :: rest) a w := by
  refine wpList_plain hg fun K hK' => ?_
  obtain ⟨v', w', hrun, h2, h3, h4⟩ := run_append_sl (P := P) w base t o.type e i z bytes ht hi hz hsize hby hzs v n xs hown A m c news hm hsl h1 hbytes h63 hbase
  unfold Oper.wp
  simp [execOp, hop, resolve, invoke, builtin, hs, hx, hrun, Result.andThen]
  exact hK' _ _ (hK v' w' h2 h3 h4)

/-- The same as one step of a region that draws its order. -/
theorem step_append_sl (w : World) {ops : Array Oper} {o : Oper} {a : Act} {K : Act → World → Prop} {Q : Exit → Act → World → Prop} {E : Prop}
    (hg : o.guard = none) (s x : Operand) (t : TypeId) (hop : o.op = Op.call { callee := Callee.builtin Builtin.append, args := #[s, x], argTypes := #[t, t] })
    (base : Nat) (e : TypeId) (i : TypeInfo) (z : Value) (bytes : Nat) (ht : P.underlying t = some (.slice e)) (hi : P.info? e = some i) (hz : i.zero = some z)
    (hsize : i.size = 1) (hby : i.bytes = bytes) (hzs : z.cells.size = 1)
    (v : Value) (n : Nat) (xs : List Value) (hs : a.eval s = v) (hown : w.ownsRow base e 1 v n xs)
    (A : Option Addr) (m c : Nat) (news : List Value) (hx : a.eval x = .slice A m c) (hm : news.length = m) (hsl : Sl w A c news) (h1 : ∀ u ∈ news, u.oneCell' = true)
    (hbytes : (n + m) * bytes ≤ 140737488355328) (h63 : n + m ≤ maxLen) (hbase : base ≤ w.heap.size)
    (hK : ∀ v' w', w'.ownsRow base e 1 v' (n + m) (xs ++ news) → w.grownBy w' v.ownBlock → (∀ k, v'.ownBlock = some k → v.ownBlock = some k ∨ w.heap.size ≤ k) → K (a.put o.dst v') w') :
    if Region.wanted o (yielded ops a.tmps) = true then Oper.wp P o a w K Q else E := by
  have hw : Region.wanted o (yielded ops a.tmps) = true := by simp [Region.wanted, hg]
  rw [if_pos hw]
  obtain ⟨v', w', hrun, h2, h3, h4⟩ := run_append_sl (P := P) w base t o.type e i z bytes ht hi hz hsize hby hzs v n xs hown A m c news hm hsl h1 hbytes h63 hbase
  unfold Oper.wp
  simp [execOp, hop, resolve, invoke, builtin, hs, hx, hrun, Result.andThen]
  exact hK _ _ h2 h3 h4
end

/-! An append onto a slice without room and without elements. -/
def Fresh (w : World) (A : Option Addr) (xs : List Value) : Prop := xs = [] ∨ ∀ a, A = some a → w.heap.size ≤ a.block
theorem Fresh.off {S : Nat → Prop} {w : World} {A : Option Addr} {xs : List Value} (h : Fresh w A xs) (hne : xs ≠ []) (hS : ∀ k, S k → k < w.heap.size) : Off S A := by
  intro a ha hs
  rcases h with h | h
  · exact hne h
  · have := h a ha; have := hS _ hs; omega
theorem Sl.mods' {S : Nat → Prop} {w w' : World} {A : Option Addr} {c : Nat} {xs : List Value} (h : Sl w A c xs) (hm : Mods S w w') (hA : xs ≠ [] → Off S A) : Sl w' A c xs := by
  by_cases hx : xs = []
  · exact ⟨h.le, h.max, h.nil, .inl hx⟩
  · exact h.mods hm (hA hx)
theorem Sl.old {w : World} {A : Option Addr} {c : Nat} {xs : List Value} (h : Sl w A c xs) (hx : xs ≠ []) : ∀ a, A = some a → a.block < w.heap.size := by
  intro a ha
  have hne : 0 < xs.length := List.length_pos_iff.2 hx
  obtain ⟨b, off, hA, hlt, _⟩ := h.at_ hne
  rw [hA] at ha
  injection ha with ha
  subst ha
  exact hlt
theorem run_append_zero {P : Program} (w : World) (t ty e : TypeId) (i : TypeInfo) (z : Value) (bytes : Nat) (ht : P.underlying t = some (.slice e)) (hi : P.info? e = some i) (hz : i.zero = some z)
    (hsize : i.size = 1) (hby : i.bytes = bytes) (hzs : z.cells.size = 1) (A0 : Option Addr)
    (A : Option Addr) (m c : Nat) (news : List Value) (hm : news.length = m) (hsl : Sl w A c news) (h1 : ∀ u ∈ news, u.oneCell' = true)
    (hbytes : m * bytes ≤ 140737488355328) :
    ∃ A' c' w', (Builtin.append_ #[t, t] ty #[.slice A0 0 0, .slice A m c]).run P w = .ok (.slice A' m c') w' ∧ Sl w' A' c' news ∧ Mods Nil w w' ∧ Fresh w A' news := by
  subst hm
  by_cases hne : news.length = 0
  · obtain rfl : news = [] := List.eq_nil_of_length_eq_zero hne
    refine ⟨A0, 0, w, ?_, ⟨Nat.le_refl _, Nat.zero_le _, fun _ => rfl, .inl rfl⟩, Mods.refl _ _, .inl rfl⟩
    cases A0 <;> cases A <;> simp [Builtin.append_, run_underlying ht, sizeOf, typeInfo, hi, Builtin.lenOf, Builtin.firstCells, loadCells, loadCellsFrom, storeCells]
  · obtain ⟨b, off, rfl, _, hc⟩ := hsl.at_ (by omega)
    have hc' : ∀ j u, news[j]? = some u → w.cell? ((⟨b, off, none⟩ : Addr).add j) = some u := fun j u hu => by rw [Addr.add_lit]; exact hc j u hu
    have hmx : news.length ≤ maxLen := Nat.le_trans hsl.le hsl.max
    have fin : ∀ v' w', w'.ownsRow w.heap.size e 1 v' (0 + news.length) ([] ++ news) → w.grownBy w' none → ∃ A' c', v' = .slice A' news.length c' ∧ Sl w' A' c' news ∧ Mods Nil w w' ∧ Fresh w A' news := by
      intro v' w' ho hg
      simp only [Nat.zero_add, List.nil_append] at ho
      obtain ⟨A', c', rfl, _, hs, hb⟩ := own_slice ho
      exact ⟨A', c', rfl, hs, (Mods.refl _ _).grown hg (fun k hk => by cases hk), .inr (fun a ha => (hb a ha).2)⟩
    cases A0 with
    | some a0 =>
      obtain ⟨v', w', hr, ho, hg⟩ := run_append_arg_grows (P := P) w t ty e i z 1 bytes ht hi hz hsize hby hzs (by omega) a0 0 0 [] (by simp) (by simp) ⟨b, off, none⟩ news.length c news (by simp) hc' (by omega) (by omega) (by simpa using hbytes)
      obtain ⟨A', c', rfl, h5, h6, h7⟩ := fin v' w' ho hg
      exact ⟨A', c', w', hr, h5, h6, h7⟩
    | none =>
      obtain ⟨v', w', hr, ho, hg, _⟩ := run_append_own (P := P) w w.heap.size t ty e i z 1 bytes ht hi hz hsize hby hzs (by omega) (.slice none 0 0) 0 [] (World.ownsRow_nil w _ e 1) ⟨b, off, none⟩ news.length c news (by simp) hc' h1 (by omega) (by simpa using hbytes) (Nat.le_refl _)
      obtain ⟨A', c', rfl, h5, h6, h7⟩ := fin v' w' ho hg
      exact ⟨A', c', w', hr, h5, h6, h7⟩
theorem wpList_append_zero {P : Program} (w : World) {ops : Array Oper} {rest : List Oper} {o : Oper} {a : Act} {Q : Exit → Act → World → Prop}
    (hg : o.guard = none) (s x : Operand) (t : TypeId) (hop : o.op = Op.call { callee := Callee.builtin Builtin.append, args := #[s, x], argTypes := #[t, t] })
    (e : TypeId) (i : TypeInfo) (z : Value) (bytes : Nat) (ht : P.underlying t = some (.slice e)) (hi : P.info? e = some i) (hz : i.zero = some z)
    (hsize : i.size = 1) (hby : i.bytes = bytes) (hzs : z.cells.size = 1) (A0 : Option Addr) (hs : a.eval s = .slice A0 0 0)
    (A : Option Addr) (m c : Nat) (news : List Value) (hx : a.eval x = .slice A m c) (hm : news.length = m) (hsl : Sl w A c news) (h1 : ∀ u ∈ news, u.oneCell' = true)
    (hbytes : m * bytes ≤ 140737488355328)
    (hK : ∀ A' c' w', Sl w' A' c' news → Mods Nil w w' → Fresh w A' news → wpList P ops Q rest (a.put o.dst (.slice A' m c')) w') :
    wpList P ops Q (o :: rest) a w := by
  refine wpList_plain hg fun K hK' => ?_
  obtain ⟨A', c', w', hrun, h2, h3, h4⟩ := run_append_zero (P := P) w t o.type e i z bytes ht hi hz hsize hby hzs A0 A m c news hm hsl h1 hbytes
  unfold Oper.wp
  simp [execOp, hop, resolve, invoke, builtin, hs, hx, hrun, Result.andThen]
  exact hK' _ _ (hK A' c' w' h2 h3 h4)

/-! Bytes. -/
def bts (xs : List UInt8) : List Value := xs.map fun b => Value.int .u8 (b.toNat : Int)
@[simp] theorem bts_length (xs : List UInt8) : (bts xs).length = xs.length := by simp [bts]
theorem bts_append (xs ys : List UInt8) : bts (xs ++ ys) = bts xs ++ bts ys := by simp [bts]
theorem bts_take (xs : List UInt8) (k : Nat) : (bts xs).take k = bts (xs.take k) := by simp [bts]
theorem bts_drop (xs : List UInt8) (k : Nat) : (bts xs).drop k = bts (xs.drop k) := by simp [bts]
theorem bts_get (xs : List UInt8) (j : Nat) (h : j < xs.length) : (bts xs)[j]? = some (.int .u8 (xs[j].toNat : Int)) := by simp [bts, h]
theorem bts_one (xs : List UInt8) : ∀ u ∈ bts xs, u.oneCell' = true := by
  intro u hu
  simp [bts] at hu
  obtain ⟨a, _, rfl⟩ := hu
  rfl
def strOf (xs : List UInt8) : ByteArray := ⟨xs.toArray⟩
@[simp] theorem strOf_size (xs : List UInt8) : (strOf xs).size = xs.length := by simp [strOf, ByteArray.size]
theorem strOf_toList (xs : List UInt8) : (strOf xs).toList = xs := by rw [ByteArray.toList_eq]; simp [strOf]
theorem strOfNums_bytes (xs : List UInt8) : strOfNums (xs.map fun b => (b.toNat : Int)) = strOf xs := by
  simp [strOfNums, strOf, Function.comp_def]
theorem run_string_sl {P : Program} (w : World) (src e : TypeId) (hs : P.underlying src = some (.slice e)) (he : P.underlying e = some (.int .u8)) (A : Option Addr) (n c : Nat) (xs : List UInt8) (hn : xs.length = n) (hsl : Sl w A c (bts xs)) :
    ∀ dst, P.underlying dst = some .string → (convert src dst (.slice A n c)).run P w = .ok (.string (strOf xs)) w := by
  intro dst hd
  subst hn
  by_cases h0 : 0 < xs.length
  · obtain ⟨b, off, rfl, _, hc⟩ := hsl.at_ (by simpa using h0)
    have := run_convert_bytes_arg w src e hs he b off xs.length c (xs.map fun b => (b.toNat : Int)) (by simp) (fun i hi => by rw [hc i _ (bts_get xs i hi)]; simp [List.getD, hi]) dst hd
    rwa [strOfNums_bytes] at this
  · obtain rfl : xs = [] := List.eq_nil_of_length_eq_zero (by omega)
    rw [run_convert_bytes_string w src dst e _ _ c hs he hd]
    have : (strOf []) = ByteArray.empty := rfl
    rw [this]
    cases A with
    | none => simp [Conv.bytesToString]
    | some a =>
      have hb := run_bytesToString (P := P) w a 0 c [] (by simp [loadCells, loadCellsFrom])
      simpa using hb
end Go.Proofs.Ytpabbhhaagfoeaa
end

section
/- Plain laws on strings, boxes of two cells and new blocks, at this seat's types. -/
namespace Go.Proofs.Ytpabbhhaagfoeaa
set_option maxRecDepth 100000
open Go.RowKit

theorem infoByte : (Try.prog.info? 5).map (fun i => (i.zero, i.size, i.bytes)) = some (some (.int .u8 0), 1, 1) := by kernel_rfl
theorem take_snoc' (l : List UInt8) (k : Nat) (h : k < l.length) : l.take (k + 1) = l.take k ++ [l[k]] := by
  rw [List.take_succ_eq_append_getElem h]
theorem one_sl (w : World) (u : Value) (t : TypeId) : Sl (w.alloc (.cells #[u] t)) (some ⟨w.heap.size, 0, none⟩) 1 [u] := by
  refine ⟨Nat.le_refl _, by unfold maxLen; omega, (fun h => by cases h), .inr ⟨w.heap.size, 0, rfl, fun j u' hu => ?_⟩⟩
  have hb := (Blk.new w t #[u]).cell (0 + j)
  rw [hb]
  match j, hu with
  | 0, hu => simpa using hu
theorem grown_of_drew {w w' : World} {r : Option Nat} (h : w.drew.grownBy w' r) : w.grownBy w' r := ⟨h.os, h.tape, h.output, h.size, h.block⟩
theorem ofNat_toNat (n : Nat) (h : n < 256) : ((UInt8.ofNat n).toNat : Int) = (n : Int) := by simp; omega
theorem byte_at (x p : Nat) : IntKind.u8.wrap ((x : Int) / 2 ^ (8 * (p : Int)).toNat) = ((UInt8.ofNat (x / 256 ^ p % 256)).toNat : Int) := by
  have e0 : (8 * (p : Int)).toNat = 8 * p := by omega
  have e1 : (2 : Int) ^ (8 * p) = ((256 ^ p : Nat) : Int) := by rw [Int.pow_mul]; simp
  rw [IntKind.wrap_u8', e0, e1, ← Int.natCast_ediv, ofNat_toNat _ (Nat.mod_lt _ (by omega))]
  generalize x / 256 ^ p = z
  omega
theorem Mods.nil_trans {T : Nat → Prop} {w w1 w2 : World} (h : Mods Nil w w1) (k : Mods T w1 w2) (hT : ∀ i, T i → w.heap.size ≤ i) : Mods Nil w w2 :=
  h.trans2 k (fun i hi ht => by have := hT i ht; omega)
theorem Mods.nil_below {w w' : World} (h : Mods Nil w w') : Below w.heap.size w w' := h.below (fun _ h => h.elim) (Nat.le_refl _)
theorem Mods.of_below {w w' : World} (h : Below w.heap.size w w') : Mods Nil w w' := ⟨h.os, h.tape, h.output, h.size, fun k hk _ => h.block k hk⟩
/-- A new block of cells, as a slice. -/
theorem build_sl (w : World) (cs : Array Value) (t : TypeId) (fr : Nat × Nat) (hm : cs.size ≤ maxLen) : Sl (w.alloc (.cells cs t fr)) (some ⟨w.heap.size, 0, none⟩) cs.size cs.toList := by
  refine ⟨by simp, hm, (fun h => by cases h), .inr ⟨w.heap.size, 0, rfl, fun j u hu => ?_⟩⟩
  rw [World.cell?_alloc_mark]
  simpa using hu
theorem strOf_append (xs ys : List UInt8) : strOf xs ++ strOf ys = strOf (xs ++ ys) := by
  unfold strOf
  exact ByteArray.mk_append_mk xs ys
theorem string_add (P : Program) (xs ys : List UInt8) (h : xs.length + ys.length ≤ 9223372036854775807) (w : World) : (Op.stringOp .add (strOf xs) (strOf ys)).run P w = .ok (.string (strOf (xs ++ ys))) w := by
  rw [run_string_add_sum w _ _ (by simpa using h), strOf_append]
/-- A new block of one byte reads as a text. -/
theorem one_string (w : World) (z : Int) (y : UInt8) (hz : z = (y.toNat : Int)) (fr : Nat × Nat) : (convert 34 9 (.slice (some ⟨w.heap.size, 0, none⟩) 1 1)).run Try.prog (w.alloc (.cells #[.int .u8 z] 5 fr)) = .ok (.string (strOf [y])) (w.alloc (.cells #[.int .u8 z] 5 fr)) := by
  subst hz
  exact run_string_sl _ 34 5 Try.underlying34 Try.underlying5 _ 1 1 [y] rfl (build_sl w #[.int .u8 (y.toNat : Int)] 5 fr (by simp [maxLen])) 9 Try.underlying9
theorem one_string_later {w w' : World} (z : Int) (y : UInt8) (hz : z = (y.toNat : Int)) (fr : Nat × Nat) (hm : Mods Nil (w.alloc (.cells #[.int .u8 z] 5 fr)) w') : (convert 34 9 (.slice (some ⟨w.heap.size, 0, none⟩) 1 1)).run Try.prog w' = .ok (.string (strOf [y])) w' := by
  subst hz
  exact run_string_sl _ 34 5 Try.underlying34 Try.underlying5 _ 1 1 [y] rfl ((build_sl w #[.int .u8 (y.toNat : Int)] 5 fr (by simp [maxLen])).mods hm (fun _ _ h => h)) 9 Try.underlying9
theorem strOf_extract (xs : List UInt8) (a b : Nat) : (strOf xs).extract a b = strOf ((xs.drop a).take (b - a)) := ByteArray.extract_mk xs a b
theorem index_strOf (w : World) (xs : List UInt8) (i : Nat) (h : i < xs.length) : (Instr.index 9 (.string (strOf xs)) (.int .i64 (i : Int))).run Try.prog w = .ok (.int .u8 (xs[i].toNat : Int)) w := by
  rw [run_index_string w _ _ _ _ Try.underlying9, dif_pos (by simp; omega)]
  congr 3
theorem two_boxes {w w' : World} {t t' : TypeId} {a b c d : Value} (hm : Mods Nil ((w.alloc (.cells #[a, b] t)).alloc (.cells #[c, d] t')) w') :
    Blk w' w.heap.size t #[a, b] ∧ Blk w' (w.heap.size + 1) t' #[c, d] := by
  have h1 := ((Blk.new w t #[a, b]).alloc (.cells #[c, d] t')).mods hm (fun h => h)
  have h2 := (Blk.new (w.alloc (.cells #[a, b] t)) t' #[c, d]).mods hm (fun h => h)
  simp at h2
  exact ⟨h1, h2⟩
theorem Blk.two {w : World} {g : Nat} {t : TypeId} {a b : Value} (h : Blk w g t #[a, b]) : w.cell? ⟨g, 0, none⟩ = some a ∧ w.cell? ⟨g, 1, none⟩ = some b ∧ w.frozen? ⟨g, 0, none⟩ = false ∧ w.frozen? ⟨g, 1, none⟩ = false :=
  ⟨by simpa using h.cell 0, by simpa using h.cell 1, h.frozen 0, h.frozen 1⟩
theorem set_both {w : World} {g g' : Nat} {t t' : TypeId} {a b c d : Value} (hA : Blk w g t #[a, b]) (hB : Blk w g' t' #[c, d]) (hne : g' ≠ g) (x y : Value) :
    Blk ((w.setCell ⟨g, 0, none⟩ x).setCell ⟨g, 1, none⟩ y) g t #[x, y] ∧ Blk ((w.setCell ⟨g, 0, none⟩ x).setCell ⟨g, 1, none⟩ y) g' t' #[c, d] := by
  refine ⟨?_, (hB.far hne _).far hne _⟩
  have := (hA.set_ 0 x).set_ 1 y
  simpa using this
theorem set_one {w : World} {g : Nat} {t : TypeId} {a b : Value} (hA : Blk w g t #[a, b]) (x y : Value) : Blk ((w.setCell ⟨g, 0, none⟩ x).setCell ⟨g, 1, none⟩ y) g t #[x, y] := by
  have := (hA.set_ 0 x).set_ 1 y
  simpa using this
theorem set_second {w : World} {g g' : Nat} {t t' : TypeId} {a b c d : Value} (hA : Blk w g t #[a, b]) (hB : Blk w g' t' #[c, d]) (hne : g' ≠ g) (y : Value) :
    Blk (w.setCell ⟨g, 1, none⟩ y) g t #[a, y] ∧ Blk (w.setCell ⟨g, 1, none⟩ y) g' t' #[c, d] := by
  refine ⟨?_, hB.far hne _⟩
  have := hA.set_ 1 y
  simpa using this
theorem Mods.setNew {S : Nat → Prop} {w w' : World} (h : Mods S w w') {p : Addr} (hp : w.heap.size ≤ p.block) (u : Value) : Mods S w (w'.setCell p u) := h.setCell (fun hlt => absurd hlt (by omega)) u
/-! Whole blocks. -/
theorem Mods.setRow {S : Nat → Prop} {w w' : World} (h : Mods S w w') {g : Nat} (hg : g < w.heap.size → S g) (cs : Array Value) : Mods S w (w'.setRow g cs) :=
  h.trans2 (T := (· = g)) ⟨rfl, rfl, rfl, by simp [World.setRow], fun k _ hn => setRow_other w' g k cs hn⟩ (fun _ hi e => by subst e; exact hg hi)
theorem Blk.setRow {w : World} {g : Nat} {t : TypeId} {old : Array Value} (h : Blk w g t old) (cs : Array Value) : Blk (w.setRow g cs) g t cs := setRow_heap w g old cs t (0, 0) h
theorem Blk.setRow_far {w : World} {g : Nat} {t : TypeId} {cs : Array Value} (h : Blk w g t cs) {k : Nat} (hk : g ≠ k) (new : Array Value) : Blk (w.setRow k new) g t cs := (setRow_other w k g new hk).trans h
/-- The store of a whole array, as a walk leaves it. -/
theorem run_storeCells_blk {P : Program} {w : World} {g : Nat} {t : TypeId} {old new : Array Value} (h : Blk w g t old) (hs : new.size = old.size) (h1 : new.all (·.oneCell') = true) :
    (storeCells ⟨g, 0, none⟩ new.toList 0).run P w = .ok () (w.setRow g new) := by
  have := run_storeCells_from (P := P) g t new.toList 0 old w h (by simp [hs]) (fun v hv => by
    rw [Array.all_eq_true] at h1
    obtain ⟨i, hi, rfl⟩ := List.getElem_of_mem hv
    simpa using h1 i (by simpa using hi))
  simpa using this
end Go.Proofs.Ytpabbhhaagfoeaa
end

section
/- Plain laws more: new blocks as slices, their place named. -/
namespace Go.Proofs.Ytpabbhhaagfoeaa
set_option maxRecDepth 100000
open Go.RowKit

/-- A new block of cells as a slice, its place named. -/
theorem build_at {w : World} {cs : Array Value} {t : TypeId} {g n : Nat} {xs : List Value} {fr : Nat × Nat} (hg : g = w.heap.size) (hc : cs.toList = xs) (hn : xs.length = n) (hm : n ≤ maxLen) : Sl (w.alloc (.cells cs t fr)) (some ⟨g, 0, none⟩) n xs := by
  subst hg; subst hc; subst hn
  simpa using build_sl w cs t fr (by simpa using hm)

/-- One element of a row of the call's own is another one. -/
theorem own_set {w : World} {base n : Nat} {e : TypeId} {v : Value} {xs : List Value} (h : w.ownsRow base e 1 v n xs) {k : Nat} (hk : k < n) :
    ∃ g cap, v = .slice (some ⟨g, 0, none⟩) n cap ∧ n ≤ cap ∧ cap ≤ maxLen ∧ base ≤ g ∧ g < w.heap.size ∧ w.frozen? ⟨g, k, none⟩ = false ∧ (∀ u, xs[k]? = some u → w.cell? ⟨g, k, none⟩ = some u) ∧
      ∀ u, (w.setCell ⟨g, k, none⟩ u).ownsRow base e 1 v n (xs.set k u) := by
  have hl := h.1
  have hcells := fun g hg j u hu => h.cells (g := g) hg j u hu
  rcases h.2 with ⟨rfl, rfl⟩ | ⟨g, cap, cur, rfl, hb, hgg, h1, h2, h3, h4⟩
  · simp at hl; omega
  · have hB : Blk w g e cur := hgg
    refine ⟨g, cap, rfl, h1, h2, hb, hB.lt, hB.frozen k, fun u hu => ?_, fun u => ⟨by simpa using hl, .inr ⟨g, cap, cur.setIfInBounds k u, rfl, hb, hB.set_ k u, h1, h2, by simpa using h3, ?_⟩⟩⟩
    · have := hcells g rfl k u hu
      rwa [Addr.add_lit, Nat.zero_add] at this
    · simp only [Array.toList_setIfInBounds, List.take_set, h4]
end Go.Proofs.Ytpabbhhaagfoeaa
end
