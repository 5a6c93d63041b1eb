/- LeaderSafe: several acceptors side by side, each with blocks of its own. -/
import Derived.Test.YtfnecjogiafekaaLawM15
import Derived.Test.YtfnecjogiafekaaAccI
namespace Go.Proofs.Ytfnecjogiafekaa
set_option maxRecDepth 100000
open Go.RowKit Go.Maps
set_option linter.unusedVariables false
set_option linter.unusedSimpArgs false
section
variable {V W0 W W' : World} {X S : Nat → Prop} {b T : Nat} {a : PAc}
/-- From an earlier world on. -/
theorem AccS.down (h : AccS V W X b a T) (hm : Mods Nil W0 V) : AccS W0 W (fun k => X k ∨ (W0.heap.size ≤ k ∧ k < V.heap.size)) b a T := by
  obtain ⟨mv, h1, h2⟩ := h.blk
  have hsz := hm.size
  refine ⟨hm.trans h.m, h.rise, h.ok, h.prom, h.len, fun k hk => ?_, Nat.le_trans hsz h.lo, ?_, mv, h1, ?_⟩
  · rcases hk with hk | hk
    · exact h.old k hk
    · exact Nat.lt_of_lt_of_le hk.2 h.m.size
  · rintro (hk | hk)
    · exact h.nx hk
    · have := h.lo; omega
  · rcases h2 with h2 | ⟨mb, n, f, rfl, k1, k2, k3, k4, k5⟩
    · exact .inl h2
    · refine .inr ⟨mb, n, f, rfl, k1, k2, Nat.le_trans hsz k3, ?_, fun s hs => (k5 s hs).mods (Mods.refl Nil W) (fun _ _ h => h) (fun k hk => ⟨Nat.le_trans hsz hk.1, ?_, hk.2.2⟩)⟩
      · rintro (hk | hk)
        · exact k4 hk
        · omega
      · have h9 := hk.1
        rintro (hk2 | hk2)
        · exact hk.2.1 hk2
        · omega
/-- What somebody else wrote lies in X; what he laid is X's from now on. -/
theorem AccS.keep_more (h : AccS W0 W X b a T) (hm : Mods S W W') (hS : ∀ k, k < W.heap.size → S k → X k ∧ W0.heap.size ≤ k) : AccS W0 W' (XN X W W') b a T := by
  obtain ⟨mv, h1, h2⟩ := h.blk
  have hm2 : Mods (fun k => S k ∧ k < W.heap.size) W W' := hm.mono (fun k hk hs => ⟨hs, hk⟩)
  have hold : ∀ k, k < W.heap.size → ¬ X k → ¬ XN X W W' k := fun k hk hx hy => by
    rcases hy with h | h
    · exact hx h
    · omega
  have hno : ∀ k, ¬ X k → ¬ (S k ∧ k < W.heap.size) := fun k hx hs => hx (hS k hs.2 hs.1).1
  refine ⟨h.m.nil_trans hm2 (fun k hk => (hS k hk.2 hk.1).2), h.rise, h.ok, h.prom, h.len, fun k hk => ?_, h.lo, hold _ h1.lt h.nx, mv, h1.mods hm2 (hno _ h.nx), ?_⟩
  · rcases hk with h3 | h3
    · exact Nat.lt_of_lt_of_le (h.old k h3) hm.size
    · exact h3.2
  · rcases h2 with h2 | ⟨mb, n, f, rfl, k1, k2, k3, k4, k5⟩
    · exact .inl h2
    · exact .inr ⟨mb, n, f, rfl, k1.mods hm2 (hno _ k4), k2, k3, hold _ k1.lt k4, fun s hs => (k5 s hs).mods hm2 (fun k hk => hno _ hk.2.1) (fun k hk => ⟨hk.1, hold k hk.2.2.2.2 hk.2.1, hk.2.2.1, hk.2.2.2.1, Nat.lt_of_lt_of_le hk.2.2.2.2 hm.size⟩)⟩
end
/-- An acceptor: its pointer, what it is, its blocks' first place and the place behind them. -/
structure AcE where
  b : Nat
  a : PAc
  lo : Nat
  hi : Nat
def AcE.own (e : AcE) (k : Nat) : Prop := e.lo ≤ k ∧ k < e.hi
/-- All that isn't its own. -/
def AcE.oth (e : AcE) (w1 W : World) (k : Nat) : Prop := (w1.heap.size ≤ k ∧ k < e.lo) ∨ (e.hi ≤ k ∧ k < W.heap.size)
structure AcE.ok (e : AcE) (w1 W : World) : Prop where
  acc : AccS w1 W (e.oth w1 W) e.b e.a 10
  lo : w1.heap.size ≤ e.lo
  le : e.lo ≤ e.hi
  hi : e.hi ≤ W.heap.size
theorem AcE.ok.mods {e : AcE} {w1 W W' : World} {S : Nat → Prop} (h : e.ok w1 W) (hm : Mods S W W') (hS : ∀ k, k < W.heap.size → S k → w1.heap.size ≤ k ∧ ¬ e.own k) : e.ok w1 W' := by
  refine ⟨(h.acc.keep_more hm (fun k hk hs => ?_)).more (Mods.refl _ _) (fun k hk => .inl ?_), h.lo, h.le, Nat.le_trans h.hi hm.size⟩
  · obtain ⟨g1, g2⟩ := hS k hk hs
    refine ⟨?_, g1⟩
    rcases Nat.lt_or_ge k e.lo with h1 | h1
    · exact .inl ⟨g1, h1⟩
    · rcases Nat.lt_or_ge k e.hi with h2 | h2
      · exact absurd ⟨h1, h2⟩ g2
      · exact .inr ⟨h2, hk⟩
  · rcases hk with hk | hk
    · exact .inl (.inl hk)
    · rcases Nat.lt_or_ge k W.heap.size with h1 | h1
      · exact .inl (.inr ⟨hk.1, h1⟩)
      · exact .inr ⟨h1, hk.2⟩
theorem AcE.ok.nil {e : AcE} {w1 W W' : World} (h : e.ok w1 W) (hm : Mods Nil W W') : e.ok w1 W' := h.mods hm (fun _ _ h => h.elim)
/-- Acceptors side by side, in order of their places. -/
structure AcL (w1 W : World) (L : List AcE) : Prop where
  each : ∀ e ∈ L, e.ok w1 W
  apart : L.Pairwise (fun x y => x.hi ≤ y.lo)
theorem AcL.mods {w1 W W' : World} {S : Nat → Prop} {L : List AcE} (h : AcL w1 W L) (hm : Mods S W W') (hS : ∀ e ∈ L, ∀ k, k < W.heap.size → S k → w1.heap.size ≤ k ∧ ¬ e.own k) : AcL w1 W' L :=
  ⟨fun e he => (h.each e he).mods hm (hS e he), h.apart⟩
theorem AcL.nil {w1 W W' : World} {L : List AcE} (h : AcL w1 W L) (hm : Mods Nil W W') : AcL w1 W' L := h.mods hm (fun _ _ _ _ h => h.elim)
theorem AcL.push {w1 W : World} {L : List AcE} {e : AcE} (h : AcL w1 W L) (he : e.ok w1 W) (ha : ∀ x ∈ L, x.hi ≤ e.lo) : AcL w1 W (L ++ [e]) := by
  refine ⟨fun x hx => ?_, List.pairwise_append.2 ⟨h.apart, List.pairwise_singleton _ _, fun x hx y hy => ?_⟩⟩
  · rcases List.mem_append.1 hx with hx | hx
    · exact h.each x hx
    · rw [List.mem_singleton.1 hx]; exact he
  · rw [List.mem_singleton.1 hy]; exact ha x hx
/-- What its own call wrote is none of the others behind it. -/
theorem AcL.after {w1 W W' : World} {L : List AcE} {e : AcE} (h : AcL w1 W (e :: L)) (hm : Mods (AM w1 (e.oth w1 W)) W W') : AcL w1 W' L := by
  have hp := List.pairwise_cons.1 h.apart
  refine AcL.mods ⟨fun x hx => h.each x (by simp [hx]), hp.2⟩ hm (fun x hx k hk hs => ⟨hs.1, fun ho => ?_⟩)
  have h1 := hp.1 x hx
  refine hs.2 (.inr ⟨?_, hk⟩)
  have := ho.1
  omega
/-! Plain. -/
/-- How many of the first n are. -/
def cntF (p : Nat → Bool) : Nat → Nat
  | 0 => 0
  | n + 1 => cntF p n + if p n then 1 else 0
theorem cntF_le (p : Nat → Bool) : ∀ n, cntF p n ≤ n
  | 0 => Nat.le_refl _
  | n + 1 => by
    have := cntF_le p n
    simp only [cntF]
    split <;> omega
theorem cntF_mono (p : Nat → Bool) {i : Nat} : ∀ {n : Nat}, i ≤ n → cntF p i ≤ cntF p n
  | 0, h => by obtain rfl : i = 0 := by omega
               exact Nat.le_refl _
  | n + 1, h => by
    by_cases hi : i = n + 1
    · subst hi; exact Nat.le_refl _
    · have := cntF_mono p (n := n) (by omega : i ≤ n)
      simp only [cntF]
      omega
/-- Two majorities have one in common. -/
theorem cntF_both {p q : Nat → Bool} : ∀ {n : Nat}, (∀ i, i < n → ¬ (p i = true ∧ q i = true)) → cntF p n + cntF q n ≤ n
  | 0, _ => by simp [cntF]
  | n + 1, h => by
    have h1 := cntF_both (fun i hi => h i (by omega)) (n := n)
    have h2 := h n (by omega)
    simp only [cntF]
    cases hp : p n <;> cases hq : q n <;> simp [hp, hq] at h2 ⊢ <;> omega
def lstF (p : Nat → Bool) (n : Nat) : List Nat := (List.range n).filter p
theorem lstF_succ (p : Nat → Bool) (n : Nat) : lstF p (n + 1) = if p n then lstF p n ++ [n] else lstF p n := by
  unfold lstF
  rw [List.range_succ, List.filter_append]
  cases h : p n <;> simp [h]
theorem lstF_len (p : Nat → Bool) : ∀ n, (lstF p n).length = cntF p n
  | 0 => rfl
  | n + 1 => by
    rw [lstF_succ, cntF]
    cases h : p n <;> simp [lstF_len p n]
theorem lstF_mem {p : Nat → Bool} {n i : Nat} : i ∈ lstF p n ↔ i < n ∧ p i = true := by
  unfold lstF
  rw [List.mem_filter, List.mem_range]
/-- What an acceptor is, and what it tells. -/
def sfV (b s : Nat) (val old : List UInt8) (r : Bool) : PVt := if r then ⟨s, b, val⟩ else ⟨s, b - 1, old⟩
def sfA (b s : Nat) (val old : List UInt8) (r : Bool) : PAc := { prom := (sfV b s val old r).bal, L := [sfV b s val old r] }
theorem sf_first (b s : Nat) (val old : List UInt8) : PAc.accept {} ⟨s, b - 1, old⟩ = sfA b s val old false := by
  unfold PAc.accept
  rw [if_neg (Nat.not_lt_zero _), if_neg (Nat.not_lt_zero _)]
  rfl
theorem sf_second {b s : Nat} (hb : 1 ≤ b) (val old : List UInt8) : (sfA b s val old false).accept ⟨s, b, val⟩ = sfA b s val old true ∧ (sfA b s val old false).accE ⟨s, b, val⟩ = 0 := by
  unfold PAc.accept PAc.accE
  have h1 : ¬ b < (sfA b s val old false).prom := by show ¬ b < b - 1; omega
  have h2 : ¬ s < (sfA b s val old false).low := Nat.not_lt_zero _
  rw [if_neg h1, if_neg h2, if_neg h1, if_neg h2]
  refine ⟨?_, rfl⟩
  show ({ prom := b, low := 0, L := insV ⟨s, b, val⟩ ([] ++ [⟨s, b - 1, old⟩]) } : PAc) = _
  rw [insV_same (v := ⟨s, b, val⟩) (x := ⟨s, b - 1, old⟩) (l := []) (fun y hy => by cases hy) rfl]
  rfl
theorem sf_prep {b s : Nat} (val old : List UInt8) (r : Bool) : (sfA b s val old r).prepE (b + 1) = 0 ∧ (sfA b s val old r).told (b + 1) 0 = [sfV b s val old r] := by
  unfold PAc.prepE PAc.told
  have h1 : ¬ b + 1 < (sfA b s val old r).prom := by
    unfold sfA sfV
    cases r
    · show ¬ b + 1 < b - 1; omega
    · show ¬ b + 1 < b; omega
  rw [if_neg h1, if_neg h1, fromV_zero]
  exact ⟨rfl, rfl⟩
/-- What the leader knows behind the promises of a list. -/
def sfK (b s : Nat) (val old : List UInt8) (p : Nat → Bool) (P : List Nat) : List PVt := if P = [] then [] else [sfV b s val old (P.any p)]
theorem sfK_next {b s : Nat} (hb : 1 ≤ b) (val old : List UInt8) (p : Nat → Bool) (P : List Nat) (i : Nat) : noteVs (sfK b s val old p P) [sfV b s val old (p i)] = sfK b s val old p (P ++ [i]) := by
  show noteV _ _ = _
  unfold sfK
  rw [if_neg (by simp : ¬ P ++ [i] = []), List.any_append]
  by_cases hP : P = []
  · subst hP
    rw [if_pos rfl, noteV_none rfl]
    simp
  · rw [if_neg hP]
    have hsl : ∀ r, (sfV b s val old r).slot = s := fun r => by unfold sfV; cases r <;> rfl
    have hi : idxV [sfV b s val old (P.any p)] (sfV b s val old (p i)).slot = some 0 := by
      rw [idxV_cons, hsl, hsl, if_pos rfl]
    cases h1 : P.any p <;> cases h2 : p i
    · rw [h1, h2] at hi
      rw [noteV_same hi rfl (by simp)]
      simp [h2]
    · rw [h1, h2] at hi
      rw [noteV_set hi rfl (by show b - 1 < b; omega)]
      simp [h2]
    · rw [h1, h2] at hi
      rw [noteV_same hi rfl (by show ¬ b < b - 1; omega)]
      simp
    · rw [h1, h2] at hi
      rw [noteV_same hi rfl (by simp)]
      simp
def sfL (n b s : Nat) (val old : List UInt8) (p : Nat → Bool) (P : List Nat) : PLd := { many := n, stage := 1, bal := b + 1, prom := P, known := sfK b s val old p P }
theorem sf_few {n b s : Nat} (hb : 1 ≤ b) {val old : List UInt8} {p : Nat → Bool} {P : List Nat} {i : Nat} (hi : i < n) (hP : i ∉ P) (hl : P.length + 1 ≤ n / 2) :
    (sfL n b s val old p P).promise (i : Int) (b + 1) 0 [sfV b s val old (p i)] = sfL n b s val old p (P ++ [i]) ∧ (sfL n b s val old p P).promB (i : Int) (b + 1) 0 [sfV b s val old (p i)] = false := by
  obtain ⟨h1, _, h3⟩ := promise_few (l := sfL n b s val old p P) (node := (i : Int)) (b := b + 1) (deaf_not rfl rfl (by omega) (by show (i : Int) < (n : Int); omega) (by simpa [sfL] using hP)) hl 0 [sfV b s val old (p i)]
  refine ⟨h1.trans ?_, h3⟩
  show ({ many := n, stage := 1, bal := b + 1, first := 0, prom := P ++ [i], known := noteVs (sfK b s val old p P) [sfV b s val old (p i)] } : PLd) = _
  rw [sfK_next hb]
  rfl
theorem sf_lead {n b s : Nat} (hb : 1 ≤ b) (hs : s ≤ 15) {val old : List UInt8} {p : Nat → Bool} {P : List Nat} {i : Nat} (hi : i < n) (hP : i ∉ P) (hl : n / 2 < P.length + 1) :
    (sfL n b s val old p P).promB (i : Int) (b + 1) 0 [sfV b s val old (p i)] = true ∧ ∃ Q : List PVt, (sfL n b s val old p P).promV (i : Int) (b + 1) 0 [sfV b s val old (p i)] = Q ∧ Q.length = s + 1 ∧ Q[s]? = some ⟨s, b + 1, (sfV b s val old ((P ++ [i]).any p)).val⟩ := by
  have hsl : ∀ r, (sfV b s val old r).slot = s := fun r => by unfold sfV; cases r <;> rfl
  have hk : noteVs (sfK b s val old p P) [sfV b s val old (p i)] = [sfV b s val old ((P ++ [i]).any p)] := by
    rw [sfK_next hb]
    unfold sfK
    rw [if_neg (by simp)]
  obtain ⟨_, h2, h3⟩ := promise_lead (l := sfL n b s val old p P) (node := (i : Int)) (b := b + 1) (low := 0) (vs := [sfV b s val old (p i)]) (deaf_not rfl rfl (by omega) (by show (i : Int) < (n : Int); omega) (by simpa [sfL] using hP)) hl (fun v hv hf => by
    have hv2 : v ∈ noteVs (sfK b s val old p P) [sfV b s val old (p i)] := hv
    rw [hk, List.mem_singleton] at hv2
    have h9 := hf.2
    rw [hv2, hsl] at h9
    omega)
  refine ⟨h3, _, h2, ?_⟩
  have he : endV 0 [sfV b s val old ((P ++ [i]).any p)] = s + 1 := by
    simp only [endV, hsl]
    rw [if_pos (Nat.zero_le _)]
    omega
  have hpr : ((sfL n b s val old p P).note ((i : Int).toNat) 0 [sfV b s val old (p i)]).props = propsTo 0 (b + 1) [sfV b s val old ((P ++ [i]).any p)] (s + 1) := by
    show propsTo 0 (b + 1) (noteVs (sfK b s val old p P) [sfV b s val old (p i)]) (endV 0 (noteVs (sfK b s val old p P) [sfV b s val old (p i)]) - 0) = _
    rw [hk, he]
    rfl
  rw [hpr]
  refine ⟨propsTo_len _ _ _ _, ?_⟩
  unfold propsTo
  rw [List.getElem?_map, List.getElem?_range (by omega), Option.map_some, Nat.zero_add]
  unfold propV
  rw [lookV_cons, hsl, if_pos rfl]
theorem cntF_step (p : Nat → Bool) (a : Nat) : ∀ d, cntF p (a + d) ≤ cntF p a + d
  | 0 => Nat.le_refl _
  | d + 1 => by
    have := cntF_step p a d
    show cntF p (a + d + 1) ≤ _
    simp only [cntF]
    split <;> omega
/-- Who leads heard one that voted, if a majority did. -/
theorem sf_meet {pp pw : Nat → Bool} {n i : Nat} (hi : i < n) (h1 : n / 2 < (lstF pp (i + 1)).length) (h2 : n / 2 < cntF pw n) : (lstF pp (i + 1)).any pw = true := by
  cases h : (lstF pp (i + 1)).any pw with
  | true => rfl
  | false =>
    have h3 : cntF pp (i + 1) + cntF pw (i + 1) ≤ i + 1 := cntF_both (fun j hj ⟨g1, g2⟩ => by
      have h4 := List.any_eq_false.1 h j (lstF_mem.2 ⟨hj, g1⟩)
      exact h4 g2)
    have h5 := cntF_step pw (i + 1) (n - (i + 1))
    rw [show i + 1 + (n - (i + 1)) = n by omega] at h5
    rw [lstF_len] at h1
    omega
end Go.Proofs.Ytfnecjogiafekaa
