/- Rows of lengths of the call's own: a row of structs of two cells, whose lengths lie elsewhere. No program. -/
import Derived.Test.YtkodmgnagfolpaaRef10a
import Derived.Test.YtkodmgnagfolpaaMemX
import Derived.Maps.AppendAt
namespace Go.Proofs.Ytkodmgnagfolpaa
set_option maxRecDepth 100000
open Go.RowKit
set_option linter.unusedVariables false
set_option linter.unusedSimpArgs false

def rcs : List RowP → List Value
  | [] => []
  | q :: L => .int .i64 q.shard :: .slice q.A q.lens.length q.cap :: rcs L
theorem rcs_append : ∀ L M, rcs (L ++ M) = rcs L ++ rcs M
  | [], _ => rfl
  | q :: L, M => by simp [rcs, rcs_append L M]
theorem rcs_len : ∀ L, (rcs L).length = L.length * 2
  | [] => rfl
  | q :: L => by simp [rcs, rcs_len L]; omega
theorem rcs_get : ∀ (L : List RowP) (i : Nat) (q : RowP), L[i]? = some q → (rcs L)[i * 2]? = some (.int .i64 q.shard) ∧ (rcs L)[i * 2 + 1]? = some (.slice q.A q.lens.length q.cap)
  | [], i, q, h => by simp at h
  | p :: L, 0, q, h => by simp at h; subst h; simp [rcs]
  | p :: L, i + 1, q, h => by
    have ih := rcs_get L i q (by simpa using h)
    rw [show (i + 1) * 2 = i * 2 + 1 + 1 by omega, show i * 2 + 1 + 1 + 1 = (i * 2 + 1) + 1 + 1 by omega]
    simpa [rcs] using ih
/-- Where a row's lengths lie. -/
def RowP.off (S : Nat → Prop) (q : RowP) : Prop := nums q.lens ≠ [] → ∀ a, q.A = some a → ¬ S a.block
structure OwnR (t : TypeId) (B : Nat) (W : World) (v : Value) (L : List RowP) : Prop where
  own : W.ownsRow B t 2 v L.length (rcs L)
  lens : ∀ q ∈ L, Sl W q.A q.cap (nums q.lens)
  lt : ∀ q ∈ L, ∀ x ∈ q.lens, x < 18446744073709551616
  sh : ∀ q ∈ L, -9223372036854775808 ≤ q.shard ∧ q.shard ≤ 9223372036854775807
  off : ∀ q ∈ L, q.off (fun k => v.ownBlock = some k)
theorem OwnR.nil (t : TypeId) (B : Nat) (W : World) : OwnR t B W (.slice none 0 0) [] :=
  ⟨World.ownsRow_nil _ _ _ _, by simp, by simp, by simp, by simp⟩
theorem OwnR.mods {S : Nat → Prop} {t : TypeId} {B : Nat} {W W' : World} {v : Value} {L : List RowP} (h : OwnR t B W v L) (hm : Mods S W W') (h1 : ∀ k, v.ownBlock = some k → ¬ S k) (h2 : ∀ q ∈ L, q.off S) : OwnR t B W' v L :=
  ⟨own_mods h.own hm h1, fun q hq => (h.lens q hq).mods' hm (fun hne a ha => h2 q hq hne a ha), h.lt, h.sh, h.off⟩
theorem OwnR.nilm {t : TypeId} {B : Nat} {W W' : World} {v : Value} {L : List RowP} (h : OwnR t B W v L) (hm : Mods Nil W W') : OwnR t B W' v L :=
  h.mods hm (fun _ _ h => h) (fun _ _ _ _ _ h => h)
/-- One row more. -/
theorem OwnR.push {t : TypeId} {B : Nat} {W W1 W2 : World} {v v' : Value} {L : List RowP} {q : RowP} (h : OwnR t B W v L) (hq : Sl W q.A q.cap (nums q.lens)) (hx : ∀ x ∈ q.lens, x < 18446744073709551616) (hs : -9223372036854775808 ≤ q.shard ∧ q.shard ≤ 9223372036854775807)
    (ho : q.off (fun k => v.ownBlock = some k)) (hm : Mods Nil W W1) (hown : W2.ownsRow B t 2 v' (L.length + 1) (rcs L ++ [.int .i64 q.shard, .slice q.A q.lens.length q.cap])) (hg : W1.grownBy W2 v.ownBlock) (hv : v'.ownBlock = v.ownBlock ∨ v'.ownBlock = some W1.heap.size) : OwnR t B W2 v' (L ++ [q]) := by
  have hg2 : Mods (fun k => v.ownBlock = some k) W W2 := (hm.mono (fun _ _ h => h.elim)).grown hg (fun k hk _ => hk)
  have hall : ∀ r ∈ L ++ [q], Sl W r.A r.cap (nums r.lens) ∧ r.off (fun k => v.ownBlock = some k) := fun r hr => by
    rcases List.mem_append.1 hr with hr | hr
    · exact ⟨h.lens r hr, h.off r hr⟩
    · rw [List.mem_singleton.1 hr]; exact ⟨hq, ho⟩
  refine ⟨?_, ?_, ?_, ?_, ?_⟩
  · rw [rcs_append, List.length_append]; exact hown
  · intro r hr; exact (hall r hr).1.mods' hg2 (fun hne a ha => (hall r hr).2 hne a ha)
  · intro r hr
    rcases List.mem_append.1 hr with hr | hr
    · exact h.lt r hr
    · rw [List.mem_singleton.1 hr]; exact hx
  · intro r hr
    rcases List.mem_append.1 hr with hr | hr
    · exact h.sh r hr
    · rw [List.mem_singleton.1 hr]; exact hs
  · intro r hr hne a ha hk
    have h1 := (hall r hr).2 hne a ha
    have h2 := (hall r hr).1.old hne a ha
    rcases hv with hv | hv
    · rw [hv] at hk; exact h1 hk
    · rw [hv] at hk
      injection hk with hk
      have := hm.size
      omega
/-- Rows that lie at B or behind. -/
def Rfar (B : Nat) (A : Option Addr) (L : List RowP) : Prop := (L ≠ [] → ∀ a, A = some a → B ≤ a.block) ∧ ∀ q ∈ L, q.off (fun k => k < B)
theorem OwnR.rws {t : TypeId} {B : Nat} {W : World} {v : Value} {L : List RowP} (h : OwnR t B W v L) : ∃ A c, v = .slice A L.length c ∧ Rws W A L.length c L ∧ ((∀ q ∈ L, q.off (fun k => k < B)) → Rfar B A L) := by
  have hgood : ∀ x ∈ L.map RowP.fv, x.map Fv.kind = [.int .i64, .u64s] ∧ ∀ v ∈ x, v.good W := by
    intro x hx
    obtain ⟨q, hq, rfl⟩ := List.mem_map.1 hx
    refine ⟨rfl, fun u hu => ?_⟩
    simp only [RowP.fv, List.mem_cons, List.not_mem_nil, or_false] at hu
    rcases hu with rfl | rfl
    · show (Lit.int .i64 q.shard).wf = true
      have := h.sh q hq
      simp only [Lit.wf, Bool.and_eq_true, decide_eq_true_eq]
      have g1 : IntKind.i64.min = -9223372036854775808 := by decide
      have g2 : IntKind.i64.max = 9223372036854775807 := by decide
      omega
    · exact ⟨h.lens q hq, h.lt q hq⟩
  rcases h.own.2 with ⟨rfl, hn⟩ | ⟨g, cap, cur, rfl, hb, hgg, h1, h2, h3, h4⟩
  · obtain rfl : L = [] := List.eq_nil_of_length_eq_zero hn
    exact ⟨none, 0, rfl, ⟨rfl, Nat.le_refl _, Nat.zero_le _, fun h => by simp at h, by simp⟩, fun _ => ⟨by simp, by simp⟩⟩
  · have hblk : Blk W g t cur := hgg
    refine ⟨some ⟨g, 0, none⟩, cap, rfl, ⟨by simp, h1, h2, fun _ => ⟨g, 0, rfl, hblk.lt, fun i x hx j u hu => ?_⟩, hgood⟩, fun ho => ⟨fun _ a ha => by injection ha with ha; subst ha; exact hb, ho⟩⟩
    obtain ⟨q, hq, rfl⟩ : ∃ q, L[i]? = some q ∧ q.fv = x := by simpa using hx
    have hi : i < L.length := (List.getElem?_eq_some_iff.1 hq).1
    obtain ⟨g0, g1⟩ := rcs_get L i q hq
    rw [Nat.zero_add, hblk.cell]
    have hget : ∀ k, k < L.length * 2 → cur[k]? = (rcs L)[k]? := fun k hk => by
      rw [← h4, List.getElem?_take, if_pos hk, Array.getElem?_toList]
    simp only [List.length_cons, List.length_nil, Nat.zero_add, Nat.reduceAdd]
    match j, hu with
    | 0, hu => simp [RowP.fv] at hu; subst hu; rw [Nat.add_zero, hget _ (by omega), g0]; rfl
    | 1, hu => simp [RowP.fv] at hu; subst hu; rw [hget _ (by omega), g1]; rfl
theorem Rws.modsB {S : Nat → Prop} {B : Nat} {w w' : World} {A : Option Addr} {n c : Nat} {L : List RowP} (h : Rws w A n c L) (hf : Rfar B A L) (hm : Mods S w w') (hS : ∀ i, S i → i < B) : Rws w' A n c L := by
  refine ⟨h.size, h.le, h.most, fun h0 => ?_, fun x hx => ⟨(h.good x hx).1, fun u hu => ?_⟩⟩
  · obtain ⟨b, off, e, hlt, hc⟩ := h.cells h0
    have hne : L ≠ [] := fun e => by have := h.len; subst e; simp at this; omega
    have hb := hf.1 hne _ e
    exact ⟨b, off, e, Nat.lt_of_lt_of_le hlt hm.size, fun i x hx j v hv => (World.cell?_of_block (hm.block b hlt (fun h => by have := hS _ h; simp at hb; omega))).trans (hc i x hx j v hv)⟩
  · obtain ⟨q, hq, rfl⟩ := List.mem_map.1 hx
    have hg := (h.good _ hx).2 u hu
    simp only [RowP.fv, List.mem_cons, List.not_mem_nil, or_false] at hu
    rcases hu with rfl | rfl
    · exact hg
    · exact ⟨hg.1.mods' hm (fun hne a ha hs => hf.2 q hq hne a ha (hS _ hs)), hg.2⟩
theorem own_sl10 {w : World} {base c n : Nat} {e : TypeId} {A : Option Addr} {xs : List Value} (h : w.ownsRow base e 1 (.slice A n c) n xs) : Sl w A c xs := by
  obtain ⟨A', c', e, -, hs, -⟩ := own_slice h
  injection e with e1 e2 e3
  subst e1; subst e3
  exact hs
/-- Two cells of a new block. -/
theorem two_at10 {w : World} {t : TypeId} {x y : Value} {g : Nat} (hg : g = w.heap.size) : ∀ j u, [x, y][j]? = some u → (w.alloc (.cells #[x, y] t)).cell? ((⟨g, 0, none⟩ : Addr).add j) = some u := by
  subst hg
  intro j u hu
  rw [Addr.add_lit, World.cell?_alloc_mark]
  match j, hu with
  | 0, hu => simpa using hu
  | 1, hu => simpa using hu
theorem Rfar.mono {B B' : Nat} {A : Option Addr} {L : List RowP} (h : Rfar B A L) (hb : B' ≤ B) : Rfar B' A L :=
  ⟨fun hne a ha => Nat.le_trans hb (h.1 hne a ha), fun q hq hne a ha hk => h.2 q hq hne a ha (by omega)⟩
theorem Rfar.nil (B : Nat) (A : Option Addr) : Rfar B A [] := ⟨by simp, by simp⟩
theorem Rws.nil (w : World) : Rws w none 0 0 [] := ⟨rfl, Nat.le_refl _, Nat.zero_le _, fun h => by simp at h, by simp⟩
end Go.Proofs.Ytkodmgnagfolpaa
