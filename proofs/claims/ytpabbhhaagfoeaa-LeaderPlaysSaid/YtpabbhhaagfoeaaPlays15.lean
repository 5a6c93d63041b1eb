/- LeaderPlays: a script's element where it lies; the package's leader and the reference's, side by side. -/
import Derived.Test.YtpabbhhaagfoeaaLawP15
import Derived.Test.YtpabbhhaagfoeaaVotes15
import Derived.Test.YtpabbhhaagfoeaaRef15k
import Derived.Test.YtpabbhhaagfoeaaRef15B
import Derived.Test.YtpabbhhaagfoeaaRef15A
import Derived.Test.YtpabbhhaagfoeaaRef13M
namespace Go.Proofs.Ytpabbhhaagfoeaa
set_option maxRecDepth 100000
open Go.RowKit
set_option linter.unusedVariables false
set_option linter.unusedSimpArgs false

/-- A vote handed in. -/
def VtP.fv15 (q : VtP) : List Fv := [.int .u64 (q.slot : Int), .int .u64 (q.bal : Int), .bytes q.A q.c q.val]
theorem pvs_of_acts15 {W : World} {A : Option Addr} {n c : Nat} {l : List (List Fv)} (h : Acts W A n c [.int .u64, .int .u64, .bytes] l) : ∃ L : List VtP, PVs W (fun _ => True) A c n L := by
  have hex : ∀ l' : List (List Fv), (∀ x ∈ l', x.map Fv.kind = [.int .u64, .int .u64, .bytes] ∧ ∀ v ∈ x, v.good W) → ∃ L : List VtP, l' = L.map VtP.fv15 ∧ ∀ q ∈ L, Sl W q.A q.c (bts q.val) ∧ q.slot < 18446744073709551616 ∧ q.bal < 18446744073709551616 := by
    intro l'
    induction l' with
    | nil => exact fun _ => ⟨[], rfl, fun q h => by cases h⟩
    | cons x l' ih =>
      intro hx
      obtain ⟨L, hL, hg⟩ := ih (fun y hy => hx y (by simp [hy]))
      obtain ⟨hk, hgood⟩ := hx x (by simp)
      match x, hk, hgood with
      | [.int k1 s, .int k2 b, .bytes B cb xs], hk, hgood =>
        simp [Fv.kind] at hk
        obtain ⟨rfl, rfl⟩ := hk
        have g1 : (Lit.int .u64 s).wf = true := hgood (.int .u64 s) (by simp)
        have g2 : (Lit.int .u64 b).wf = true := hgood (.int .u64 b) (by simp)
        have g3 : Sl W B cb (bts xs) := hgood (.bytes B cb xs) (by simp)
        have h1 := u64_of_wf g1
        have h2 := u64_of_wf g2
        refine ⟨⟨s.toNat, b.toNat, B, cb, xs⟩ :: L, ?_, ?_⟩
        · rw [List.map_cons, ← hL]
          congr 1
          unfold VtP.fv15
          rw [show ((s.toNat : Nat) : Int) = s by omega, show ((b.toNat : Nat) : Int) = b by omega]
        · intro q hq
          rcases List.mem_cons.1 hq with rfl | hq
          · exact ⟨g3, by show s.toNat < _; omega, by show b.toNat < _; omega⟩
          · exact hg q hq
  obtain ⟨L, rfl, hg⟩ := hex l h.good
  have hlen : L.length = n := by have := h.size; simpa using this
  refine ⟨L, hlen, ⟨by rw [pvc_length, hlen], h.le, h.most, ?_⟩, fun _ _ _ => trivial, fun q hq => ⟨(hg q hq).1, fun _ _ _ => trivial, (hg q hq).2⟩⟩
  by_cases hn : n = 0
  · exact .inl (List.eq_nil_of_length_eq_zero (by rw [pvc_length, hlen, hn]))
  · obtain ⟨b, off, hA, _, hc⟩ := h.cells (by omega)
    refine .inr ⟨b, off, hA, fun j u hu => ?_⟩
    have hj : j < L.length * 3 := by
      have := (List.getElem?_eq_some_iff.1 hu).1
      rwa [pvc_length] at this
    have hi : j / 3 < L.length := by omega
    obtain ⟨h0, h1, h2⟩ := pvc_at L (j / 3) hi
    have hx : (L.map VtP.fv15)[j / 3]? = some (VtP.fv15 L[j / 3]) := by rw [List.getElem?_map, List.getElem?_eq_getElem hi]; rfl
    have hr : j % 3 = 0 ∨ j % 3 = 1 ∨ j % 3 = 2 := by omega
    rcases hr with hr | hr | hr
    · have hj3 : j = j / 3 * 3 := by omega
      rw [hj3, h0] at hu
      injection hu with hu
      have := hc _ _ hx 0 (.int .u64 (L[j / 3].slot : Int)) rfl
      rw [hj3, ← hu]
      simpa [Fv.val, ← hj3] using this
    · have hj3 : j = j / 3 * 3 + 1 := by omega
      rw [hj3, h1] at hu
      injection hu with hu
      have := hc _ _ hx 1 (.int .u64 (L[j / 3].bal : Int)) rfl
      rw [← hu]
      rw [show j / 3 * [Fk.int .u64, .int .u64, .bytes].length + 1 = j by simp; omega] at this
      exact this
    · have hj3 : j = j / 3 * 3 + 2 := by omega
      rw [hj3, h2] at hu
      injection hu with hu
      have := hc _ _ hx 2 (.bytes L[j / 3].A L[j / 3].c L[j / 3].val) rfl
      rw [← hu]
      rw [show j / 3 * [Fk.int .u64, .int .u64, .bytes].length + 2 = j by simp; omega] at this
      exact this
/-- The kinds of a script's element. -/
@[reducible] def ks15 : List Gk := [.one (.int .i64), .one (.int .i64), .one (.int .u64), .one (.int .u64), .one (.int .u64), .one .bytes, .recs [.int .u64, .int .u64, .bytes]]
theorem act15_at {w W : World} {A : Option Addr} {n c : Nat} {l : List (List Gv)} (h : Acts2 w A n c ks15 l) (hm : Mods Nil w W) {j : Nat} (hj : j < n) :
    ∃ (b off : Nat) (kd nd : Int) (bal s lo : Nat) (B : Option Addr) (cb : Nat) (xs : List UInt8) (q : Nat) (VA : Option Addr) (vn vc : Nat) (VL : List VtP), A = some ⟨b, off, none⟩ ∧ b < W.heap.size ∧
      (W.cell? ⟨b, off + j * 7, none⟩ = some (.int .i64 kd) ∧ W.cell? ⟨b, off + j * 7 + 1, none⟩ = some (.int .i64 nd) ∧ W.cell? ⟨b, off + j * 7 + 2, none⟩ = some (.int .u64 (bal : Int)) ∧ W.cell? ⟨b, off + j * 7 + 3, none⟩ = some (.int .u64 (s : Int)) ∧ W.cell? ⟨b, off + j * 7 + 4, none⟩ = some (.int .u64 (lo : Int)) ∧ W.cell? ⟨b, off + j * 7 + 5, none⟩ = some (.slice B q cb) ∧ W.cell? ⟨b, off + j * 7 + 6, none⟩ = some (.slice VA vn vc)) ∧
      xs.length = q ∧ Sl w B cb (bts xs) ∧ PVs w (fun _ => True) VA vc vn VL ∧ (-9223372036854775808 ≤ nd ∧ nd ≤ 9223372036854775807) ∧ bal < 18446744073709551616 ∧ s < 18446744073709551616 ∧ lo < 18446744073709551616 := by
  obtain ⟨b, off, hA, hb, hc⟩ := h.cells (by omega)
  have hjl : j < l.length := by rw [h.size]; exact hj
  have hx := List.getElem?_eq_getElem hjl
  obtain ⟨hk, hg⟩ := h.good _ (List.getElem_mem hjl)
  have hbl := fun i => World.cell?_of_block (a := ⟨b, i, none⟩) (hm.block b hb (fun h => h))
  have hlt : b < W.heap.size := Nat.lt_of_lt_of_le hb hm.size
  generalize l[j] = x at hx hk hg
  match x, hk, hg, hx with
  | [.one (.int k1 kd), .one (.int k2 nd), .one (.int k3 z2), .one (.int k4 z3), .one (.int k5 z4), .one (.bytes B cb xs), .recs VA vn vc ks vl], hk, hg, hx =>
    simp [Gv.kind, Fv.kind] at hk
    obtain ⟨rfl, rfl, rfl, rfl, rfl, rfl⟩ := hk
    have g1 : (Lit.int .i64 nd).wf = true := hg (.one (.int .i64 nd)) (by simp)
    have g2 : (Lit.int .u64 z2).wf = true := hg (.one (.int .u64 z2)) (by simp)
    have g3 : (Lit.int .u64 z3).wf = true := hg (.one (.int .u64 z3)) (by simp)
    have g4 : (Lit.int .u64 z4).wf = true := hg (.one (.int .u64 z4)) (by simp)
    have g5 : Sl w B cb (bts xs) := hg (.one (.bytes B cb xs)) (by simp)
    have g6 : Acts w VA vn vc [.int .u64, .int .u64, .bytes] vl := hg (.recs VA vn vc _ vl) (by simp)
    obtain ⟨VL, hVL⟩ := pvs_of_acts15 g6
    have h1 := i64_of_wf15 g1
    have h2 := u64_of_wf g2
    have h3 := u64_of_wf g3
    have h4 := u64_of_wf g4
    have c0 := (hbl _).trans (hc j _ hx 0 (.one (.int .i64 kd)) rfl)
    have c1 := (hbl _).trans (hc j _ hx 1 (.one (.int .i64 nd)) rfl)
    have c2 := (hbl _).trans (hc j _ hx 2 (.one (.int .u64 z2)) rfl)
    have c3 := (hbl _).trans (hc j _ hx 3 (.one (.int .u64 z3)) rfl)
    have c4 := (hbl _).trans (hc j _ hx 4 (.one (.int .u64 z4)) rfl)
    have c5 := (hbl _).trans (hc j _ hx 5 (.one (.bytes B cb xs)) rfl)
    have c6 := (hbl _).trans (hc j _ hx 6 (.recs VA vn vc _ vl) rfl)
    obtain ⟨y2, rfl⟩ : ∃ y : Nat, z2 = (y : Int) := ⟨z2.toNat, by omega⟩
    obtain ⟨y3, rfl⟩ : ∃ y : Nat, z3 = (y : Int) := ⟨z3.toNat, by omega⟩
    obtain ⟨y4, rfl⟩ : ∃ y : Nat, z4 = (y : Int) := ⟨z4.toNat, by omega⟩
    exact ⟨b, off, kd, nd, y2, y3, y4, B, cb, xs, xs.length, VA, vn, vc, VL, hA, hlt,
      ⟨by simpa [Gv.val, Fv.val] using c0, by simpa [Gv.val, Fv.val, Nat.add_assoc] using c1, by simpa [Gv.val, Fv.val, Nat.add_assoc] using c2, by simpa [Gv.val, Fv.val, Nat.add_assoc] using c3, by simpa [Gv.val, Fv.val, Nat.add_assoc] using c4, by simpa [Gv.val, Fv.val, Nat.add_assoc] using c5, by simpa [Gv.val, Fv.val, Nat.add_assoc] using c6⟩,
      rfl, g5, hVL, by omega, by omega, by omega, by omega⟩

theorem and_low15 (n : Int) (k : Nat) (m : Int) (hm : (BitVec.ofInt 64 m).toNat = 2 ^ k - 1) (hk : k ≤ 8) : bits .and .i64 n m = n % ((2 ^ k : Nat) : Int) := by
  have key : (BitVec.ofInt 64 n &&& BitVec.ofInt 64 m).toNat = (n % ((2 ^ 64 : Nat) : Int)).toNat % 2 ^ k := by
    rw [BitVec.toNat_and, BitVec.toNat_ofInt, hm, Nat.and_two_pow_sub_one_eq_mod]
  show IntKind.i64.wrap ((BitVec.ofInt 64 n &&& BitVec.ofInt 64 m).toNat : Nat) = n % ((2 ^ k : Nat) : Int)
  rw [key, IntKind.wrap_i64]
  have : k = 0 ∨ k = 1 ∨ k = 2 ∨ k = 3 ∨ k = 4 ∨ k = 5 ∨ k = 6 ∨ k = 7 ∨ k = 8 := by omega
  rcases this with rfl | rfl | rfl | rfl | rfl | rfl | rfl | rfl | rfl <;> omega
theorem i64_and7l (n : Int) : bits .and .i64 n 7 = n % 8 := by
  have h := and_low15 n 3 7 (by decide) (by omega)
  simpa using h

/-- Both leaders: the package's at b, the reference's in the box at g. -/
structure Q15 (W0 W : World) (X : Nat → Prop) (b g : Nat) (l r : PLd) (p : LdA) (L : List ROp) (T U : Nat) : Prop where
  s : LdS W0 W X b l T
  box : Blk W g 33 (ldC r p)
  r : RL W r p L
  xg : X g ∧ W0.heap.size ≤ g
  xa : p.in_ L X
  kn : p.kn ≤ U
  on : p.on ≤ 4096 + U
section
variable {W0 W W' V : World} {X X' : Nat → Prop} {b g : Nat} {l l' r r' : PLd} {p p' : LdA} {L L' : List ROp} {T T' U U' : Nat}
theorem LdA.in_.sub {Y Y' : Nat → Prop} (h : p.in_ L Y) (hY : ∀ k, Y k → Y' k) : p.in_ L Y' :=
  ⟨fun a ha => hY _ (h.1 a ha), fun a ha => hY _ (h.2.1 a ha), fun a ha => hY _ (h.2.2.1 a ha), fun x hx a ha => hY _ (h.2.2.2 x hx a ha)⟩
theorem Q15.nil (h : Q15 W0 W X b g l r p L T U) (hm : Mods Nil W V) : Q15 W0 V X b g l r p L T U :=
  ⟨h.s.nil hm, h.box.mods hm (fun h => h), h.r.nil hm, h.xg, h.xa, h.kn, h.on⟩
theorem Q15.more (h : Q15 W0 W X b g l r p L T U) (hm : Mods Nil W V) : Q15 W0 V (LDN X W V) b g l r p L T U :=
  ⟨h.s.more hm (fun k hk => hk), h.box.mods hm (fun h => h), h.r.nil hm, ⟨.inl h.xg.1, h.xg.2⟩, h.xa.sub (fun k hk => .inl hk), h.kn, h.on⟩
/-- A call of the package. -/
theorem Q15.call (h : Q15 W0 W X b g l r p L T U) (hs : LdS W0 W' X' b l' T') (hX : ∀ k, X k → X' k) (hm : Mods (LDM W0 X) W W') : Q15 W0 W' X' b g l' r p L T' U :=
  ⟨hs, h.box.mods hm (fun hk => hk.2 h.xg.1), h.r.mods hm (h.xa.sub (fun k hk hd => hd.2 hk)), ⟨hX _ h.xg.1, h.xg.2⟩, h.xa.sub hX, h.kn, h.on⟩
theorem RL.offBox (h : RL W l p L) {cs : Array Value} (hb : Blk W g 33 cs) : p.in_ L (fun k => ¬ k = g) := by
  refine ⟨fun a ha e => ?_, fun a ha e => ?_, fun a ha e => ?_, fun x hx a ha e => ?_⟩
  · obtain ⟨cs, hc⟩ := h.prom.ty a ha
    exact hc.ne_ hb (by decide) e
  · obtain ⟨cs, hc⟩ := h.known.ty a ha
    exact hc.ne_ hb (by decide) e
  · obtain ⟨cs, hc⟩ := h.opn.ty a ha
    exact hc.ne_ hb (by decide) e
  · obtain ⟨cs, hc⟩ := (h.opn.who x hx).ty a ha
    exact hc.ne_ hb (by decide) e
/-- What the reference gave is stored into its box. -/
theorem Q15.put (h : Q15 W0 W X b g l r p L T U) (hr : RL W r' p' L') (hx : p'.in_ L' X) (hk : p'.kn ≤ U') (ho : p'.on ≤ 4096 + U') (hb : Blk W' g 33 (ldC r' p')) (hm : Mods (fun k => k = g) W W') : Q15 W0 W' X b g l r' p' L' T U' :=
  ⟨h.s.keep hm (fun k hk => by subst hk; exact h.xg), hb, hr.mods hm (hr.offBox h.box), h.xg, hx, hk, ho⟩
theorem Q15.mono (h : Q15 W0 W X b g l r p L T U) (hT : T ≤ T') (hU : U ≤ U') : Q15 W0 W X b g l r p L T' U' := ⟨h.s.mono_T hT, h.box, h.r, h.xg, h.xa, Nat.le_trans h.kn hU, by have := h.on; omega⟩
/-- What the reference gives anew lies in X, or in what is new since. -/
theorem in_old {W1 : World} {X : Nat → Prop} (h : p.in_ L X) (h1 : ∀ a, p'.pA = some a → p.pA = some a ∨ W1.heap.size ≤ a.block) (h2 : ∀ a, p'.kA = some a → p.kA = some a ∨ W1.heap.size ≤ a.block) (h3 : ∀ a, p'.oA = some a → p.oA = some a ∨ W1.heap.size ≤ a.block) (h4 : ∀ x ∈ L', ∀ a, x.A = some a → (∃ y ∈ L, y.A = some a) ∨ W1.heap.size ≤ a.block) (hr : RL W' r' p' L') : p'.in_ L' (LDN X W1 W') := by
  refine ⟨fun a ha => ?_, fun a ha => ?_, fun a ha => ?_, fun x hx a ha => ?_⟩
  · obtain ⟨cs, hc⟩ := hr.prom.ty a ha
    rcases h1 a ha with h' | h'
    · exact .inl (h.1 a h')
    · exact .inr ⟨h', hc.lt⟩
  · obtain ⟨cs, hc⟩ := hr.known.ty a ha
    rcases h2 a ha with h' | h'
    · exact .inl (h.2.1 a h')
    · exact .inr ⟨h', hc.lt⟩
  · obtain ⟨cs, hc⟩ := hr.opn.ty a ha
    rcases h3 a ha with h' | h'
    · exact .inl (h.2.2.1 a h')
    · exact .inr ⟨h', hc.lt⟩
  · obtain ⟨cs, hc⟩ := (hr.opn.who x hx).ty a ha
    rcases h4 x hx a ha with ⟨y, hy, h'⟩ | h'
    · exact .inl (h.2.2.2 y hy a h')
    · exact .inr ⟨h', hc.lt⟩
end
/-- Beside them the script's element in its box. -/
structure P15 (W0 W : World) (X : Nat → Prop) (b g : Nat) (l r : PLd) (p : LdA) (L : List ROp) (T U gx : Nat) (cs : Array Value) : Prop where
  q : Q15 W0 W X b g l r p L T U
  ax : Blk W gx 37 cs
  xx : X gx
section
variable {W0 W W' V : World} {X X' : Nat → Prop} {b g gx : Nat} {l l' r r' : PLd} {p p' : LdA} {L L' : List ROp} {T T' U U' : Nat} {cs : Array Value}
theorem P15.nil (h : P15 W0 W X b g l r p L T U gx cs) (hm : Mods Nil W V) : P15 W0 V X b g l r p L T U gx cs := ⟨h.q.nil hm, h.ax.mods hm (fun h => h), h.xx⟩
theorem P15.more (h : P15 W0 W X b g l r p L T U gx cs) (hm : Mods Nil W V) : P15 W0 V (LDN X W V) b g l r p L T U gx cs := ⟨h.q.more hm, h.ax.mods hm (fun h => h), .inl h.xx⟩
theorem P15.call (h : P15 W0 W X b g l r p L T U gx cs) (hs : LdS W0 W' X' b l' T') (hX : ∀ k, X k → X' k) (hm : Mods (LDM W0 X) W W') : P15 W0 W' X' b g l' r p L T' U gx cs :=
  ⟨h.q.call hs hX hm, h.ax.mods hm (fun hk => hk.2 h.xx), hX _ h.xx⟩
theorem P15.put (h : P15 W0 W X b g l r p L T U gx cs) (hr : RL W r' p' L') (hx : p'.in_ L' X) (hk : p'.kn ≤ U') (ho : p'.on ≤ 4096 + U') (hb : Blk W' g 33 (ldC r' p')) (hm : Mods (fun k => k = g) W W') : P15 W0 W' X b g l r' p' L' T U' gx cs :=
  ⟨h.q.put hr hx hk ho hb hm, h.ax.mods hm (fun e => h.ax.ne_ h.q.box (by decide) e), h.xx⟩
theorem Blk.seven15 {w : World} {g : Nat} {t : TypeId} {a0 a1 a2 a3 a4 a5 a6 : Value} (h : Blk w g t #[a0, a1, a2, a3, a4, a5, a6]) : w.cell? ⟨g, 0, none⟩ = some a0 ∧ w.cell? ⟨g, 1, none⟩ = some a1 ∧ w.cell? ⟨g, 2, none⟩ = some a2 ∧ w.cell? ⟨g, 3, none⟩ = some a3 ∧ w.cell? ⟨g, 4, none⟩ = some a4 ∧ w.cell? ⟨g, 5, none⟩ = some a5 ∧ w.cell? ⟨g, 6, none⟩ = some a6 := ⟨h.cell 0, h.cell 1, h.cell 2, h.cell 3, h.cell 4, h.cell 5, h.cell 6⟩
end
/-- The answers that close a round. -/
theorem Q15.opens {W0 W : World} {X : Nat → Prop} {b g : Nat} {l r : PLd} {p : LdA} {L : List ROp} {T U : Nat} (h : Q15 W0 W X b g l r p L T U) (hT : T ≤ 1000000) :
    Calls Try.prog 26 #[.pointer (some ⟨b, 0, none⟩)] W fun e W' => ∃ A n c M, e = .returned (.slice A n c) ∧ M.map VtP.plain = l.opens ∧ PVs W' (fun _ => True) A c n M ∧ Mods Nil W W' :=
  (h.s.open_ hT).mono fun e W' ⟨A, n, c, M, h1, h2, h3, h4, h5⟩ => ⟨A, n, c, M, h1, h2, h3.sub (fun _ _ => trivial), h5⟩
/-! What the reference's calls leave. -/
theorem rl_begin {l l9 : PLd} {p p9 : LdA} {L : List ROp} {x f : Nat} (hl : l.begin_ x f = l9) (hp : (if x ≤ l.bal then p else {}) = p9) : ∃ L9, (∀ V, RL V l p L → RL V l9 p9 L9) ∧ (∀ Y, p.in_ L Y → p9.in_ L9 Y) ∧ p9.kn ≤ p.kn ∧ p9.on ≤ p.on := by
  unfold PLd.begin_ at hl
  by_cases hx : x ≤ l.bal
  · rw [if_pos hx] at hl hp
    subst hl; subst hp
    exact ⟨L, fun _ h => h, fun _ h => h, Nat.le_refl _, Nat.le_refl _⟩
  · rw [if_neg hx] at hl hp
    subst hl; subst hp
    exact ⟨[], fun V h => ⟨RNs.none_ _, RVs.none_ _, ROs.none_ _⟩, fun Y h => ⟨fun a ha => (by cases ha), fun a ha => (by cases ha), fun a ha => (by cases ha), fun x hx => (by cases hx)⟩, Nat.zero_le _, Nat.zero_le _⟩
theorem rl_stop {l l9 : PLd} {p p9 : LdA} {L : List ROp} (hl : l.stop = l9) (hp : ({ p with oA := none, on := 0, oc := 0 } : LdA) = p9) : (∀ V, RL V l p L → RL V l9 p9 []) ∧ (∀ Y, p.in_ L Y → p9.in_ [] Y) ∧ p9.kn ≤ p.kn ∧ p9.on ≤ p.on := by
  subst hl; subst hp
  exact ⟨fun V h => ⟨h.prom, h.known, ROs.none_ _⟩, fun Y h => ⟨h.1, h.2.1, fun a ha => (by cases ha), fun x hx => (by cases hx)⟩, Nat.le_refl _, Nat.zero_le _⟩
theorem RL.onLen {V : World} {l : PLd} {p : LdA} {L : List ROp} (h : RL V l p L) : p.on = l.opn.length := by
  have h1 := h.opn.len
  have h2 := congrArg List.length h.opn.val
  rw [List.length_map] at h2
  omega
theorem on_promise {V W : World} {l l9 : PLd} {p p9 : LdA} {L L9 : List ROp} {U n : Nat} (h : RL V l p L) (hg : l.good) (node : Int) (x low : Nat) (vs : List PVt) (h9 : RL W l9 p9 L9) (hl : l.promise node x low vs = l9) (hn : p9.on ≤ p.on + 4096) (hU : p.on ≤ 4096 + U) : p9.on ≤ 4096 + U := by
  by_cases hd : l.deaf node x
  · have := (promise_deaf hd low vs).1
    rw [hl] at this
    subst this
    rw [h9.onLen, ← h.onLen]
    exact hU
  · have h1 : l.stage = 1 := by unfold PLd.deaf at hd; omega
    have h2 := hg.idle (by omega)
    have h3 := h.onLen
    rw [h2] at h3
    simp at h3
    omega
theorem nodup_le_many : ∀ {m : Nat} {L : List Nat}, L.Nodup → (∀ k ∈ L, k < m) → L.length ≤ m
  | 0, [], _, _ => Nat.le_refl _
  | 0, x :: L, _, h => absurd (h x (by simp)) (by omega)
  | m + 1, L, hn, h => by
    have h1 := nodup_le_many (m := m) (hn.erase m) (fun k hk => by
      have h2 := hn.mem_erase_iff.1 hk
      have h3 := h k h2.2
      have := h2.1
      omega)
    rw [List.length_erase] at h1
    split at h1 <;> omega
theorem who_good {V : World} {l : PLd} {p : LdA} {L : List ROp} (h : RL V l p L) (hg : l.good) : ∀ x ∈ L, x.o.who.length ≤ 1000 := by
  intro x hx
  have h1 : x.o ∈ l.opn := by rw [← h.opn.val]; exact List.mem_map_of_mem hx
  have h2 := (hg.opn.2 _ h1).2.2.2.2.2
  have h3 := hg.many2
  omega
theorem pn_good {V : World} {l : PLd} {p : LdA} {L : List ROp} (h : RL V l p L) (hg : l.good) : p.pn ≤ 32 := by
  have h1 := h.prom.len
  have h2 := hg.prom
  have h3 := hg.many2
  have h4 : l.prom.length ≤ l.many := nodup_le_many h2.1 h2.2
  omega
theorem vneq_self15 (W : World) (x : PVt) : (binOp .neq 53 (.agg #[.int .u64 (x.slot : Int), .int .u64 (x.bal : Int), .string (strOf x.val)]) (.agg #[.int .u64 (x.slot : Int), .int .u64 (x.bal : Int), .string (strOf x.val)])).run Try.prog W = .ok (.bool false) W := by
  have h := vneq_any W x x
  simpa using h
theorem ldr_prop_nilZ (W : World) (A : Option Addr) (n c : Nat) : Calls Try.prog 17 #[.pointer none, .slice A n c] W fun e W' => e = .returned (.tuple #[.agg #[.int .u64 0, .int .u64 0, .slice none 0 0], .int .i64 1]) ∧ Mods Nil W W' := by
  have bA := Blk.new W 49 #[.int .u64 0, .int .u64 0, .slice none 0 0]
  have BA := Lib.hid bA
  clear bA
  go_enter Try.func17, Try.ntmps17
  go_wp2_with (refine wpList_store_mk rfl 49 (.tmp 4) (.tmp 8) rfl rfl W.heap.size rfl 49 #[.int .u64 0, .int .u64 0, .slice none 0 0] #[.int .u64 0, .int .u64 0, .slice none 0 0] rfl BA.out rfl (by simp [Value.oneCell']) infoVtL (by simp [Value.cells]) ?_; intro w4 b4 m4; have B4 := Lib.hid b4; have M4 := Lib.hid m4; clear b4 m4)
  exact bodyPost_ret (results_row_tmp rfl _ _ rfl rfl B4.out Try.underlying49 rfl infoVtL) rfl ⟨rfl, ((Mods.refl Nil W).alloc _).nil_trans M4.out (fun i h => by omega)⟩
theorem ldr_acc_nilZ (W : World) (x y z : Int) : Calls Try.prog 20 #[.pointer none, .int .i64 x, .int .u64 y, .int .u64 z] W fun e W' => e = .returned (.tuple #[.agg #[.int .u64 0, .int .u64 0, .slice none 0 0], .bool false]) ∧ Mods Nil W W' := by
  have bA := Blk.new W 49 #[.int .u64 0, .int .u64 0, .slice none 0 0]
  have BA := Lib.hid bA
  clear bA
  go_enter Try.func20, Try.ntmps20
  go_wp2_with (first
    | (go_at_call 37; refine (hears_nil _ _ _ _).mono ?_; rintro e w' ⟨rfl, rfl⟩)
    | (refine wpList_store_mk rfl 49 (.tmp 8) (.tmp 17) rfl rfl W.heap.size rfl 49 #[.int .u64 0, .int .u64 0, .slice none 0 0] #[.int .u64 0, .int .u64 0, .slice none 0 0] rfl BA.out rfl (by simp [Value.oneCell']) infoVtL (by simp [Value.cells]) ?_; intro w4 b4 m4; have B4 := Lib.hid b4; have M4 := Lib.hid m4; clear b4 m4))
  exact bodyPost_ret (results_row_tmp rfl _ _ rfl rfl B4.out Try.underlying49 rfl infoVtL) rfl ⟨rfl, ((Mods.refl Nil W).alloc _).nil_trans M4.out (fun i h => by omega)⟩
theorem promV_len (l : PLd) (node : Int) (x low : Nat) (vs : List PVt) : (l.promV node x low vs).length ≤ (l.promise node x low vs).opn.length := by
  by_cases hd : l.deaf node x
  · rw [(promise_deaf hd low vs).2.1]; exact Nat.zero_le _
  · by_cases hn : l.prom.length + 1 ≤ l.many / 2
    · rw [(promise_few hd hn low vs).2.1]; exact Nat.zero_le _
    · by_cases hf : ∃ v ∈ noteVs l.known vs, farV (max l.first low) v
      · rw [(promise_far hd (by omega) hf).2.1]; exact Nat.zero_le _
      · have h := promise_lead hd (by omega) (low := low) (vs := vs) (fun v hv hfar => hf ⟨v, hv, hfar⟩)
        rw [h.1, h.2.1]
        show _ ≤ ((l.note node.toNat low vs).props.map fun v => (⟨v, []⟩ : POp)).length
        rw [List.length_map]
        exact Nat.le_refl _
end Go.Proofs.Ytpabbhhaagfoeaa
