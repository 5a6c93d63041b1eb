/- The reference of layer 13: votes by value; Prepare, Forget. -/
import Derived.Test.YthkejoabppocoaaAcc0
import Derived.Test.YthkejoabppocoaaSlS
import Derived.Test.YthkejoabppocoaaMemX
import Derived.Test.YthkejoabppocoaaRefM1
namespace Go.Proofs.Ythkejoabppocoaa
set_option maxRecDepth 100000
open Go.RowKit
set_option linter.unusedVariables false
set_option linter.unusedSimpArgs false

theorem infoVt : (Try.prog.info? 47).map (fun i => (i.zero, i.size, i.bytes)) = some (some (.agg #[.int .u64 0, .int .u64 0, .string ⟨#[]⟩]), 3, 32) := by kernel_rfl
/-- A vote's cells. -/
def vtC (x : PVt) : List Value := [.int .u64 (x.slot : Int), .int .u64 (x.bal : Int), .string (strOf x.val)]
def vtCs (l : List PVt) : List Value := l.flatMap vtC
theorem vtCs_append (l m : List PVt) : vtCs (l ++ m) = vtCs l ++ vtCs m := by simp [vtCs]
theorem vtCs_snoc (l : List PVt) (x : PVt) : vtCs (l ++ [x]) = vtCs l ++ vtC x := by simp [vtCs]
theorem vtCs_length : ∀ (l : List PVt), (vtCs l).length = l.length * 3
  | [] => rfl
  | x :: l => by
    have := vtCs_length l
    simp only [vtCs, List.flatMap_cons, List.length_append, List.length_cons] at this ⊢
    rw [this]
    simp [vtC]; omega
theorem vtC_one (x : PVt) : ∀ u ∈ vtC x, u.oneCell' = true := by
  intro u hu
  simp [vtC] at hu
  rcases hu with rfl | rfl | rfl <;> rfl
theorem vtCs_at : ∀ (l : List PVt) (j : Nat) (h : j < l.length), (vtCs l)[j * 3]? = some (.int .u64 (l[j].slot : Int)) ∧ (vtCs l)[j * 3 + 1]? = some (.int .u64 (l[j].bal : Int)) ∧ (vtCs l)[j * 3 + 2]? = some (.string (strOf l[j].val))
  | x :: l, 0, h => by simp [vtCs, vtC]
  | x :: l, j + 1, h => by
    have := vtCs_at l j (by simpa using h)
    rw [show (j + 1) * 3 = j * 3 + 3 by omega]
    simp only [vtCs, List.flatMap_cons, vtC, List.getElem_cons_succ] at this ⊢
    exact ⟨by simpa using this.1, by simpa using this.2.1, by simpa using this.2.2⟩
theorem vt_new {w : World} {t : TypeId} (x : PVt) {g : Nat} (hg : g = w.heap.size) : ∀ j u, (vtC x)[j]? = some u → (w.alloc (.cells #[.int .u64 (x.slot : Int), .int .u64 (x.bal : Int), .string (strOf x.val)] t)).cell? ((⟨g, 0, none⟩ : Addr).add j) = some u := by
  subst hg
  intro j u hu
  rw [Addr.add_lit, Nat.zero_add, (Blk.new w t #[.int .u64 (x.slot : Int), .int .u64 (x.bal : Int), .string (strOf x.val)]).cell]
  simpa [vtC] using hu
/-- A slice that reads as votes. -/
structure RVs (w : World) (A : Option Addr) (c n : Nat) (l : List PVt) : Prop where
  len : l.length = n
  sl : SlS 3 w A c n (vtCs l)
  ty : ∀ a, A = some a → ∃ cs, Blk w a.block 47 cs
section
variable {S : Nat → Prop} {w w' : World} {A : Option Addr} {c n : Nat} {l : List PVt}
theorem RVs.mods (h : RVs w A c n l) (hm : Mods S w w') (hA : ∀ a, A = some a → ¬ S a.block) : RVs w' A c n l :=
  ⟨h.len, h.sl.mods hm hA, fun a ha => by obtain ⟨cs, hb⟩ := h.ty a ha; exact ⟨cs, hb.mods hm (hA a ha)⟩⟩
theorem RVs.nil (h : RVs w A c n l) (hm : Mods Nil w w') : RVs w' A c n l := h.mods hm (fun _ _ h => h)
theorem RVs.none_ (w : World) : RVs w none 0 0 [] := ⟨rfl, SlS.none_ _ _, fun a h => by cases h⟩
theorem RVs.at_ (h : RVs w A c n l) {j : Nat} (hj : j < n) : ∃ b off, A = some ⟨b, off, none⟩ ∧ b < w.heap.size ∧ w.cell? ⟨b, off + j * 3, none⟩ = some (.int .u64 ((l[j]'(by rw [h.len]; exact hj)).slot : Int)) ∧ w.cell? ⟨b, off + j * 3 + 1, none⟩ = some (.int .u64 ((l[j]'(by rw [h.len]; exact hj)).bal : Int)) ∧ w.cell? ⟨b, off + j * 3 + 2, none⟩ = some (.string (strOf (l[j]'(by rw [h.len]; exact hj)).val)) := by
  obtain ⟨b, off, hA, hb, hc⟩ := h.sl.at_ (by omega) (by omega)
  obtain ⟨h0, h1, h2⟩ := vtCs_at l j (by rw [h.len]; exact hj)
  exact ⟨b, off, hA, hb, hc _ _ h0, by rw [Nat.add_assoc]; exact hc _ _ h1, by rw [Nat.add_assoc]; exact hc _ _ h2⟩
theorem rvs_own {base : Nat} {v : Value} (h : w.ownsRow base 47 3 v n (vtCs l)) (hl : l.length = n) : ∃ A c, v = .slice A n c ∧ RVs w A c n l ∧ ∀ a, A = some a → base ≤ a.block := by
  obtain ⟨A, c, rfl, hs, ho⟩ := own_sls h
  refine ⟨A, c, rfl, ⟨hl, hs, fun a ha => ?_⟩, fun a ha => (ho a ha).2⟩
  rcases h.2 with ⟨h0, _⟩ | ⟨g, cap, cur, h0, _, hb, _⟩
  · injection h0 with h1
    rw [h1] at ha
    cases ha
  · injection h0 with h1
    rw [h1] at ha
    injection ha with ha
    subst ha
    exact ⟨_, hb⟩
end
/-- An acceptor by value. -/
@[reducible] def acC (a : PAc) (A : Option Addr) (n c : Nat) : Array Value := #[.int .u64 (a.prom : Int), .int .u64 (a.low : Int), .slice A n c]
theorem Blk.three {w : World} {g : Nat} {t : TypeId} {a b c : Value} (h : Blk w g t #[a, b, c]) : w.cell? ⟨g, 0, none⟩ = some a ∧ w.cell? ⟨g, 1, none⟩ = some b ∧ w.cell? ⟨g, 2, none⟩ = some c := ⟨h.cell 0, h.cell 1, h.cell 2⟩

/-- A vote more, behind a row of the call's own. -/
theorem push_vt {ops : Array Oper} {rest : List Oper} {o : Oper} {a : Act} {Q : Exit → Act → World → Prop} (hgd : o.guard = none) (s x : Operand)
    (ho : o.op = .call { callee := .builtin .append, args := #[s, x], argTypes := #[27, 27] })
    {W : World} {base m : Nat} {v : Value} {l : List PVt} (y : PVt) (hs : a.eval s = v) (hown : W.ownsRow base 47 3 v m (vtCs l)) (hx : a.eval x = .slice (some ⟨W.heap.size, 0, none⟩) 1 1)
    (hlim : m ≤ 1000000) (hbase : base ≤ W.heap.size)
    (h : ∀ v' w', w'.ownsRow base 47 3 v' (m + 1) (vtCs (l ++ [y])) → Mods (fun k => v.ownBlock = some k) W w' → wpList Try.prog ops Q rest (a.put o.dst v') w') :
    wpList Try.prog ops Q (o :: rest) a (W.alloc (.cells #[.int .u64 (y.slot : Int), .int .u64 (y.bal : Int), .string (strOf y.val)] 47)) := by
  obtain ⟨i0, hi0, hz0, hz1, hz2⟩ := info_parts infoVt
  refine wpList_append_own _ hgd s x 27 ho base 47 i0 (.agg #[.int .u64 0, .int .u64 0, .string ⟨#[]⟩]) 3 32 Try.underlying27 hi0 hz0 hz1 hz2 rfl (by decide) v m (vtCs l) hs (own_mods hown ((Mods.refl Nil W).alloc _) (fun _ _ h => h)) ⟨W.heap.size, 0, none⟩ 1 1 (vtC y) hx rfl (vt_new y rfl) (vtC_one y) (by unfold maxLen; omega) (by omega) (by simp; omega) ?_
  intro v' w' h1 h2 _
  rw [← vtCs_snoc] at h1
  exact h v' w' h1 (((Mods.refl (fun k => v.ownBlock = some k) W).alloc _).grown h2 (fun k hk _ => hk))
theorem own_box {w w' : World} {base m g : Nat} {v : Value} {xs cs : List Value} (ho : w.ownsRow base 47 3 v m xs) (hb : Blk w g 29 cs.toArray) (hm : Mods (fun k => v.ownBlock = some k) w w') : Blk w' g 29 cs.toArray :=
  hb.mods hm (fun e => own_blk_ne ho hb (by decide) e)
theorem own_nilm {w w0 w' : World} {base m : Nat} {v : Value} {xs : List Value} (ho : w.ownsRow base 47 3 v m xs) (hb : w0.heap.size ≤ base) (h0 : Mods Nil w0 w) (hm : Mods (fun k => v.ownBlock = some k) w w') : Mods Nil w0 w' :=
  h0.nil_trans hm (fun k hk => by have := (ho.lt k hk).1; omega)
theorem take_vt {l : List PVt} {i : Nat} (h : i < l.length) : l.take (i + 1) = l.take i ++ [l[i]] := by simp

theorem ac_info : (Try.prog.info? 29).map (·.size) = some 3 := by kernel_rfl

/-- What Prepare tells. -/
def RPrep (w : World) (a : PAc) (A : Option Addr) (n c b f : Nat) (e : Ending) (w' : World) : Prop :=
  ∃ A' c' n', e = .returned (.tuple #[.agg (acC (a.prepare b) A n c), .slice A' n' c', .int .i64 (a.prepE b : Int)]) ∧ RVs w' A' c' n' (a.told b f) ∧ Mods Nil w w'

set_option maxHeartbeats 3200000 in
theorem r13prep_any (w : World) {a : PAc} {A : Option Addr} {n c : Nat} (h : RVs w A c n a.L) (hn : n ≤ 1000) (b f : Nat) :
    Calls Try.prog 12 #[.agg (acC a A n c), .int .u64 (b : Int), .int .u64 (f : Int)] w (RPrep w a A n c b f) := by
  obtain ⟨i0, hi0, hz0, hz1, hz2⟩ := info_parts infoVt
  obtain ⟨p, hp⟩ : ∃ p, a.prom = p := ⟨_, rfl⟩
  obtain ⟨q, hq⟩ : ∃ q, a.low = q := ⟨_, rfl⟩
  have HRV := Lib.hid h
  have M1 := Lib.hid (((Mods.refl Nil w).alloc (.cells #[.int .u64 (p : Int), .int .u64 (q : Int), .slice A n c] 29)).alloc (.cells #[.int .u64 0, .int .u64 0, .slice none 0 0] 29))
  have B1 := Lib.hid ((Blk.new w 29 #[.int .u64 (p : Int), .int .u64 (q : Int), .slice A n c]).alloc (.cells #[.int .u64 0, .int .u64 0, .slice none 0 0] 29))
  by_cases hb : b < p
  · have hbI : decide ((b : Int) < (p : Int)) = true := by simp; omega
    have hbN : decide (b < p) = true := by simp; omega
    show Calls _ _ #[.agg #[.int .u64 (a.prom : Int), .int .u64 (a.low : Int), .slice A n c], _, _] _ _
    rw [hp, hq]
    have HE : Hid (a.prepare b = a ∧ a.prepE b = 32 ∧ a.told b f = []) := Lib.hid (by unfold PAc.prepare PAc.prepE PAc.told; rw [hp]; simp [hb])
    have HPQ := Lib.hid (And.intro hp hq)
    clear h hb hp hq
    go_enter Try.func12, Try.ntmps12
    go_wp2
    have e2 := Blk.new (w.alloc (.cells #[.int .u64 (p : Int), .int .u64 (q : Int), .slice A n c] 29)) 29 #[.int .u64 (p : Int), .int .u64 (q : Int), .slice A n c]
    simp only [World.size_alloc] at e2
    obtain ⟨x0, x1, x2⟩ := e2.three
    refine bodyPost_ret (v := .tuple #[.agg #[.int .u64 (p : Int), .int .u64 (q : Int), .slice A n c], .slice none 0 0, .int .i64 32]) (by simp [results, Try.results12, go_sem, x0, x1, x2]) rfl ?_
    refine ⟨none, 0, 0, ?_, ?_, ((Mods.refl Nil w).alloc _).alloc _⟩
    · rw [HE.out.1, HE.out.2.1]
      unfold acC
      rw [HPQ.out.1, HPQ.out.2]
      rfl
    · rw [HE.out.2.2]
      exact RVs.none_ _
  · have hbI : decide ((b : Int) < (p : Int)) = false := by simp; omega
    have hbN : decide (b < p) = false := by simp; omega
    show Calls _ _ #[.agg #[.int .u64 (a.prom : Int), .int .u64 (a.low : Int), .slice A n c], _, _] _ _
    rw [hp, hq]
    have HE : Hid (a.prepare b = { a with prom := b } ∧ a.prepE b = 0 ∧ a.told b f = fromV f a.L) := Lib.hid (by unfold PAc.prepare PAc.prepE PAc.told; rw [hp]; simp [hb])
    have HPQ := Lib.hid hq
    have HN := Lib.hid h.len
    clear h hb hp hq
    go_enter Try.func12, Try.ntmps12
    go_wp2
    go_loopw [9, 10] (fun v x wr => ∃ (i m : Nat), i ≤ n ∧ x = .int .i64 (i : Int) ∧ (fromV f (a.L.take i)).length = m ∧ m ≤ i ∧ wr.ownsRow w.heap.size 47 3 v m (vtCs (fromV f (a.L.take i))) ∧ Blk wr w.heap.size 29 #[.int .u64 (b : Int), .int .u64 (q : Int), .slice A n c] ∧ Blk wr (w.heap.size + 1) 29 #[.int .u64 0, .int .u64 0, .slice none 0 0] ∧ Mods Nil w wr) (fun _ x _ => n - (intOf x).toNat)
    case atStart =>
      refine ⟨0, 0, by omega, rfl, by simp [fromV], by omega, by simpa [fromV, vtCs] using World.ownsRow_nil _ _ _ _, (Blk.new w _ _).alloc _, ?_, ((Mods.refl Nil w).alloc _).alloc _⟩
      have := Blk.new (w.alloc (.cells #[.int .u64 (b : Int), .int .u64 (q : Int), .slice A n c] 29)) 29 #[.int .u64 0, .int .u64 0, .slice none 0 0]
      simpa using this
    case round =>
      obtain ⟨i, m, hi, rfl, hm, hmi, ho, hb1, hb2, hmo⟩ := hrel
      have HO := Lib.hid ho
      have HMO := Lib.hid hmo
      have HM := Lib.hid hm
      have HB1 := Lib.hid hb1
      have HB2 := Lib.hid hb2
      obtain ⟨x0, x1, x2⟩ := hb1.three
      clear ho hmo hm hb1 hb2
      by_cases hlt : i < n
      · have hltI : (i : Int) < (n : Int) := by omega
        have hiL : i < a.L.length := by rw [HN.out]; exact hlt
        obtain ⟨blk, off, rfl, hbl, c0, c1, c2⟩ := (HRV.out.nil HMO.out).at_ hlt
        have hsn := take_vt hiL
        obtain ⟨y, hy⟩ : ∃ y, a.L[i] = y := ⟨_, rfl⟩
        rw [hy] at c0 c1 c2 hsn
        obtain ⟨s, bb, vv⟩ := y
        simp only at c0 c1 c2
        have HSN := Lib.hid hsn
        clear hsn hy hiL
        by_cases hf : f ≤ s
        · have hfI : decide ((f : Int) ≤ (s : Int)) = true := by simp; omega
          have hfN : decide (f ≤ s) = true := by simp; omega
          go_wp2_with (at_builtin; refine push_vt rfl _ _ rfl ⟨s, bb, vv⟩ rfl HO.out rfl (by omega) (by have := HMO.out.size; omega) ?_; intro v' w4 o4 m4; have O4 := Lib.hid o4; have M4 := Lib.hid (own_nilm HO.out (Nat.le_refl _) HMO.out m4); have B41 := Lib.hid (own_box HO.out HB1.out m4); have B42 := Lib.hid (own_box HO.out HB2.out m4); clear o4 m4)
          exact ⟨⟨i + 1, m + 1, by omega, by go_num, by rw [HSN.out, fromV_snoc, if_pos hf, List.length_append, HM.out]; rfl, by omega, by rw [HSN.out, fromV_snoc, if_pos hf]; exact O4.out, B41.out, B42.out, M4.out⟩, by simp [intOf]; omega⟩
        · have hfI : decide ((f : Int) ≤ (s : Int)) = false := by simp; omega
          have hfN : decide (f ≤ s) = false := by simp; omega
          go_wp2
          exact ⟨⟨i + 1, m, by omega, by go_num, by rw [HSN.out, fromV_snoc, if_neg hf, HM.out], by omega, by rw [HSN.out, fromV_snoc, if_neg hf]; exact HO.out, HB1.out, HB2.out, HMO.out⟩, by simp [intOf]; omega⟩
      · obtain rfl : i = n := by omega
        have HT : Hid (a.L.take i = a.L) := Lib.hid (List.take_of_length_le (by rw [HN.out]; exact Nat.le_refl _))
        rw [HT.out] at HO HM
        obtain ⟨A2, c2, rfl, r2, -⟩ := rvs_own HO.out HM.out
        have R2 := Lib.hid r2
        clear r2
        go_wp2_with (refine wpList_store_mk rfl 29 (.tmp 6) (.tmp 41) rfl rfl (w.heap.size + 1) rfl 29 #[.int .u64 0, .int .u64 0, .slice none 0 0] #[.int .u64 (b : Int), .int .u64 (q : Int), .slice A i c] rfl HB2.out rfl (by simp [Value.oneCell']) ac_info (by simp [Value.cells]) ?_; intro w8 b8 m8; have B8 := Lib.hid b8; have M8 := Lib.hid m8; clear b8 m8)
        obtain ⟨y0, y1, y2⟩ := B8.out.three
        refine bodyPost_ret (v := .tuple #[.agg #[.int .u64 (b : Int), .int .u64 (q : Int), .slice A i c], .slice A2 m c2, .int .i64 0]) (by simp [results, Try.results12, go_sem, y0, y1, y2]) rfl ?_
        refine ⟨A2, c2, m, ?_, ?_, HMO.out.nil_trans M8.out (fun k hk => by omega)⟩
        · rw [HE.out.1, HE.out.2.1]
          unfold acC
          simp only [HPQ.out]
          rfl
        · rw [HE.out.2.2]
          exact R2.out.mods M8.out (fun a ha => by obtain ⟨cs, hb⟩ := R2.out.ty a ha; exact fun e => hb.ne_ HB2.out (by decide) e)
end Go.Proofs.Ythkejoabppocoaa
