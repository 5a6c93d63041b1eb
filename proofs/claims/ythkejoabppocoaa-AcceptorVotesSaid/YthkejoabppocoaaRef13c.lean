/- The reference of layer 13: Accept. -/
import Derived.Test.YthkejoabppocoaaRef13b
namespace Go.Proofs.Ythkejoabppocoaa
set_option maxRecDepth 100000
open Go.RowKit
set_option linter.unusedVariables false
set_option linter.unusedSimpArgs false

theorem RVs.cells {w : World} {blk off c n j : Nat} {l : List PVt} {x : PVt} (h : RVs w (some ⟨blk, off, none⟩) c n l) (hx : l[j]? = some x) : w.cell? ⟨blk, off + j * 3, none⟩ = some (.int .u64 (x.slot : Int)) ∧ w.cell? ⟨blk, off + j * 3 + 1, none⟩ = some (.int .u64 (x.bal : Int)) ∧ w.cell? ⟨blk, off + j * 3 + 2, none⟩ = some (.string (strOf x.val)) := by
  obtain ⟨hj, hx⟩ := List.getElem?_eq_some_iff.1 hx
  obtain ⟨b, o, hA, _, h0, h1, h2⟩ := h.at_ (j := j) (by rw [← h.len]; exact hj)
  injection hA with hA
  injection hA with e1 e2
  subst e1; subst e2
  rw [hx] at h0 h1 h2
  exact ⟨h0, h1, h2⟩
/-- The boxes of Accept's walk. -/
structure AcB (w W : World) (a : PAc) (A : Option Addr) (n c : Nat) (v : PVt) : Prop where
  a : Blk W w.heap.size 29 (acC a A n c)
  v : Blk W (w.heap.size + 1) 47 #[.int .u64 (v.slot : Int), .int .u64 (v.bal : Int), .string (strOf v.val)]
  r : Blk W (w.heap.size + 2) 29 #[.int .u64 0, .int .u64 0, .slice none 0 0]
  m : Mods Nil w W
theorem AcB.new (w : World) (a : PAc) (A : Option Addr) (n c : Nat) (v : PVt) : AcB w (((w.alloc (.cells (acC a A n c) 29)).alloc (.cells #[.int .u64 (v.slot : Int), .int .u64 (v.bal : Int), .string (strOf v.val)] 47)).alloc (.cells #[.int .u64 0, .int .u64 0, .slice none 0 0] 29)) a A n c v := by
  have h2 := Blk.new (w.alloc (.cells (acC a A n c) 29)) 47 #[.int .u64 (v.slot : Int), .int .u64 (v.bal : Int), .string (strOf v.val)]
  have h3 := Blk.new ((w.alloc (.cells (acC a A n c) 29)).alloc (.cells #[.int .u64 (v.slot : Int), .int .u64 (v.bal : Int), .string (strOf v.val)] 47)) 29 #[.int .u64 0, .int .u64 0, .slice none 0 0]
  simp only [World.size_alloc] at h2 h3
  exact ⟨((Blk.new w _ _).alloc _).alloc _, h2.alloc _, h3, (((Mods.refl Nil w).alloc _).alloc _).alloc _⟩
theorem AcB.drewN {w W : World} {a : PAc} {A : Option Addr} {n c : Nat} {v : PVt} (h : AcB w W a A n c v) (k : Nat) : AcB w (W.drewN k) a A n c v := ⟨h.a.drewN k, h.v.drewN k, h.r.drewN k, h.m.drewN k⟩
/-- A row of the call's own that lies behind the boxes grew. -/
theorem AcB.push {w W W' : World} {a : PAc} {A : Option Addr} {n c m : Nat} {v : PVt} {u : Value} {xs : List Value} (h : AcB w W a A n c v) (ho : W.ownsRow (w.heap.size + 2) 47 3 u m xs) (hm : Mods (fun k => u.ownBlock = some k) W W') : AcB w W' a A n c v :=
  ⟨h.a.mods hm (fun e => own_blk_ne ho h.a (by decide) e), h.v.mods hm (fun e => by have := (ho.lt _ e).1; omega), h.r.mods hm (fun e => own_blk_ne ho h.r (by decide) e), h.m.nil_trans hm (fun k hk => by have := (ho.lt k hk).1; omega)⟩

/-- What Accept tells. -/
def RAcc (w : World) (a : PAc) (A : Option Addr) (v : PVt) (e : Ending) (w' : World) : Prop :=
  ∃ A' c' n', e = .returned (.tuple #[.agg (acC (a.accept v) A' n' c'), .int .i64 (a.accE v : Int)]) ∧ RVs w' A' c' n' (a.accept v).L ∧ (∀ x, A' = some x → A = some x ∨ w.heap.size ≤ x.block) ∧ Mods Nil w w'

set_option maxHeartbeats 6400000 in
theorem r13acc_bad (w : World) {a : PAc} {A : Option Addr} {n c : Nat} (h : RVs w A c n a.L) (v : PVt) (hb : v.bal < a.prom ∨ v.slot < a.low) :
    Calls Try.prog 16 #[.agg (acC a A n c), .agg #[.int .u64 (v.slot : Int), .int .u64 (v.bal : Int), .string (strOf v.val)]] w (RAcc w a A v) := by
  obtain ⟨p, hp⟩ : ∃ p, a.prom = p := ⟨_, rfl⟩
  obtain ⟨q, hq⟩ : ∃ q, a.low = q := ⟨_, rfl⟩
  obtain ⟨vs, vb, vv⟩ := v
  have HRV := Lib.hid h
  show Calls _ _ #[.agg #[.int .u64 (a.prom : Int), .int .u64 (a.low : Int), .slice A n c], .agg #[.int .u64 (vs : Int), .int .u64 (vb : Int), .string (strOf vv)]] _ _
  have HAC : Hid (acC a A n c = #[.int .u64 (p : Int), .int .u64 (q : Int), .slice A n c]) := Lib.hid (by unfold acC; rw [hp, hq])
  have e3 := Blk.new ((w.alloc (.cells #[.int .u64 (p : Int), .int .u64 (q : Int), .slice A n c] 29)).alloc (.cells #[.int .u64 (vs : Int), .int .u64 (vb : Int), .string (strOf vv)] 47)) 29 #[.int .u64 (p : Int), .int .u64 (q : Int), .slice A n c]
  simp only [World.size_alloc] at e3
  simp only at hb
  rw [hp, hq] at hb ⊢
  by_cases h1 : vb < p
  · have hbI : decide ((vb : Int) < (p : Int)) = true := by simp; omega
    have hbN : decide (vb < p) = true := by simp; omega
    have HE : Hid (a.accept ⟨vs, vb, vv⟩ = a ∧ a.accE ⟨vs, vb, vv⟩ = 32) := Lib.hid (by unfold PAc.accept PAc.accE; rw [hp]; simp [h1])
    have E3 := Lib.hid e3
    clear h hb hp hq e3
    go_enter Try.func16, Try.ntmps16
    go_wp2
    obtain ⟨x0, x1, x2⟩ := E3.out.three
    refine bodyPost_ret (v := .tuple #[.agg #[.int .u64 (p : Int), .int .u64 (q : Int), .slice A n c], .int .i64 32]) (by simp [results, Try.results16, go_sem, x0, x1, x2]) rfl ?_
    refine ⟨A, c, n, ?_, ?_, fun x hx => .inl hx, (((Mods.refl Nil w).alloc _).alloc _).alloc _⟩
    · rw [HE.out.1, HE.out.2, HAC.out]; rfl
    · rw [HE.out.1]
      exact HRV.out.nil ((((Mods.refl Nil w).alloc _).alloc _).alloc _)
  · have h2 : vs < q := by omega
    have hbI : decide ((vb : Int) < (p : Int)) = false := by simp; omega
    have hbN : decide (vb < p) = false := by simp; omega
    have hcI : decide ((vs : Int) < (q : Int)) = true := by simp; omega
    have hcN : decide (vs < q) = true := by simp; omega
    have HE : Hid (a.accept ⟨vs, vb, vv⟩ = a ∧ a.accE ⟨vs, vb, vv⟩ = 15) := Lib.hid (by unfold PAc.accept PAc.accE; rw [hp, hq]; simp [h1, h2])
    have E3 := Lib.hid e3
    clear h hb hp hq e3
    go_enter Try.func16, Try.ntmps16
    go_wp2
    obtain ⟨x0, x1, x2⟩ := E3.out.three
    refine bodyPost_ret (v := .tuple #[.agg #[.int .u64 (p : Int), .int .u64 (q : Int), .slice A n c], .int .i64 15]) (by simp [results, Try.results16, go_sem, x0, x1, x2]) rfl ?_
    refine ⟨A, c, n, ?_, ?_, fun x hx => .inl hx, (((Mods.refl Nil w).alloc _).alloc _).alloc _⟩
    · rw [HE.out.1, HE.out.2, HAC.out]; rfl
    · rw [HE.out.1]
      exact HRV.out.nil ((((Mods.refl Nil w).alloc _).alloc _).alloc _)

set_option maxHeartbeats 6400000 in
theorem r13acc_ok (w : World) {a : PAc} {A : Option Addr} {n c : Nat} (h : RVs w A c n a.L) (hn : n ≤ 1000) (hrise : riseV a.L) (v : PVt) (hb : ¬ v.bal < a.prom) (hc : ¬ v.slot < a.low) :
    Calls Try.prog 16 #[.agg (acC a A n c), .agg #[.int .u64 (v.slot : Int), .int .u64 (v.bal : Int), .string (strOf v.val)]] w (RAcc w a A v) := by
  have HE : Hid (a.accept v = { a with prom := v.bal, L := insV v a.L } ∧ a.accE v = 0) := Lib.hid (by unfold PAc.accept PAc.accE; simp [hb, hc])
  obtain ⟨p, hp⟩ : ∃ p, a.prom = p := ⟨_, rfl⟩
  obtain ⟨q, hq⟩ : ∃ q, a.low = q := ⟨_, rfl⟩
  obtain ⟨vs, hvs⟩ : ∃ x, v.slot = x := ⟨_, rfl⟩
  obtain ⟨vb, hvb⟩ : ∃ x, v.bal = x := ⟨_, rfl⟩
  obtain ⟨vv, hvv⟩ : ∃ x, v.val = x := ⟨_, rfl⟩
  rw [hvs, hvb, hvv]
  have HRV := Lib.hid h
  have NEW := AcB.new w a A n c v
  rw [hvs, hvb, hvv] at NEW
  show Calls _ _ #[.agg #[.int .u64 (a.prom : Int), .int .u64 (a.low : Int), .slice A n c], .agg #[.int .u64 (vs : Int), .int .u64 (vb : Int), .string (strOf vv)]] _ _
  unfold acC at NEW
  rw [hp, hq] at NEW ⊢
  rw [hvb, hp] at hb
  rw [hvs, hq] at hc
  have HNEW := Lib.hid NEW
  have hbI : decide ((vb : Int) < (p : Int)) = false := by simp; omega
  have hbN : decide (vb < p) = false := by simp; omega
  have hcI : decide ((vs : Int) < (q : Int)) = false := by simp; omega
  have hcN : decide (vs < q) = false := by simp; omega
  have HN := Lib.hid h.len
  have HRI := Lib.hid hrise
  have HPQ := Lib.hid (And.intro hp hq)
  have HV := Lib.hid (show v = ⟨vs, vb, vv⟩ by cases v; simp at hvs hvb hvv; subst hvs; subst hvb; subst hvv; rfl)
  have HZ : Hid (∀ W, AcB w W a A n c v → (W.cell? ⟨w.heap.size, 1, none⟩ = some (.int .u64 (q : Int)) ∧ W.cell? ⟨w.heap.size, 2, none⟩ = some (.slice A n c)) ∧ W.cell? ⟨w.heap.size + 1, 0, none⟩ = some (.int .u64 (vs : Int)) ∧ W.cell? ⟨w.heap.size + 1, 1, none⟩ = some (.int .u64 (vb : Int)) ∧ W.cell? ⟨w.heap.size + 1, 2, none⟩ = some (.string (strOf vv))) := Lib.hid (fun W hW => by
    obtain ⟨a0, a1, a2⟩ := hW.a.three
    obtain ⟨v0, v1, v2⟩ := hW.v.three
    rw [hq] at a1
    rw [hvs] at v0
    rw [hvb] at v1
    rw [hvv] at v2
    exact ⟨⟨a1, a2⟩, v0, v1, v2⟩)
  have HML : Hid (∀ k, (outV v (a.L.take k)).length ≤ k + 1) := Lib.hid (fun k => Nat.le_trans (outV_len v (a.L.take k)) (by simp; omega))
  clear h hb hc hp hq hvs hvb hvv NEW hrise
  go_enter Try.func16, Try.ntmps16
  go_wp2
  go_loopw [6, 7, 8] (fun o x t wr => ∃ (i m : Nat) (f : Bool), i ≤ n ∧ t = .int .i64 (i : Int) ∧ x = .bool f ∧ stV v (a.L.take i) = f ∧ (outV v (a.L.take i)).length = m ∧ m ≤ i + 1 ∧ wr.ownsRow (w.heap.size + 2) 47 3 o m (vtCs (outV v (a.L.take i))) ∧ AcB w wr a A n c v) (fun _ _ t _ => n - (intOf t).toNat)
  case atStart =>
    exact ⟨0, 0, false, by omega, rfl, rfl, by simp [stV], by simp [outV, stV], by omega, by simpa [outV, stV, vtCs] using World.ownsRow_nil _ _ _ _, HNEW.out⟩
  case round =>
    obtain ⟨i, m, f, hi, rfl, rfl, hf, hm, hmi, ho, hB⟩ := hrel
    have HO := Lib.hid ho
    have HF := Lib.hid hf
    have HM := Lib.hid hm
    have HB := Lib.hid hB
    obtain ⟨⟨x1, x2⟩, z0, z1, z2⟩ := HZ.out _ hB
    clear hf hm ho hB
    by_cases hlt : i < n
    · have hltI : (i : Int) < (n : Int) := by omega
      have hiL : i < a.L.length := by rw [HN.out]; exact hlt
      obtain ⟨blk, off, rfl, hbl, c0, c1, c2⟩ := (HRV.out.nil HB.out.m).at_ hlt
      have hsn := take_vt hiL
      obtain ⟨y, hy⟩ : ∃ y, a.L[i] = y := ⟨_, rfl⟩
      have HGET := Lib.hid (show a.L[i]? = some y by rw [← hy]; exact List.getElem?_eq_getElem hiL)
      rw [hy] at c0 c1 c2 hsn
      have hstep := outV_snoc (v := v) (x := y) (p := a.L.take i) (by rw [← hsn]; exact HRI.out.take _)
      have hst := stV_snoc v (a.L.take i) y
      rw [← hsn] at hstep hst
      rw [HF.out] at hstep hst
      obtain ⟨s, bb, yv⟩ := y
      have hvslot : v.slot = vs := by rw [HV.out]
      simp only [hvslot] at c0 c1 c2 hstep hst
      clear hvslot
      have HRS : Hid (f = true → vs < s) := Lib.hid (fun hft => by
        have h1 := HF.out
        rw [hft] at h1
        unfold stV at h1
        obtain ⟨x, hx, hxs⟩ := List.any_eq_true.1 h1
        have h2 := HRI.out.take (i + 1)
        rw [hsn] at h2
        have h3 := h2.snoc.2 x hx
        rw [HV.out] at hxs
        simp at hxs h3
        omega)
      have HSTEP := Lib.hid hstep
      have HST := Lib.hid hst
      clear hsn hy hiL hstep hst
      cases f with
      | true =>
        have hvs := HRS.out rfl
        have g1 : decide ((vs : Int) ≤ (s : Int)) = true := by simp; omega
        have g1N : decide (vs ≤ s) = true := by simp; omega
        have g2 : ((s : Int) != (vs : Int)) = true := by rw [bne_iff_ne]; omega
        have g2N : (s != vs) = true := by rw [bne_iff_ne]; omega
        have HV2 := Lib.hid hvs
        clear hvs
        go_wp2
        go_quiet (fail)
        go_wp2
        go_quiet (fail)
        go_wp2_with (at_builtin; refine push_vt rfl _ _ rfl ⟨s, bb, yv⟩ rfl (own_mods HO.out ((Mods.refl Nil wr).drewN _) (fun _ _ h => h)) rfl (by omega) (by have := HB.out.r.lt; simp; omega) ?_; intro v' w4 o4 m4; have O4 := Lib.hid o4; have B4 := Lib.hid ((HB.out.drewN _).push (own_mods HO.out ((Mods.refl Nil wr).drewN _) (fun _ _ h => h)) m4); clear o4 m4)
        have hout : outV v (a.L.take (i + 1)) = outV v (a.L.take i) ++ [⟨s, bb, yv⟩] := by rw [HSTEP.out, if_neg (by simp), if_pos (by have := HV2.out; omega)]; simp
        exact ⟨⟨i + 1, m + 1, true, by omega, by go_num, rfl, by rw [HST.out]; simp, by rw [hout, List.length_append, HM.out]; rfl, by omega, by rw [hout]; exact O4.out, B4.out⟩, by simp [intOf]; omega⟩
      | false =>
        by_cases h1 : s < vs
        · have g1 : decide ((vs : Int) ≤ (s : Int)) = false := by simp; omega
          have g1N : decide (vs ≤ s) = false := by simp; omega
          have g2 : ((s : Int) != (vs : Int)) = true := by rw [bne_iff_ne]; omega
          have g2N : (s != vs) = true := by rw [bne_iff_ne]; omega
          have HV2 := Lib.hid h1
          clear h1
          go_wp2
          go_quiet (fail)
          go_wp2
          go_quiet (fail)
          go_wp2_with (at_builtin; refine push_vt rfl _ _ rfl ⟨s, bb, yv⟩ rfl (own_mods HO.out ((Mods.refl Nil wr).drewN _) (fun _ _ h => h)) rfl (by omega) (by have := HB.out.r.lt; simp; omega) ?_; intro v' w4 o4 m4; have O4 := Lib.hid o4; have B4 := Lib.hid ((HB.out.drewN _).push (own_mods HO.out ((Mods.refl Nil wr).drewN _) (fun _ _ h => h)) m4); clear o4 m4)
          have hout : outV v (a.L.take (i + 1)) = outV v (a.L.take i) ++ [⟨s, bb, yv⟩] := by rw [HSTEP.out, if_neg (by have := HV2.out; omega), if_pos (by have := HV2.out; omega)]; simp
          exact ⟨⟨i + 1, m + 1, false, by omega, by go_num, rfl, by rw [HST.out]; have := HV2.out; simp; omega, by rw [hout, List.length_append, HM.out]; rfl, by omega, by rw [hout]; exact O4.out, B4.out⟩, by simp [intOf]; omega⟩
        · have g1 : decide ((vs : Int) ≤ (s : Int)) = true := by simp; omega
          have g1N : decide (vs ≤ s) = true := by simp; omega
          by_cases h2 : s = vs
          · subst h2
            clear h1
            have g2 : ((s : Int) != (s : Int)) = false := by simp
            go_wp2
            go_quiet (fail)
            go_wp2_with (at_builtin; refine push_vt rfl _ _ rfl ⟨s, vb, vv⟩ rfl (own_mods HO.out ((Mods.refl Nil wr).drewN _) (fun _ _ h => h)) rfl (by omega) (by have := HB.out.r.lt; simp; omega) ?_; intro v' w4 o4 m4; have O4 := Lib.hid o4; have B4 := Lib.hid ((HB.out.drewN _).push (own_mods HO.out ((Mods.refl Nil wr).drewN _) (fun _ _ h => h)) m4); obtain ⟨⟨x1', x2'⟩, z0', z1', z2'⟩ := HZ.out _ B4.out; obtain ⟨c0', c1', c2'⟩ := (HRV.out.nil B4.out.m).cells HGET.out; simp only at c0' c1' c2'; clear o4 m4)
            go_quiet (fail)
            go_wp2
            have hout : outV v (a.L.take (i + 1)) = outV v (a.L.take i) ++ [⟨s, vb, vv⟩] := by rw [HSTEP.out, if_pos (by simp), if_neg (by simp), HV.out]; simp
            exact ⟨⟨i + 1, m + 1, true, by omega, by go_num, rfl, by rw [HST.out]; simp, by rw [hout, List.length_append, HM.out]; rfl, by omega, by rw [hout]; exact own_mods O4.out ((Mods.refl Nil w4).drewN _) (fun _ _ h => h), B4.out.drewN _⟩, by simp [intOf]; omega⟩
          · have g2 : ((s : Int) != (vs : Int)) = true := by rw [bne_iff_ne]; omega
            have g2N : (s != vs) = true := by rw [bne_iff_ne]; omega
            have HV2 := Lib.hid (show vs < s by omega)
            clear h1 h2
            go_wp2
            go_quiet (fail)
            go_wp2_with (at_builtin; refine push_vt rfl _ _ rfl ⟨vs, vb, vv⟩ rfl (own_mods HO.out ((Mods.refl Nil wr).drewN _) (fun _ _ h => h)) rfl (by omega) (by have := HB.out.r.lt; simp; omega) ?_; intro v' w4 o4 m4; have O4 := Lib.hid o4; have B4 := Lib.hid ((HB.out.drewN _).push (own_mods HO.out ((Mods.refl Nil wr).drewN _) (fun _ _ h => h)) m4); obtain ⟨⟨x1', x2'⟩, z0', z1', z2'⟩ := HZ.out _ B4.out; obtain ⟨c0', c1', c2'⟩ := (HRV.out.nil B4.out.m).cells HGET.out; simp only at c0' c1' c2'; clear o4 m4)
            go_quiet (fail)
            go_wp2_with (at_builtin; refine push_vt rfl _ _ rfl ⟨s, bb, yv⟩ rfl (own_mods O4.out ((Mods.refl Nil w4).drewN _) (fun _ _ h => h)) rfl (by omega) (by have := B4.out.r.lt; simp; omega) ?_; intro v' w5 o5 m5; have O5 := Lib.hid o5; have B5 := Lib.hid ((B4.out.drewN _).push (own_mods O4.out ((Mods.refl Nil w4).drewN _) (fun _ _ h => h)) m5); clear o5 m5)
            have hout : outV v (a.L.take (i + 1)) = outV v (a.L.take i) ++ [⟨vs, vb, vv⟩] ++ [⟨s, bb, yv⟩] := by rw [HSTEP.out, if_pos (by have := HV2.out; simp; omega), if_pos (by have := HV2.out; omega), HV.out]
            exact ⟨⟨i + 1, m + 1 + 1, true, by omega, by go_num, rfl, by rw [HST.out]; have := HV2.out; simp; omega, by rw [hout, List.length_append, List.length_append, HM.out]; rfl, by have h9 := HML.out (i + 1); rw [hout, List.length_append, List.length_append, HM.out] at h9; simpa using h9, by rw [hout]; exact O5.out, B5.out⟩, by simp [intOf]; omega⟩
    · obtain rfl : i = n := by omega
      have HT : Hid (a.L.take i = a.L) := Lib.hid (List.take_of_length_le (by rw [HN.out]; exact Nat.le_refl _))
      rw [HT.out] at HO HM HF
      have HFIN := Lib.hid (outV_fin (v := v) (p := a.L))
      rw [HF.out] at HFIN
      cases f with
      | true =>
        have hout : outV v a.L = insV v a.L := by have := HFIN.out; simpa using this
        rw [hout] at HO HM
        obtain ⟨A2, c2, rfl, r2, ha2⟩ := rvs_own HO.out HM.out
        have R2 := Lib.hid r2
        have HA2 := Lib.hid ha2
        clear r2 hout ha2
        go_wp2_with (refine wpList_store_mk rfl 29 (.tmp 4) (.tmp 73) rfl rfl (w.heap.size + 1 + 1) rfl 29 #[.int .u64 0, .int .u64 0, .slice none 0 0] #[.int .u64 (vb : Int), .int .u64 (q : Int), .slice A2 m c2] rfl HB.out.r rfl (by simp [Value.oneCell']) ac_info (by simp [Value.cells]) ?_; intro w8 b8 m8; have B8 := Lib.hid b8; have M8 := Lib.hid m8; clear b8 m8)
        obtain ⟨y0, y1, y2⟩ := B8.out.three
        refine bodyPost_ret (v := .tuple #[.agg #[.int .u64 (vb : Int), .int .u64 (q : Int), .slice A2 m c2], .int .i64 0]) (by simp [results, Try.results16, go_sem, y0, y1, y2]) rfl ?_
        refine ⟨A2, c2, m, ?_, ?_, fun x hx => .inr (by have := HA2.out x hx; omega), HB.out.m.nil_trans M8.out (fun k hk => by omega)⟩
        · rw [HE.out.1, HE.out.2]
          unfold acC
          simp only [HPQ.out.2, HV.out]
          rfl
        · rw [HE.out.1]
          exact R2.out.mods M8.out (fun a ha => by obtain ⟨cs, hb⟩ := R2.out.ty a ha; exact fun e => hb.ne_ HB.out.r (by decide) e)
      | false =>
        have hout : outV v a.L ++ [v] = insV v a.L := by have := HFIN.out; simpa using this
        have HOUT := Lib.hid hout
        clear hout
        go_wp2_with (first
          | (at_builtin; refine push_vt rfl _ _ rfl ⟨vs, vb, vv⟩ rfl HO.out rfl (by omega) (by have := HB.out.r.lt; omega) ?_; intro v' w4 o4 m4; rw [← HV.out, HOUT.out] at o4; obtain ⟨A2, c2, rfl, r2, ha2⟩ := rvs_own o4 (by rw [← HOUT.out, List.length_append, HM.out]; rfl); have R2 := Lib.hid r2; have HA2 := Lib.hid ha2; have B4 := Lib.hid (HB.out.push HO.out m4); obtain ⟨⟨x1', x2'⟩, z0', z1', z2'⟩ := HZ.out _ B4.out; clear o4 m4 r2 ha2)
          | (refine wpList_store_mk rfl 29 (.tmp 4) (.tmp 73) rfl rfl (w.heap.size + 1 + 1) rfl 29 #[.int .u64 0, .int .u64 0, .slice none 0 0] #[.int .u64 (vb : Int), .int .u64 (q : Int), .slice A2 (m + 1) c2] rfl B4.out.r rfl (by simp [Value.oneCell']) ac_info (by simp [Value.cells]) ?_; intro w8 b8 m8; have B8 := Lib.hid b8; have M8 := Lib.hid m8; clear b8 m8))
        obtain ⟨y0, y1, y2⟩ := B8.out.three
        refine bodyPost_ret (v := .tuple #[.agg #[.int .u64 (vb : Int), .int .u64 (q : Int), .slice A2 (m + 1) c2], .int .i64 0]) (by simp [results, Try.results16, go_sem, y0, y1, y2]) rfl ?_
        refine ⟨A2, c2, m + 1, ?_, ?_, fun x hx => .inr (by have := HA2.out x hx; omega), B4.out.m.nil_trans M8.out (fun k hk => by omega)⟩
        · rw [HE.out.1, HE.out.2]
          unfold acC
          simp only [HPQ.out.2, HV.out]
          rfl
        · rw [HE.out.1]
          exact R2.out.mods M8.out (fun a ha => by obtain ⟨cs, hb⟩ := R2.out.ty a ha; exact fun e => hb.ne_ B4.out.r (by decide) e)
theorem r13acc_any (w : World) {a : PAc} {A : Option Addr} {n c : Nat} (h : RVs w A c n a.L) (hn : n ≤ 1000) (hrise : riseV a.L) (v : PVt) :
    Calls Try.prog 16 #[.agg (acC a A n c), .agg #[.int .u64 (v.slot : Int), .int .u64 (v.bal : Int), .string (strOf v.val)]] w (RAcc w a A v) := by
  by_cases hb : v.bal < a.prom ∨ v.slot < a.low
  · exact r13acc_bad w h v hb
  · exact r13acc_ok w h hn hrise v (fun h => hb (.inl h)) (fun h => hb (.inr h))
end Go.Proofs.Ythkejoabppocoaa
