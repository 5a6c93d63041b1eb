/- The reference of layer 13: Forget, Accept. -/
import Derived.Test.YthkejoabppocoaaRef13a
import Derived.Deep.QuietTactic
import Derived.BigQuiet
namespace Go.Proofs.Ythkejoabppocoaa
set_option maxRecDepth 100000
open Go.RowKit
set_option linter.unusedVariables false
set_option linter.unusedSimpArgs false

/-- What Forget tells. -/
def RForg (w : World) (a : PAc) (A : Option Addr) (n c s : Nat) (e : Ending) (w' : World) : Prop :=
  ∃ A' c' n', e = .returned (.agg (acC (a.forget s) A' n' c')) ∧ RVs w' A' c' n' (a.forget s).L ∧ (∀ x, A' = some x → A = some x ∨ w.heap.size ≤ x.block) ∧ Mods Nil w w'

set_option maxHeartbeats 3200000 in
theorem r13forg_any (w : World) {a : PAc} {A : Option Addr} {n c : Nat} (h : RVs w A c n a.L) (hn : n ≤ 1000) (f : Nat) :
    Calls Try.prog 18 #[.agg (acC a A n c), .int .u64 (f : Int)] w (RForg w a A n c f) := by
  obtain ⟨p, hp⟩ : ∃ p, a.prom = p := ⟨_, rfl⟩
  obtain ⟨q, hq⟩ : ∃ q, a.low = q := ⟨_, rfl⟩
  have HRV := Lib.hid h
  show Calls _ _ #[.agg #[.int .u64 (a.prom : Int), .int .u64 (a.low : Int), .slice A n c], _] _ _
  rw [hp, hq]
  by_cases hb : f ≤ q
  · have hbI : decide ((f : Int) ≤ (q : Int)) = true := by simp; omega
    have hbN : decide (f ≤ q) = true := by simp; omega
    have HE : Hid (a.forget f = a) := Lib.hid (by unfold PAc.forget; rw [hq]; simp [hb])
    have HPQ := Lib.hid (And.intro hp hq)
    clear h hb hp hq
    go_enter Try.func18, Try.ntmps18
    go_wp2
    have e2 := Blk.new (w.alloc (.cells #[.int .u64 (p : Int), .int .u64 (q : Int), .slice A n c] 29)) 29 #[.int .u64 (p : Int), .int .u64 (q : Int), .slice A n c]
    simp only [World.size_alloc] at e2
    obtain ⟨x0, x1, x2⟩ := e2.three
    refine bodyPost_ret (v := .agg #[.int .u64 (p : Int), .int .u64 (q : Int), .slice A n c]) (by simp [results, Try.results18, go_sem, x0, x1, x2]) rfl ?_
    refine ⟨A, c, n, ?_, ?_, fun x hx => .inl hx, ((Mods.refl Nil w).alloc _).alloc _⟩
    · rw [HE.out]
      unfold acC
      rw [HPQ.out.1, HPQ.out.2]
    · rw [HE.out]
      exact HRV.out.nil (((Mods.refl Nil w).alloc _).alloc _)
  · have hbI : decide ((f : Int) ≤ (q : Int)) = false := by simp; omega
    have hbN : decide (f ≤ q) = false := by simp; omega
    have HE : Hid (a.forget f = { a with low := f, L := fromV f a.L }) := Lib.hid (by unfold PAc.forget; rw [hq]; simp [hb])
    have HPQ := Lib.hid hp
    have HN := Lib.hid h.len
    clear h hb hp hq
    go_enter Try.func18, Try.ntmps18
    go_wp2
    go_loopw [5, 6] (fun v x wr => ∃ (i m : Nat), i ≤ n ∧ x = .int .i64 (i : Int) ∧ (fromV f (a.L.take i)).length = m ∧ m ≤ i ∧ wr.ownsRow w.heap.size 47 3 v m (vtCs (fromV f (a.L.take i))) ∧ Blk wr w.heap.size 29 #[.int .u64 (p : Int), .int .u64 (q : Int), .slice A n c] ∧ Blk wr (w.heap.size + 1) 29 #[.int .u64 0, .int .u64 0, .slice none 0 0] ∧ Mods Nil w wr) (fun _ x _ => n - (intOf x).toNat)
    case atStart =>
      refine ⟨0, 0, by omega, rfl, by simp [fromV], by omega, by simpa [fromV, vtCs] using World.ownsRow_nil _ _ _ _, (Blk.new w _ _).alloc _, ?_, ((Mods.refl Nil w).alloc _).alloc _⟩
      have := Blk.new (w.alloc (.cells #[.int .u64 (p : Int), .int .u64 (q : Int), .slice A n c] 29)) 29 #[.int .u64 0, .int .u64 0, .slice none 0 0]
      simpa using this
    case round =>
      obtain ⟨i, m, hi, rfl, hm, hmi, ho, hb1, hb2, hmo⟩ := hrel
      have HO := Lib.hid ho
      have HMO := Lib.hid hmo
      have HM := Lib.hid hm
      have HB1 := Lib.hid hb1
      have HB2 := Lib.hid hb2
      obtain ⟨x0, x1, x2⟩ := hb1.three
      clear ho hmo hm hb1 hb2
      by_cases hlt : i < n
      · have hltI : (i : Int) < (n : Int) := by omega
        have hiL : i < a.L.length := by rw [HN.out]; exact hlt
        obtain ⟨blk, off, rfl, hbl, c0, c1, c2⟩ := (HRV.out.nil HMO.out).at_ hlt
        have hsn := take_vt hiL
        obtain ⟨y, hy⟩ : ∃ y, a.L[i] = y := ⟨_, rfl⟩
        rw [hy] at c0 c1 c2 hsn
        obtain ⟨s, bb, vv⟩ := y
        simp only at c0 c1 c2
        have HSN := Lib.hid hsn
        clear hsn hy hiL
        by_cases hf : f ≤ s
        · have hfI : decide ((f : Int) ≤ (s : Int)) = true := by simp; omega
          have hfN : decide (f ≤ s) = true := by simp; omega
          go_wp2_with (at_builtin; refine push_vt rfl _ _ rfl ⟨s, bb, vv⟩ rfl HO.out rfl (by omega) (by have := HMO.out.size; omega) ?_; intro v' w4 o4 m4; have O4 := Lib.hid o4; have M4 := Lib.hid (own_nilm HO.out (Nat.le_refl _) HMO.out m4); have B41 := Lib.hid (own_box HO.out HB1.out m4); have B42 := Lib.hid (own_box HO.out HB2.out m4); clear o4 m4)
          exact ⟨⟨i + 1, m + 1, by omega, by go_num, by rw [HSN.out, fromV_snoc, if_pos hf, List.length_append, HM.out]; rfl, by omega, by rw [HSN.out, fromV_snoc, if_pos hf]; exact O4.out, B41.out, B42.out, M4.out⟩, by simp [intOf]; omega⟩
        · have hfI : decide ((f : Int) ≤ (s : Int)) = false := by simp; omega
          have hfN : decide (f ≤ s) = false := by simp; omega
          go_wp2
          exact ⟨⟨i + 1, m, by omega, by go_num, by rw [HSN.out, fromV_snoc, if_neg hf, HM.out], by omega, by rw [HSN.out, fromV_snoc, if_neg hf]; exact HO.out, HB1.out, HB2.out, HMO.out⟩, by simp [intOf]; omega⟩
      · obtain rfl : i = n := by omega
        have HT : Hid (a.L.take i = a.L) := Lib.hid (List.take_of_length_le (by rw [HN.out]; exact Nat.le_refl _))
        rw [HT.out] at HO HM
        obtain ⟨A2, c2, rfl, r2, ha2⟩ := rvs_own HO.out HM.out
        have R2 := Lib.hid r2
        have HA2 := Lib.hid ha2
        clear r2 ha2
        go_wp2_with (refine wpList_store_mk rfl 29 (.tmp 4) (.tmp 39) rfl rfl (w.heap.size + 1) rfl 29 #[.int .u64 0, .int .u64 0, .slice none 0 0] #[.int .u64 (p : Int), .int .u64 (f : Int), .slice A2 m c2] rfl HB2.out rfl (by simp [Value.oneCell']) ac_info (by simp [Value.cells]) ?_; intro w8 b8 m8; have B8 := Lib.hid b8; have M8 := Lib.hid m8; clear b8 m8)
        obtain ⟨y0, y1, y2⟩ := B8.out.three
        refine bodyPost_ret (v := .agg #[.int .u64 (p : Int), .int .u64 (f : Int), .slice A2 m c2]) (by simp [results, Try.results18, go_sem, y0, y1, y2]) rfl ?_
        refine ⟨A2, c2, m, ?_, ?_, fun x hx => .inr (HA2.out x hx), HMO.out.nil_trans M8.out (fun k hk => by omega)⟩
        · rw [HE.out]
          unfold acC
          simp only [HPQ.out]
        · rw [HE.out]
          exact R2.out.mods M8.out (fun a ha => by obtain ⟨cs, hb⟩ := R2.out.ty a ha; exact fun e => hb.ne_ HB2.out (by decide) e)

/-- What stands ahead of a place, with the vote in it as soon as it is due. -/
def stV (v : PVt) (p : List PVt) : Bool := p.any (fun x => decide (v.slot ≤ x.slot))
def outV (v : PVt) (p : List PVt) : List PVt := if stV v p then insV v p else p
theorem stV_false {v : PVt} {p : List PVt} : stV v p = false ↔ ∀ x ∈ p, x.slot < v.slot := by
  unfold stV
  rw [List.any_eq_false]
  constructor
  · intro h x hx
    have := h x hx
    simp at this
    omega
  · intro h x hx
    have := h x hx
    simp
    omega
theorem stV_snoc (v : PVt) (p : List PVt) (x : PVt) : stV v (p ++ [x]) = (stV v p || decide (v.slot ≤ x.slot)) := by simp [stV, List.any_append]
theorem outV_len (v : PVt) (p : List PVt) : (outV v p).length ≤ p.length + 1 := by
  unfold outV
  split
  · exact insV_len v p
  · omega
theorem outV_false {v : PVt} {p : List PVt} (h : stV v p = false) : outV v p = p := by unfold outV; rw [h]; simp
theorem outV_fin {v : PVt} {p : List PVt} : (if stV v p then outV v p else outV v p ++ [v]) = insV v p := by
  by_cases h : stV v p = true
  · rw [if_pos h]; unfold outV; rw [if_pos h]
  · have h' : stV v p = false := by simpa using h
    rw [if_neg h, outV_false h', insV_below (stV_false.1 h')]
/-- One place further: the vote is due, or isn't; the one that stands there is kept, or isn't. -/
theorem outV_snoc {v x : PVt} {p : List PVt} (h : riseV (p ++ [x])) : outV v (p ++ [x]) = outV v p ++ (if v.slot ≤ x.slot ∧ stV v p = false then [v] else []) ++ (if x.slot ≠ v.slot then [x] else []) := by
  obtain ⟨hr, hx⟩ := h.snoc
  cases hs : stV v p with
  | false =>
    have hb := stV_false.1 hs
    rw [outV_false hs]
    by_cases h1 : v.slot ≤ x.slot
    · have h2 : stV v (p ++ [x]) = true := by rw [stV_snoc]; simp [h1]
      unfold outV
      rw [if_pos h2, if_pos ⟨h1, rfl⟩]
      by_cases h3 : x.slot = v.slot
      · rw [if_neg (by simp [h3]), insV_same hb h3]; simp
      · rw [if_pos h3, insV_above (by omega), insV_below hb]
    · have h2 : stV v (p ++ [x]) = false := by rw [stV_snoc, hs]; simp; omega
      rw [outV_false h2, if_neg (by omega), if_pos (by omega)]; simp
  | true =>
    have h2 : stV v (p ++ [x]) = true := by rw [stV_snoc, hs]; simp
    obtain ⟨y, hy, hvy⟩ : ∃ y ∈ p, v.slot ≤ y.slot := by
      unfold stV at hs
      obtain ⟨y, hy, h⟩ := List.any_eq_true.1 hs
      exact ⟨y, hy, by simpa using h⟩
    have := hx y hy
    unfold outV
    rw [if_pos h2, hs, if_pos rfl, if_neg (by simp), if_pos (by omega), insV_above (by omega)]
    simp
end Go.Proofs.Ythkejoabppocoaa
