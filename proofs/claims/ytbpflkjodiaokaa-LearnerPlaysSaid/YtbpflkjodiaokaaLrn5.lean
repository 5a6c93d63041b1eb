/- Package learner: Learn. -/
import Derived.Test.YtbpflkjodiaokaaLrn1
import Derived.Deep.RegionHeld
import Derived.Deep.CutRange
import Derived.Laws.Cover1
namespace Go.Proofs.Ytbpflkjodiaokaa
set_option maxRecDepth 100000
open Go.RowKit Go.Maps
set_option linter.unusedVariables false
set_option linter.unusedSimpArgs false
theorem lvals_some (mb : Nat) (w : World) : (binOp .eql 51 (.map (some mb)) (.map none)).run Try.prog w = .ok (.bool false) w := by kernel_rfl
theorem lvals_nil (w : World) : (binOp .eql 51 (.map none) (.map none)).run Try.prog w = .ok (.bool true) w := by kernel_rfl
attribute [local go_sem] lvals_nil lvals_some
section
variable {W0 W W' : World} {X S Y : Nat → Prop} {b T mb : Nat} {L : List KV} {mv : Value}
theorem LMapH.v (h : LMapH W0 W X b L T mb) : LMap W0 W X b L T (.map (some mb)) := .inr ⟨mb, rfl, h⟩
/-- A map that was made. -/
theorem LMapH.made (T b : Nat) (h0 : W0.heap.size ≤ W.heap.size) (hX : ∀ k, X k → k < W.heap.size) : LMapH W0 (W.alloc (.map #[] 0)) X b [] T W.heap.size :=
  ⟨0, _, KMap.made W Try.prog 29, Nat.zero_le _, h0, fun h => by have := hX _ h; omega, fun s hs => ⟨fun _ => rfl, fun v hv => by rw [lookL_nil] at hv; cases hv⟩⟩
theorem lookL_same {L : List KV} {s : Nat} {v : List UInt8} (h : lookL L s = none) : lookL (L ++ [(s, v)]) s = some v := by
  rw [lookL_snoc, h]
  exact if_pos rfl
theorem lookL_other {L : List KV} {s t : Nat} {v : List UInt8} (h : t ≠ s) : lookL (L ++ [(s, v)]) t = lookL L t := by
  rw [lookL_snoc]
  cases lookL L t with
  | some u => rfl
  | none => exact if_neg (fun e => h e.symm)
/-- A value is laid. -/
theorem LMapH.put (h : LMapH W0 W X b L T mb) {s : Nat} {v : List UInt8} (hno : lookL L s = none) (hs : s < 18446744073709551616) (hT : T ≤ 1000) {A : Option Addr} {c n : Nat} (hn : v.length = n) (hn2 : n ≤ 100000) (hv : Sl W A c (bts v))
    (hA : bts v ≠ [] → ∀ a, A = some a → LFar W0 W X b mb a.block) :
    ∃ W', (Instr.mapUpdate 51 (.map (some mb)) (.int .u64 (s : Int)) (.slice A n c)).run Try.prog W = .ok () W' ∧ LMapH W0 W' X b (L ++ [(s, v)]) (T + 1) mb ∧ Mods (fun i => i = mb) W W' := by
  subst hn
  obtain ⟨m, f, h1, h2, h3, h4, h5⟩ := h
  obtain ⟨W', r, ⟨k, k1, k2, k3⟩, hm⟩ := h1.put (int_keyed Try.underlying29) Try.underlying51 (keyUL14 Try.underlying29 hs) (by unfold maxLen; omega) (.slice A v.length c)
  refine ⟨W', r, ⟨k, _, k1, by omega, h3, h4, fun t ht => ?_⟩, hm⟩
  by_cases he : t = s
  · subst he
    rw [lookL_same hno]
    refine ⟨fun h => (by cases h), fun u hu => ?_⟩
    injection hu with hu
    subst hu
    exact ⟨A, c, updK_same _ _ _, hv.mods' hm (fun hne a ha h => (hA hne a ha).2.2.2.1 h), fun hne a ha => (hA hne a ha).mods hm, hn2⟩
  · have hne : (Value.int .u64 (t : Int)) ≠ .int .u64 (s : Int) := fun e => by injection e with _ e; exact he (by omega)
    have := (h5 t ht).mods (F' := LFar W0 W' X b mb) hm (fun q hq => hq.2.2.2.1) (fun q hq => hq.mods hm)
    rw [lookL_other he]
    refine ⟨fun h => ?_, fun u hu => ?_⟩
    · rw [updK_ne hne]; exact this.none_ h
    · rw [updK_ne hne]; exact this.some_ u hu
end
/-- Bytes lie in no learner's own block. -/
theorem lbytes_off {w : World} {b : Nat} {t : TypeId} {x y : Int} {mo : Option Nat} {A : Option Addr} {c : Nat} {xs : List UInt8} (hb : Blk w b t #[.map mo, .int .u64 x, .int .u64 y]) (hs : Sl w A c (bts xs)) : bts xs ≠ [] → Off (fun k => k = b) A := by
  intro hne ad had he
  subst had
  have hlen : 0 < (bts xs).length := List.length_pos_iff.2 hne
  obtain ⟨blk, off, e, _, hc⟩ := hs.has.at_ hlen
  injection e with e
  subst e
  replace he : blk = b := he
  subst he
  obtain ⟨z, hz⟩ : ∃ z, (bts xs)[0]? = some (.int .u8 z) := by
    cases xs with
    | nil => simp [bts] at hlen
    | cons q r => exact ⟨(q.toNat : Int), by simp [bts]⟩
  have h1 := hc 0 _ hz
  rw [Nat.add_zero, hb.cell off] at h1
  match off, h1 with
  | 0, h1 => simp at h1
  | 1, h1 => simp at h1
  | 2, h1 => simp at h1
  | n + 3, h1 => simp at h1
/-- What a cell counts. -/
def cellN (w : World) (b : Nat) : Nat :=
  match w.cell? ⟨b, 1, none⟩ with
  | some (.int _ i) => i.toNat
  | _ => 0
theorem cellN_of {w : World} {b : Nat} {t : TypeId} {x y : Value} {r : Nat} (h : Blk w b t #[x, .int .u64 (r : Int), y]) : cellN w b = r := by
  unfold cellN
  have := h.cell 1
  simp at this
  rw [this]
  simp
section
variable {W0 W W' : World} {X S Y : Nat → Prop} {b T mb : Nat} {L : List KV} {mv : Value}
/-- What Learn tells. -/
def LearnT (W0 W : World) (X : Nat → Prop) (b : Nat) (L : List KV) (T s : Nat) (v : List UInt8) (e : Ending) (W' : World) : Prop :=
  e = .returned (.int .i64 (learnE L s v : Int)) ∧ LrS W0 W' X b (learnL L s v) (T + 1) ∧ Mods (LM W0 X) W W'
set_option maxHeartbeats 8000000 in
theorem LrS.learn0 (h : LrS W0 W X b L T) (hT : T ≤ 1000) {s : Nat} (hs : s < 18446744073709551616) {v : List UInt8} {n c : Nat} {A : Option Addr} (hn : v.length = n) (hn2 : n ≤ 100000) (hv : Sl W A c (bts v)) :
    Calls Try.prog 9 #[.pointer (some ⟨b, 0, none⟩), .int .u64 (s : Int), .slice A n c] W (LearnT W0 W X b L T s v) := by
  have H0 := Lib.hid h
  have HV := Lib.hid hv
  have HN := Lib.hid hn
  by_cases hend : s = 18446744073709551615
  · have hE : learnE L s v = 37 := by unfold learnE; rw [if_pos hend]
    have hL : learnL L s v = L := by unfold learnL; rw [if_pos hend]
    have hsI : ((s : Int) == 18446744073709551615) = true := by subst hend; rfl
    unfold LearnT
    rw [hE, hL]
    clear h hv hn hE hL hend
    go_enter Try.func9, Try.ntmps9
    go_wp2
    go_ret
    exact ⟨rfl, H0.out.mono_T (by omega), Mods.refl _ _⟩
  · have hsI : ((s : Int) == 18446744073709551615) = false := by simp; omega
    have hs5 : s < 18446744073709551615 := by omega
    have HEND := Lib.hid hend
    obtain ⟨mv, r, h0, h1, h2⟩ := h.blk
    obtain ⟨A1, n1, c1, g1, g2, g3⟩ := h2.look hs (S := Nil) (fun _ _ h => h)
    obtain ⟨mo, rfl⟩ := h2.form
    have k0 := h1.cell 0
    have k2 := h1.cell 2
    simp at k0 k2
    have z := g1 W (Mods.refl _ _)
    cases hl : lookL L s with
    | some u =>
      have hE : learnE L s v = if u = v then 31 else 33 := by unfold learnE; rw [if_neg hend, hl]
      have hL : learnL L s v = L := by unfold learnL; rw [if_neg hend, hl]
      rw [hl] at z
      obtain ⟨q1, q2, q3⟩ := g2 u hl
      have HA := Lib.hid (again_any q1 hn q3 hv)
      have HE : Hid (((if u = v then 31 else 33 : Int)) = (learnE L s v : Int)) := Lib.hid (by rw [hE]; split <;> rfl)
      have HLL := Lib.hid hL
      clear h hv hn hE hL hend h0 h1 h2 g1 g2 g3 hl q1 q2 q3
      go_enter Try.func9, Try.ntmps9
      go_wp2_with (go_at_call 21; refine HA.out.mono ?_; rintro e w' ⟨he, rfl⟩; rw [HE.out] at he; subst he)
      go_ret
      unfold LearnT
      rw [HLL.out]
      exact ⟨rfl, H0.out.mono_T (by omega), Mods.refl _ _⟩
    | none =>
      have hE : learnE L s v = 0 := by unfold learnE; rw [if_neg hend, hl]
      have hL : learnL L s v = L ++ [(s, v)] := by unfold learnL; rw [if_neg hend, hl]
      rw [hl] at z
      have hr5 := known_le h.ok h0.1
      have ht5 := topL_lt h.ok
      obtain ⟨tp, htp⟩ : ∃ tp, topL L = tp := ⟨_, rfl⟩
      obtain ⟨L', hL'⟩ : ∃ L', L ++ [(s, v)] = L' := ⟨_, rfl⟩
      obtain ⟨tq, htq⟩ : ∃ tq, max tp (s + 1) = tq := ⟨_, rfl⟩
      have hTQ : Hid (topL L' = tq) := Lib.hid (by rw [← hL', topL_snoc, htp, htq])
      have hw1 : IntKind.u64.wrap ((s : Int) + 1) = (s : Int) + 1 := by rw [IntKind.wrap_u64]; omega
      have hmx : ∀ (V : World) (ts : Array TypeId) (ty : TypeId), (Builtin.max_ ts ty #[.int .u64 (tp : Int), .int .u64 ((s : Int) + 1)]).run Try.prog V = .ok (.int .u64 (tq : Int)) V := fun V ts ty => by
        have e : (if (tp : Int) < (s : Int) + 1 then (s : Int) + 1 else (tp : Int)) = (tq : Int) := by split <;> omega
        simp [Builtin.max_, Builtin.max2, e]
      have hok' : ∀ p ∈ L', p.1 < 18446744073709551615 := by
        intro p hp
        rw [← hL'] at hp
        rcases List.mem_append.1 hp with hp | hp
        · exact h.ok p hp
        · rw [List.mem_singleton.1 hp]; exact hs5
      have hlen' : L'.length ≤ T + 1 := by rw [← hL']; have := h.len; simp; omega
      have hkn : ∀ m, m < r → (lookL L' m).isSome = true := fun m hm => by
        rw [← hL', lookL_snoc]
        have := h0.1 m hm
        cases hq : lookL L m with
        | some u => rfl
        | none => rw [hq] at this; cases this
      rw [htp] at h1 k2
      have HK := Lib.hid hkn
      have HNO := Lib.hid hl
      have HL2 := Lib.hid hL'
      have HVB := Lib.hid (lbytes_off h1 hv)
      have HOK := Lib.hid hok'
      have HFIN : Hid (∀ W7 r' MB, nextP L' r' → Blk W7 b 53 #[.map (some MB), .int .u64 (r' : Int), .int .u64 (tq : Int)] → LMapH W0 W7 X b L' (T + 1) MB → Mods (LM W0 X) W W7 → LearnT W0 W X b L T s v (.returned (.int .i64 0)) W7) := Lib.hid (fun W7 r' MB q0 q1 q2 q3 => by
        unfold LearnT
        rw [hE, hL, hL']
        exact ⟨rfl, ⟨H0.out.lm q3, hok', hlen', fun k hk => Nat.lt_of_lt_of_le (H0.out.old k hk) q3.size, H0.out.lo, H0.out.nx, _, r', q0, by rw [hTQ.out]; exact q1, .inr ⟨MB, rfl, q2⟩⟩, q3⟩)
      have K1 := Lib.hid h1
      have hbW := h1.lt
      have hmm := @run_makeMap Try.prog
      rcases h2 with ⟨e2, hLn⟩ | ⟨mb, e2, hM⟩
      · injection e2 with e2
        subst e2
        have f2 : ∀ m, ((W.drewN m).alloc (.map #[] 0)).frozen? ⟨b, 0, none⟩ = false := fun m => ((K1.out.drewN m).alloc _).frozen 0
        have f3 : (W.alloc (.map #[] 0)).frozen? ⟨b, 0, none⟩ = false := (K1.out.alloc _).frozen 0
        have HLN := Lib.hid hLn
        have HBW := Lib.hid hbW
        clear h hv hn hE hL hend h0 h1 g1 g2 g3 hl hkn hok' hlen' hL' htp htq hLn
        go_enter Try.func9, Try.ntmps9
        go_wp2_with fail
        have m5 : Mods (fun k => k = b) W ((W.setCell ⟨b, 0, none⟩ (.map (some W.heap.size))).alloc (.map #[] 0)) := (Mods.setCell (S := fun k => k = b) (Mods.refl _ _) (fun _ => rfl) _).alloc _
        have b5 := (K1.out.set_ 0 (.map (some W.heap.size))).alloc (.map #[] 0)
        have mh5 : LMapH W0 ((W.setCell ⟨b, 0, none⟩ (.map (some W.heap.size))).alloc (.map #[] 0)) X b L T W.heap.size := by
          rw [HLN.out]
          have hz : (W.setCell ⟨b, 0, none⟩ (.map (some W.heap.size))).heap.size = W.heap.size := by simp [World.setCell]
          have h0 : LMapH W0 ((W.setCell ⟨b, 0, none⟩ (.map (some W.heap.size))).alloc (.map #[] 0)) X b [] T (W.setCell ⟨b, 0, none⟩ (.map (some W.heap.size))).heap.size := LMapH.made T b (by rw [hz]; exact H0.out.m.size) (by rw [hz]; exact H0.out.old)
          rw [hz] at h0
          exact h0
        have hmo : W.heap.size = W.heap.size := rfl
        obtain ⟨W5, hW5⟩ : ∃ W5, (W.setCell ⟨b, 0, none⟩ (.map (some W.heap.size))).alloc (.map #[] 0) = W5 := ⟨_, rfl⟩
        rw [hW5] at m5 b5 mh5 ⊢
        obtain ⟨MB, hMB⟩ : ∃ MB, W.heap.size = MB := ⟨_, rfl⟩
        rw [hMB] at b5 mh5
        have hb5 : Blk W5 b 53 #[.map (some MB), .int .u64 (r : Int), .int .u64 (tp : Int)] := by simpa using b5
        clear hW5 hMB hmo b5
        have HNE : Hid (MB ≠ b) := Lib.hid (mh5.ne hb5)
        have B5 := Lib.hid hb5
        have MH5 := Lib.hid mh5
        have M15 := Lib.hid m5
        clear m5 mh5 hb5
        have HMX : Hid (LM W0 X MB) := Lib.hid MH5.out.lm
        have V5 : Hid (Sl W5 A c (bts v)) := Lib.hid (HV.out.mods' M15.out HVB.out)
        have HFR : Hid (∀ w6, Mods Nil W5 w6 → ∀ k, W5.heap.size ≤ k → k < w6.heap.size → LFar W0 w6 X b MB k) := Lib.hid (fun w6 hm k hk1 hk2 => by
          have q1 := H0.out.m.size
          have q2 := M15.out.size
          have q3 := B5.out.lt
          have q4 := MH5.out.lt
          exact ⟨by omega, fun hx => (by have := H0.out.old k hx; omega), by omega, by omega, hk2⟩)
        have q2 : ∀ V, Mods (fun k => k = MB) W5 V → V.cell? ⟨b, 0, none⟩ = some (.map (some MB)) := fun V hV => (B5.out.mods hV (fun h => HNE.out h.symm)).cell 0
        have HCP : Hid (Calls Try.prog 22 #[.slice A n c] W5.drew (Cloned W5.drew v n)) := Lib.hid (clone_any HN.out (by omega) (V5.out.mods (Mods.refl Nil W5).drew (fun _ _ h => h)))
        have z5 : Mods (fun k => k = MB) W5 W5.drew := (Mods.refl _ W5).drew
        go_region_held (fun V => Mods (fun k => k = MB) W5 V) (first | assumption) (first
          | (go_at_call 22; refine HCP.out.mono ?_; rintro e w6 ⟨A6, k6, rfl, s6, m6, f6⟩; have m56 : Mods Nil W5 w6 := (Mods.refl Nil W5).drew.trans m6; obtain ⟨W7, r7, h7, m7⟩ := (MH5.out.mods m56 (fun _ _ _ _ h => h) (fun h => h)).put HNO.out hs hT HN.out hn2 s6 (fun hne ad had => HFR.out w6 m56 ad.block (f6 hne ad had).1 (by obtain ⟨cs, hb⟩ := (f6 hne ad had).2; exact hb.lt)); have z6 : Mods (fun k => k = MB) W5 w6 := m56.mono (fun _ _ h => h.elim); have z7 : Mods (fun k => k = MB) W5 W7 := z6.trans m7; have H7 := Lib.hid h7; have M7 := Lib.hid m7; have M56 := Lib.hid m56; clear s6 f6 m6 h7 m7))
        have b7 := (B5.out.mods M56.out (fun h => h)).mods M7.out (fun h => HNE.out h.symm)
        have y2 := b7.cell 2
        have y3 := b7.frozen 2
        simp at y2
        have B7 := Lib.hid b7
        clear b7
        go_wp2_with fail
        have m8 : Mods (fun k => k = b) W7 (W7.setCell ⟨b, 2, none⟩ (.int .u64 (tq : Int))) := Mods.setCell (S := fun k => k = b) (Mods.refl _ _) (fun _ => rfl) _
        have b8 : Blk (W7.setCell ⟨b, 2, none⟩ (.int .u64 (tq : Int))) b 53 #[.map (some MB), .int .u64 (r : Int), .int .u64 (tq : Int)] := by simpa using B7.out.set_ 2 (.int .u64 (tq : Int))
        have h8 : LMapH W0 (W7.setCell ⟨b, 2, none⟩ (.int .u64 (tq : Int))) X b L' (T + 1) MB := by
          rw [← HL2.out]
          exact H7.out.mods m8 (fun k _ _ h1 h2 => h1 h2) HNE.out
        obtain ⟨W8, hW8⟩ : ∃ W8, W7.setCell ⟨b, 2, none⟩ (.int .u64 (tq : Int)) = W8 := ⟨_, rfl⟩
        rw [hW8] at m8 b8 h8 ⊢
        clear hW8 y2 y3 q2 z5 r7 z6 z7 hmx hw1
        have H8 := Lib.hid h8
        have M8 := Lib.hid m8
        have B8 := Lib.hid b8
        have HLK : Hid (∀ t : Nat, t < 18446744073709551616 → LookT W8 L' (.map (some MB)) t (fun k => k = b)) := Lib.hid (fun t ht => h8.v.look ht (fun k hk e => by injection hk with hk; injection hk with hk; exact HNE.out (by rw [hk]; exact e)))
        clear h8 m8 b8
        go_loopw [] (fun wr => ∃ r' : Nat, Hid (∀ m, m < r' → (lookL L' m).isSome = true) ∧ Hid (Blk wr b 53 #[.map (some MB), .int .u64 (r' : Int), .int .u64 (tq : Int)]) ∧ Hid (Mods (fun k => k = b) W8 wr)) (fun wr => 18446744073709551615 - cellN wr b)
        case atStart => exact ⟨r, HK, B8, Lib.hid (Mods.refl _ _)⟩
        case round =>
          obtain ⟨r', HKR, HBR, HMR⟩ := hrel
          have hr5' := known_le HOK.out HKR.out
          have e0 := HBR.out.cell 0
          have e1 := HBR.out.cell 1
          have e2 := HBR.out.frozen 1
          simp at e0 e1
          obtain ⟨Ax, nx, cx, x1, -, -⟩ := HLK.out r' (by omega)
          have xz := x1 wr HMR.out
          cases hlr : lookL L' r' with
          | none =>
            rw [hlr] at xz
            have HKN := Lib.hid (knows_any e0 xz)
            have HNX : Hid (nextP L' r') := Lib.hid ⟨HKR.out, hlr⟩
            clear x1 xz hlr
            go_wp2_with (go_at_call 23; refine HKN.out.mono ?_; rintro e w2 ⟨rfl, rfl⟩)
            go_ret
            exact HFIN.out wr r' MB HNX.out HBR.out (H8.out.mods HMR.out (fun k _ _ h1 h2 => h1 h2) HNE.out) ((M15.out.mono (fun k _ h => by subst h; exact ⟨H0.out.lo, H0.out.nx⟩)).trans ((M56.out.mono (fun _ _ h => h.elim)).trans ((M7.out.mono (fun k _ h => by subst h; exact HMX.out)).trans ((M8.out.trans HMR.out).mono (fun k _ h => by subst h; exact ⟨H0.out.lo, H0.out.nx⟩)))))
          | some vr =>
            rw [hlr] at xz
            have HKN := Lib.hid (knows_any e0 xz)
            have hrlt : r' < 18446744073709551615 := by
              rcases Nat.lt_or_ge r' 18446744073709551615 with h | h
              · exact h
              · rw [look_end HOK.out h] at hlr; cases hlr
            have hw2 : IntKind.u64.wrap ((r' : Int) + 1) = ((r' + 1 : Nat) : Int) := by rw [IntKind.wrap_u64]; omega
            have HSM : Hid ((lookL L' r').isSome = true) := Lib.hid (by rw [hlr]; rfl)
            have HCN := Lib.hid (cellN_of HBR.out)
            clear x1 xz hlr
            go_wp2_with (go_at_call 23; refine HKN.out.mono ?_; rintro e w2 ⟨rfl, rfl⟩)
            have bN : Blk (wr.setCell ⟨b, 1, none⟩ (.int .u64 ((r' + 1 : Nat) : Int))) b 53 #[.map (some MB), .int .u64 ((r' + 1 : Nat) : Int), .int .u64 (tq : Int)] := by simpa using HBR.out.set_ 1 (.int .u64 ((r' + 1 : Nat) : Int))
            refine ⟨⟨r' + 1, Lib.hid (fun m hm => ?_), Lib.hid bN, Lib.hid (HMR.out.trans (Mods.setCell (S := fun k => k = b) (Mods.refl _ _) (fun _ => rfl) _))⟩, ?_⟩
            · rcases Nat.lt_or_ge m r' with h | h
              · exact HKR.out m h
              · obtain rfl : m = r' := by omega
                exact HSM.out
            · rw [show cellN (wr.setCell ⟨b, 1, none⟩ (.int .u64 ((r' : Int) + 1))) b = r' + 1 from cellN_of bN, HCN.out]; omega
      · injection e2 with e2
        subst e2
        have HBW := Lib.hid hbW
        have HM := Lib.hid hM
        clear h hv hn hE hL hend h0 h1 g1 g2 g3 hl hkn hok' hlen' hL' htp htq hM
        go_enter Try.func9, Try.ntmps9
        go_wp2_with fail
        have m5 : Mods (fun k => k = b) W W := Mods.refl _ _
        have mh5 := HM.out
        have hb5 := K1.out
        obtain ⟨W5, hW5⟩ : ∃ W5, W5 = W := ⟨_, rfl⟩
        rw [← hW5] at hb5 mh5 ⊢
        replace m5 : Mods (fun k => k = b) W W5 := by rw [hW5]; exact m5
        obtain ⟨MB, hMB⟩ : ∃ MB, mb = MB := ⟨_, rfl⟩
        rw [hMB] at hb5 mh5 ⊢
        clear hW5 hMB
        have HNE : Hid (MB ≠ b) := Lib.hid (mh5.ne hb5)
        have B5 := Lib.hid hb5
        have MH5 := Lib.hid mh5
        have M15 := Lib.hid m5
        clear m5 mh5 hb5
        have HMX : Hid (LM W0 X MB) := Lib.hid MH5.out.lm
        have V5 : Hid (Sl W5 A c (bts v)) := Lib.hid (HV.out.mods' M15.out HVB.out)
        have HFR : Hid (∀ w6, Mods Nil W5 w6 → ∀ k, W5.heap.size ≤ k → k < w6.heap.size → LFar W0 w6 X b MB k) := Lib.hid (fun w6 hm k hk1 hk2 => by
          have q1 := H0.out.m.size
          have q2 := M15.out.size
          have q3 := B5.out.lt
          have q4 := MH5.out.lt
          exact ⟨by omega, fun hx => (by have := H0.out.old k hx; omega), by omega, by omega, hk2⟩)
        have q2 : ∀ V, Mods (fun k => k = MB) W5 V → V.cell? ⟨b, 0, none⟩ = some (.map (some MB)) := fun V hV => (B5.out.mods hV (fun h => HNE.out h.symm)).cell 0
        have HCP : Hid (Calls Try.prog 22 #[.slice A n c] W5.drew (Cloned W5.drew v n)) := Lib.hid (clone_any HN.out (by omega) (V5.out.mods (Mods.refl Nil W5).drew (fun _ _ h => h)))
        have z5 : Mods (fun k => k = MB) W5 W5.drew := (Mods.refl _ W5).drew
        go_region_held (fun V => Mods (fun k => k = MB) W5 V) (first | assumption) (first
          | (go_at_call 22; refine HCP.out.mono ?_; rintro e w6 ⟨A6, k6, rfl, s6, m6, f6⟩; have m56 : Mods Nil W5 w6 := (Mods.refl Nil W5).drew.trans m6; obtain ⟨W7, r7, h7, m7⟩ := (MH5.out.mods m56 (fun _ _ _ _ h => h) (fun h => h)).put HNO.out hs hT HN.out hn2 s6 (fun hne ad had => HFR.out w6 m56 ad.block (f6 hne ad had).1 (by obtain ⟨cs, hb⟩ := (f6 hne ad had).2; exact hb.lt)); have z6 : Mods (fun k => k = MB) W5 w6 := m56.mono (fun _ _ h => h.elim); have z7 : Mods (fun k => k = MB) W5 W7 := z6.trans m7; have H7 := Lib.hid h7; have M7 := Lib.hid m7; have M56 := Lib.hid m56; clear s6 f6 m6 h7 m7))
        have b7 := (B5.out.mods M56.out (fun h => h)).mods M7.out (fun h => HNE.out h.symm)
        have y2 := b7.cell 2
        have y3 := b7.frozen 2
        simp at y2
        have B7 := Lib.hid b7
        clear b7
        go_wp2_with fail
        have m8 : Mods (fun k => k = b) W7 (W7.setCell ⟨b, 2, none⟩ (.int .u64 (tq : Int))) := Mods.setCell (S := fun k => k = b) (Mods.refl _ _) (fun _ => rfl) _
        have b8 : Blk (W7.setCell ⟨b, 2, none⟩ (.int .u64 (tq : Int))) b 53 #[.map (some MB), .int .u64 (r : Int), .int .u64 (tq : Int)] := by simpa using B7.out.set_ 2 (.int .u64 (tq : Int))
        have h8 : LMapH W0 (W7.setCell ⟨b, 2, none⟩ (.int .u64 (tq : Int))) X b L' (T + 1) MB := by
          rw [← HL2.out]
          exact H7.out.mods m8 (fun k _ _ h1 h2 => h1 h2) HNE.out
        obtain ⟨W8, hW8⟩ : ∃ W8, W7.setCell ⟨b, 2, none⟩ (.int .u64 (tq : Int)) = W8 := ⟨_, rfl⟩
        rw [hW8] at m8 b8 h8 ⊢
        clear hW8 y2 y3 q2 z5 r7 z6 z7 hmx hw1
        have H8 := Lib.hid h8
        have M8 := Lib.hid m8
        have B8 := Lib.hid b8
        have HLK : Hid (∀ t : Nat, t < 18446744073709551616 → LookT W8 L' (.map (some MB)) t (fun k => k = b)) := Lib.hid (fun t ht => h8.v.look ht (fun k hk e => by injection hk with hk; injection hk with hk; exact HNE.out (by rw [hk]; exact e)))
        clear h8 m8 b8
        go_loopw [] (fun wr => ∃ r' : Nat, Hid (∀ m, m < r' → (lookL L' m).isSome = true) ∧ Hid (Blk wr b 53 #[.map (some MB), .int .u64 (r' : Int), .int .u64 (tq : Int)]) ∧ Hid (Mods (fun k => k = b) W8 wr)) (fun wr => 18446744073709551615 - cellN wr b)
        case atStart => exact ⟨r, HK, B8, Lib.hid (Mods.refl _ _)⟩
        case round =>
          obtain ⟨r', HKR, HBR, HMR⟩ := hrel
          have hr5' := known_le HOK.out HKR.out
          have e0 := HBR.out.cell 0
          have e1 := HBR.out.cell 1
          have e2 := HBR.out.frozen 1
          simp at e0 e1
          obtain ⟨Ax, nx, cx, x1, -, -⟩ := HLK.out r' (by omega)
          have xz := x1 wr HMR.out
          cases hlr : lookL L' r' with
          | none =>
            rw [hlr] at xz
            have HKN := Lib.hid (knows_any e0 xz)
            have HNX : Hid (nextP L' r') := Lib.hid ⟨HKR.out, hlr⟩
            clear x1 xz hlr
            go_wp2_with (go_at_call 23; refine HKN.out.mono ?_; rintro e w2 ⟨rfl, rfl⟩)
            go_ret
            exact HFIN.out wr r' MB HNX.out HBR.out (H8.out.mods HMR.out (fun k _ _ h1 h2 => h1 h2) HNE.out) ((M15.out.mono (fun k _ h => by subst h; exact ⟨H0.out.lo, H0.out.nx⟩)).trans ((M56.out.mono (fun _ _ h => h.elim)).trans ((M7.out.mono (fun k _ h => by subst h; exact HMX.out)).trans ((M8.out.trans HMR.out).mono (fun k _ h => by subst h; exact ⟨H0.out.lo, H0.out.nx⟩)))))
          | some vr =>
            rw [hlr] at xz
            have HKN := Lib.hid (knows_any e0 xz)
            have hrlt : r' < 18446744073709551615 := by
              rcases Nat.lt_or_ge r' 18446744073709551615 with h | h
              · exact h
              · rw [look_end HOK.out h] at hlr; cases hlr
            have hw2 : IntKind.u64.wrap ((r' : Int) + 1) = ((r' + 1 : Nat) : Int) := by rw [IntKind.wrap_u64]; omega
            have HSM : Hid ((lookL L' r').isSome = true) := Lib.hid (by rw [hlr]; rfl)
            have HCN := Lib.hid (cellN_of HBR.out)
            clear x1 xz hlr
            go_wp2_with (go_at_call 23; refine HKN.out.mono ?_; rintro e w2 ⟨rfl, rfl⟩)
            have bN : Blk (wr.setCell ⟨b, 1, none⟩ (.int .u64 ((r' + 1 : Nat) : Int))) b 53 #[.map (some MB), .int .u64 ((r' + 1 : Nat) : Int), .int .u64 (tq : Int)] := by simpa using HBR.out.set_ 1 (.int .u64 ((r' + 1 : Nat) : Int))
            refine ⟨⟨r' + 1, Lib.hid (fun m hm => ?_), Lib.hid bN, Lib.hid (HMR.out.trans (Mods.setCell (S := fun k => k = b) (Mods.refl _ _) (fun _ => rfl) _))⟩, ?_⟩
            · rcases Nat.lt_or_ge m r' with h | h
              · exact HKR.out m h
              · obtain rfl : m = r' := by omega
                exact HSM.out
            · rw [show cellN (wr.setCell ⟨b, 1, none⟩ (.int .u64 ((r' : Int) + 1))) b = r' + 1 from cellN_of bN, HCN.out]; omega
theorem LrS.learn (h : LrS W0 W X b L T) (hT : T ≤ 1000) {s : Nat} (hs : s < 18446744073709551616) {v : List UInt8} {n c : Nat} {A : Option Addr} (hn : v.length = n) (hn2 : n ≤ 100000) (hv : Sl W A c (bts v)) :
    Calls Try.prog 9 #[.pointer (some ⟨b, 0, none⟩), .int .u64 (s : Int), .slice A n c] W fun e W' => e = .returned (.int .i64 (learnE L s v : Int)) ∧ LrS W0 W' X b (learnL L s v) (T + 1) ∧ Mods (LM W0 X) W W' := h.learn0 hT hs hn hn2 hv
end
end Go.Proofs.Ytbpflkjodiaokaa
