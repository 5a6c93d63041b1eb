/- Texts laid as one: Acc3, Acc4, Acc5, Acc6. -/
import Derived.Test.YtfnecjogiafekaaAcc2
import Derived.Test.YtfnecjogiafekaaKMapD
import Derived.Test.YtfnecjogiafekaaClone
import Derived.Test.YtfnecjogiafekaaSrtE
import Derived.Test.YtfnecjogiafekaaKT
import Derived.Deep.RegionHeld
import Derived.Deep.CutRange

section
/- Package acceptor: where an acceptor lies; late, copied, New, Promised, Low. -/
namespace Go.Proofs.Ytfnecjogiafekaa
set_option maxRecDepth 100000
open Go.RowKit Go.Maps
set_option linter.unusedVariables false
set_option linter.unusedSimpArgs false

/-- What a call of an acceptor may write: blocks behind W0 that aren't X's. -/
def AM (W0 : World) (X : Nat → Prop) (k : Nat) : Prop := W0.heap.size ≤ k ∧ ¬ X k
/-- X, and what is new. -/
def XN (X : Nat → Prop) (W W' : World) (k : Nat) : Prop := X k ∨ (W.heap.size ≤ k ∧ k < W'.heap.size)
/-- A vote as the map has it. -/
structure VotAt (W : World) (F : Nat → Prop) (o : Option PVt) (u : Option Value) : Prop where
  none_ : o = none → u = none
  some_ : ∀ v, o = some v → ∃ A c, u = some (.agg #[.int .u64 (v.slot : Int), .int .u64 (v.bal : Int), .slice A v.val.length c]) ∧ Sl W A c (bts v.val) ∧ (bts v.val ≠ [] → ∀ a, A = some a → F a.block) ∧ v.val.length ≤ 100000
/-- The votes: no map, or one by the slots. -/
def MapV (W0 W : World) (X : Nat → Prop) (b : Nat) (L : List PVt) (T : Nat) (mv : Value) : Prop :=
  (mv = .map none ∧ L = []) ∨ ∃ mb n f, mv = .map (some mb) ∧ KMap Try.prog 28 W mb n f ∧ n ≤ T ∧ W0.heap.size ≤ mb ∧ ¬ X mb ∧ ∀ s : Nat, s < 18446744073709551616 → VotAt W (fun k => W0.heap.size ≤ k ∧ ¬ X k ∧ k ≠ b ∧ k ≠ mb ∧ k < W.heap.size) (lookV L s) (f (.int .u64 (s : Int)))
structure AccS (W0 W : World) (X : Nat → Prop) (b : Nat) (a : PAc) (T : Nat) : Prop where
  m : Mods Nil W0 W
  rise : riseV a.L
  ok : ∀ v ∈ a.L, v.slot < 18446744073709551616 ∧ v.bal < 18446744073709551616
  prom : a.prom < 18446744073709551616
  len : a.L.length ≤ T
  old : ∀ k, X k → k < W.heap.size
  lo : W0.heap.size ≤ b
  nx : ¬ X b
  blk : ∃ mv, Blk W b 110 #[.int .u64 (a.prom : Int), .int .u64 (a.low : Int), mv] ∧ MapV W0 W X b a.L T mv
section
variable {W0 W W' : World} {X S Y : Nat → Prop} {b T : Nat} {a : PAc} {L : List PVt} {mv : Value}
theorem VotAt.mods {F F' : Nat → Prop} {o : Option PVt} {u : Option Value} (h : VotAt W F o u) (hm : Mods S W W') (hS : ∀ k, F k → ¬ S k) (hF : ∀ k, F k → F' k) : VotAt W' F' o u :=
  ⟨h.none_, fun v hv => by
    obtain ⟨A, c, h1, h2, h3, h4⟩ := h.some_ v hv
    exact ⟨A, c, h1, h2.mods' hm (fun hne a ha hs => hS _ (h3 hne a ha) hs), fun hne a ha => hF _ (h3 hne a ha), h4⟩⟩
/-- What is written lies elsewhere. -/
theorem MapV.mods (h : MapV W0 W X b L T mv) (hm : Mods S W W') (hS : ∀ k, W0.heap.size ≤ k → ¬ X k → k ≠ b → ¬ S k) (hmb : ∀ k, mv = .map (some k) → ¬ S k) : MapV W0 W' X b L T mv := by
  rcases h with h | ⟨mb, n, f, rfl, h1, h2, h3, h4, h5⟩
  · exact .inl h
  · exact .inr ⟨mb, n, f, rfl, h1.mods hm (hmb _ rfl), h2, h3, h4, fun s hs => (h5 s hs).mods hm (fun k hk => hS k hk.1 hk.2.1 hk.2.2.1) (fun k hk => ⟨hk.1, hk.2.1, hk.2.2.1, hk.2.2.2.1, Nat.lt_of_lt_of_le hk.2.2.2.2 hm.size⟩)⟩
theorem AccS.am (h : AccS W0 W X b a T) {V : World} (hm : Mods (AM W0 X) W V) : Mods Nil W0 V := h.m.nil_trans hm (fun k hk => hk.1)
/-- What the caller wrote lies in X, or is new. -/
theorem AccS.keep (h : AccS W0 W X b a T) (hm : Mods S W W') (hS : ∀ k, S k → X k ∧ W0.heap.size ≤ k) : AccS W0 W' X b a T := by
  obtain ⟨mv, h1, h2⟩ := h.blk
  refine ⟨h.m.nil_trans hm (fun k hk => (hS k hk).2), h.rise, h.ok, h.prom, h.len, fun k hk => Nat.lt_of_lt_of_le (h.old k hk) hm.size, h.lo, h.nx, mv, h1.mods hm (fun hk => h.nx (hS _ hk).1), h2.mods hm (fun k _ hx _ hk => hx (hS k hk).1) (fun k hk hs => ?_)⟩
  rcases h2 with ⟨e, _⟩ | ⟨mb, n, f, e, _, _, _, hx, _⟩
  · rw [e] at hk; cases hk
  · rw [e] at hk
    injection hk with hk
    injection hk with hk
    subst hk
    exact hx (hS _ hs).1
theorem AccS.nil (h : AccS W0 W X b a T) (hm : Mods Nil W W') : AccS W0 W' X b a T := h.keep hm (fun _ h => h.elim)
/-- What the caller laid may be told to be X's. -/
theorem AccS.more (h : AccS W0 W X b a T) (hm : Mods Nil W W') {Y : Nat → Prop} (hY : ∀ k, Y k → XN X W W' k) : AccS W0 W' Y b a T := by
  have h' := h.nil hm
  obtain ⟨mv, h1, h2⟩ := h.blk
  obtain ⟨mv', h1', h2'⟩ := h'.blk
  have hold : ∀ k, k < W.heap.size → ¬ X k → ¬ Y k := fun k hk hx hy => by
    rcases hY k hy with h | h
    · exact hx h
    · omega
  refine ⟨h'.m, h'.rise, h'.ok, h'.prom, h'.len, fun k hk => ?_, h.lo, hold _ h1.lt h.nx, mv, h1.mods hm (fun h => h), ?_⟩
  · rcases hY k hk with h3 | h3
    · exact Nat.lt_of_lt_of_le (h.old k h3) hm.size
    · exact h3.2
  · rcases h2 with h2 | ⟨mb, n, f, rfl, k1, k2, k3, k4, k5⟩
    · exact .inl h2
    · refine .inr ⟨mb, n, f, rfl, k1.mods hm (fun h => h), k2, k3, hold _ k1.lt k4, fun s hs => (k5 s hs).mods hm (fun _ _ h => h) (fun k hk => ⟨hk.1, hold k hk.2.2.2.2 hk.2.1, hk.2.2.1, hk.2.2.2.1, Nat.lt_of_lt_of_le hk.2.2.2.2 hm.size⟩)⟩
theorem AccS.mono_T (h : AccS W0 W X b a T) {T' : Nat} (hT : T ≤ T') : AccS W0 W X b a T' := by
  obtain ⟨mv, h1, h2⟩ := h.blk
  refine ⟨h.m, h.rise, h.ok, h.prom, Nat.le_trans h.len hT, h.old, h.lo, h.nx, mv, h1, ?_⟩
  rcases h2 with h2 | ⟨mb, n, f, e, k1, k2, k3⟩
  · exact .inl h2
  · exact .inr ⟨mb, n, f, e, k1, Nat.le_trans k2 hT, k3⟩
theorem acc_new (w : World) : Calls Try.prog 29 #[] w fun e w' => ∃ b, e = .returned (.pointer (some ⟨b, 0, none⟩)) ∧ AccS w w' (fun _ => False) b {} 0 := by
  go_enter Try.func29, Try.ntmps29
  go_wp2
  go_ret
  exact ⟨_, rfl, (Mods.refl _ _).alloc _, List.Pairwise.nil, (fun v hv => (by cases hv)), (by show (0 : Nat) < 18446744073709551616; omega), Nat.zero_le _, (fun k h => h.elim), Nat.le_refl _, (fun h => h), _, Blk.new w 110 #[.int .u64 0, .int .u64 0, .map none], .inl ⟨rfl, rfl⟩⟩
theorem AccS.cells (h : AccS W0 W X b a T) : W.cell? ⟨b, 0, none⟩ = some (.int .u64 (a.prom : Int)) ∧ W.cell? ⟨b, 1, none⟩ = some (.int .u64 (a.low : Int)) := by
  obtain ⟨mv, h1, h2⟩ := h.blk
  exact ⟨h1.cell 0, h1.cell 1⟩
theorem AccS.late (h : AccS W0 W X b a T) (bal : Nat) : Calls Try.prog 46 #[.pointer (some ⟨b, 0, none⟩), .int .u64 (bal : Int)] W fun e W' => e = .returned (.int .i64 (a.prepE bal : Int)) ∧ W = W' := by
  obtain ⟨c0, c1⟩ := h.cells
  clear h
  unfold PAc.prepE
  by_cases hb : bal < a.prom
  · rw [if_pos hb]
    have hbI : (bal : Int) < (a.prom : Int) := by omega
    go_enter Try.func46, Try.ntmps46
    go_wp2
    go_ret
    exact ⟨rfl, rfl⟩
  · rw [if_neg hb]
    have hbI : ¬ (bal : Int) < (a.prom : Int) := by omega
    go_enter Try.func46, Try.ntmps46
    go_wp2
    go_ret
    exact ⟨rfl, rfl⟩
end
/-- A result that is a struct. -/
theorem results_rowA {P : Program} {fn : Func} {p : Tmp} {T1 : TypeId} (h : fn.results = #[.cell p T1]) (tmps : Array Value) (w : World) {g1 : Nat} {t1 : TypeId} {cs1 : Array Value} {D1 : TypeDesc}
    (e1 : tmps.getD p undef = .pointer (some ⟨g1, 0, none⟩)) (b1 : Blk w g1 t1 cs1)
    (u1 : P.underlying T1 = some D1) (q1 : (match D1 with | .struct _ | .array _ _ => true | _ => false) = true) (i1 : (P.info? T1).map (·.size) = some cs1.size) :
    (results fn tmps).run P w = .ok (.agg cs1) w := by
  have r1 := run_loadVar_row (P := P) w g1 t1 T1 cs1 (0, 0) D1 b1 u1 q1 i1
  have e1' : tmps[p]?.getD undef = .pointer (some ⟨g1, 0, none⟩) := by simpa using e1
  simp [results, h, e1', asAddr, r1]
theorem infoVtP : (Try.prog.info? 49).map (·.size) = some 3 := by kernel_rfl
/-- A vote with bytes of its own. -/
def CopT (w : World) (s b : Int) (xs : List UInt8) (n : Nat) (e : Ending) (w' : World) : Prop :=
  ∃ A c, e = .returned (.agg #[.int .u64 s, .int .u64 b, .slice A n c]) ∧ Sl w' A c (bts xs) ∧ (bts xs ≠ [] → ∀ a, A = some a → w.heap.size ≤ a.block ∧ a.block < w'.heap.size ∧ ∃ cs, Blk w' a.block 5 cs) ∧ Mods Nil w w'
set_option maxHeartbeats 1600000 in
theorem vcopied_any {w : World} (s b : Int) {A : Option Addr} {c n : Nat} {xs : List UInt8} (hn : xs.length = n) (hlim : n ≤ 140737488355328) (hs : Sl w A c (bts xs)) :
    Calls Try.prog 47 #[.agg #[.int .u64 s, .int .u64 b, .slice A n c]] w (CopT w s b xs n) := by
  have m0 : Mods Nil w ((w.alloc (.cells #[.int .u64 s, .int .u64 b, .slice A n c] 49)).alloc (.cells #[.int .u64 0, .int .u64 0, .slice none 0 0] 49)) := ((Mods.refl _ _).alloc _).alloc _
  have bA := (Blk.new w 49 #[.int .u64 s, .int .u64 b, .slice A n c]).alloc (.cells #[.int .u64 0, .int .u64 0, .slice none 0 0] 49)
  have bB := Blk.new (w.alloc (.cells #[.int .u64 s, .int .u64 b, .slice A n c] 49)) 49 #[.int .u64 0, .int .u64 0, .slice none 0 0]
  rw [show (w.alloc (.cells #[.int .u64 s, .int .u64 b, .slice A n c] 49)).heap.size = w.heap.size + 1 from by simp] at bB
  obtain ⟨W, hW⟩ : ∃ W, (w.alloc (.cells #[.int .u64 s, .int .u64 b, .slice A n c] 49)).alloc (.cells #[.int .u64 0, .int .u64 0, .slice none 0 0] 49) = W := ⟨_, rfl⟩
  have hsz : W.heap.size = w.heap.size + 2 := by rw [← hW]; simp
  rw [hW] at bA bB m0
  have HCL := Lib.hid (clone_any hn hlim (hs.mods m0 (fun _ _ h => h)))
  have M0 := Lib.hid m0
  have BA := Lib.hid bA
  have BB := Lib.hid bB
  have HSZ := Lib.hid hsz
  have c2 := bA.cell 2
  simp at c2
  clear hs m0 bA bB hsz hn
  go_enter Try.func47, Try.ntmps47
  go_wp2_with (first
    | (go_at_call 56; refine HCL.out.mono ?_; rintro e w2 ⟨A2, k2, rfl, s2, m2, f2⟩; have S2 := Lib.hid s2; have M2 := Lib.hid m2; have F2 := Lib.hid f2; have B2 := Lib.hid (BA.out.mods m2 (fun h => h)); have B3 := Lib.hid (BB.out.mods m2 (fun h => h)); have f0 := B2.out.frozen 2; have d0 := (B2.out.set_ 2 (.slice A2 n k2)).cell 0; have d1 := (B2.out.set_ 2 (.slice A2 n k2)).cell 1; have d2 := (B2.out.set_ 2 (.slice A2 n k2)).cell 2; simp at d0 d1 d2; have e2 := B2.out.cell 2; simp at e2; clear s2 m2 f2)
    | (refine wpList_store_mk rfl 49 (.tmp 2) (.tmp 7) rfl rfl (w.heap.size + 1) rfl 49 #[.int .u64 0, .int .u64 0, .slice none 0 0] #[.int .u64 s, .int .u64 b, .slice A2 n k2] rfl (B3.out.far (by simp) _) rfl (by simp [Value.oneCell']) infoVtP (by simp [Value.cells]) ?_; intro w4 b4 m4; have B4 := Lib.hid b4; have M4 := Lib.hid m4; clear b4 m4))
  refine bodyPost_ret (results_rowA rfl _ _ rfl B4.out Try.underlying49 rfl infoVtP) rfl ⟨A2, k2, rfl, ?_, ?_, ?_⟩
  · refine (S2.out.mods' (S := fun k => k = w.heap.size) (Mods.setCell (S := fun k => k = w.heap.size) (Mods.refl _ _) (fun _ => rfl) _) (fun hne a ha h => ?_)).mods' M4.out (fun hne a ha h => ?_)
    · have := (F2.out hne a ha).1; have := HSZ.out; omega
    · have := (F2.out hne a ha).1; have := HSZ.out; omega
  · intro hne a ha
    obtain ⟨h1, cs, h2⟩ := F2.out hne a ha
    have h3 := h2.lt
    have h4 := M4.out.size
    simp [World.setCell] at h4
    have := HSZ.out
    exact ⟨by omega, by omega, cs, (h2.far (by show a.block ≠ w.heap.size; omega) _).mods M4.out (fun h => by omega)⟩
  · exact ((M0.out.trans M2.out).nil_trans (T := fun k => k = w.heap.size) (Mods.setCell (S := fun k => k = w.heap.size) (Mods.refl _ _) (fun _ => rfl) _) (fun i h => by omega)).nil_trans M4.out (fun i h => by omega)
/-! Of nil. -/
theorem alate_nil (W : World) (x : Int) : Calls Try.prog 46 #[.pointer none, .int .u64 x] W fun e W' => e = .returned (.int .i64 1) ∧ W = W' := by
  go_enter Try.func46, Try.ntmps46
  go_wp2
  go_ret
  exact ⟨rfl, rfl⟩
theorem acc_prep_nil (W : World) (x y : Int) : Calls Try.prog 31 #[.pointer none, .int .u64 x, .int .u64 y] W fun e W' => ∃ v, e = .returned (.tuple #[v, .int .i64 1]) ∧ Mods Nil W W' := by
  go_enter Try.func31, Try.ntmps31
  go_wp2_with (go_at_call 46; refine (alate_nil _ _).mono ?_; rintro e w' ⟨rfl, rfl⟩)
  go_ret2
  exact ⟨_, rfl, Mods.refl _ _⟩
theorem acc_acc_nil (W : World) : Calls Try.prog 30 #[.pointer none, .agg #[.int .u64 0, .int .u64 0, .slice none 0 0]] W fun e W' => e = .returned (.int .i64 1) ∧ Mods Nil W W' := by
  go_enter Try.func30, Try.ntmps30
  go_wp2_with (go_at_call 46; refine (alate_nil _ _).mono ?_; rintro e w' ⟨rfl, rfl⟩)
  go_ret
  exact ⟨rfl, (Mods.refl _ _).alloc _⟩
end Go.Proofs.Ytfnecjogiafekaa
end

section
/- Package acceptor: Accept. -/
namespace Go.Proofs.Ytfnecjogiafekaa
set_option maxRecDepth 100000
open Go.RowKit Go.Maps
set_option linter.unusedVariables false
set_option linter.unusedSimpArgs false
/-- The votes by a map that is there. -/
def MapH (W0 W : World) (X : Nat → Prop) (b : Nat) (L : List PVt) (T mb : Nat) : Prop :=
  ∃ n f, KMap Try.prog 28 W mb n f ∧ n ≤ T ∧ W0.heap.size ≤ mb ∧ ¬ X mb ∧ ∀ s : Nat, s < 18446744073709551616 → VotAt W (fun k => W0.heap.size ≤ k ∧ ¬ X k ∧ k ≠ b ∧ k ≠ mb ∧ k < W.heap.size) (lookV L s) (f (.int .u64 (s : Int)))
theorem MapH.v {W0 W : World} {X : Nat → Prop} {b : Nat} {L : List PVt} {T mb : Nat} (h : MapH W0 W X b L T mb) : MapV W0 W X b L T (.map (some mb)) := by
  obtain ⟨n, f, h⟩ := h
  exact .inr ⟨mb, n, f, rfl, h⟩
theorem MapH.mods {W0 W W' : World} {X S : Nat → Prop} {b : Nat} {L : List PVt} {T mb : Nat} (h : MapH W0 W X b L T mb) (hm : Mods S W W') (hS : ∀ k, W0.heap.size ≤ k → ¬ X k → k ≠ b → ¬ S k) (hmb : mb ≠ b) : MapH W0 W' X b L T mb := by
  obtain ⟨n, f, h1, h2, h3, h4, h5⟩ := h
  exact ⟨n, f, h1.mods hm (hS mb h3 h4 hmb), h2, h3, h4, fun s hs => (h5 s hs).mods hm (fun k hk => hS k hk.1 hk.2.1 hk.2.2.1) (fun k hk => ⟨hk.1, hk.2.1, hk.2.2.1, hk.2.2.2.1, Nat.lt_of_lt_of_le hk.2.2.2.2 hm.size⟩)⟩
theorem lookV_nil (s : Nat) : lookV [] s = none := rfl
/-- A map that was made. -/
theorem MapH.made {W0 W : World} {X : Nat → Prop} {b : Nat} (T : Nat) (h0 : W0.heap.size ≤ W.heap.size) (hX : ∀ k, X k → k < W.heap.size) : MapH W0 (W.alloc (.map #[] 0)) X b [] T W.heap.size :=
  ⟨0, _, KMap.made W Try.prog 28, Nat.zero_le _, h0, fun h => by have := hX _ h; omega, fun s hs => ⟨fun _ => rfl, fun v hv => by rw [lookV_nil] at hv; cases hv⟩⟩
theorem keyUL {k : TypeId} (hk : Try.prog.underlying k = some (.int .u64)) {s : Nat} (hs : s < 18446744073709551616) : keyOf Try.prog k (.int .u64 (s : Int)) = some (.int .u64 (s : Int)) := keyU hk ⟨by omega, by omega⟩
/-- A vote is laid. -/
theorem MapH.put {W0 W : World} {X : Nat → Prop} {b : Nat} {L : List PVt} {T mb : Nat} (h : MapH W0 W X b L T mb) (hr : riseV L) (hmb : mb ≠ b) {v : PVt} (hv : v.slot < 18446744073709551616) (hT : T ≤ 1000) {A : Option Addr} {c n : Nat} (hn : v.val.length = n) (hn2 : n ≤ 100000) (hs : Sl W A c (bts v.val))
    (hA : bts v.val ≠ [] → ∀ a, A = some a → W0.heap.size ≤ a.block ∧ ¬ X a.block ∧ a.block ≠ b ∧ a.block ≠ mb ∧ a.block < W.heap.size) :
    ∃ W', (Instr.mapUpdate 83 (.map (some mb)) (.int .u64 (v.slot : Int)) (.agg #[.int .u64 (v.slot : Int), .int .u64 (v.bal : Int), .slice A n c])).run Try.prog W = .ok () W' ∧ MapH W0 W' X b (insV v L) (T + 1) mb ∧ Mods (fun i => i = mb) W W' := by
  subst hn
  obtain ⟨m, f, h1, h2, h3, h4, h5⟩ := h
  obtain ⟨W', r, ⟨k, k1, k2, k3⟩, hm⟩ := h1.put (int_keyed Try.underlying28) Try.underlying83 (keyUL Try.underlying28 hv) (by unfold maxLen; omega) (.agg #[.int .u64 (v.slot : Int), .int .u64 (v.bal : Int), .slice A v.val.length c])
  refine ⟨W', r, ⟨k, _, k1, by omega, h3, h4, fun s hs2 => ?_⟩, hm⟩
  rw [lookV_ins v hr s]
  have hF : ∀ q, (W0.heap.size ≤ q ∧ ¬ X q ∧ q ≠ b ∧ q ≠ mb ∧ q < W.heap.size) → (W0.heap.size ≤ q ∧ ¬ X q ∧ q ≠ b ∧ q ≠ mb ∧ q < W'.heap.size) := fun q hq => ⟨hq.1, hq.2.1, hq.2.2.1, hq.2.2.2.1, Nat.lt_of_lt_of_le hq.2.2.2.2 hm.size⟩
  by_cases he : s = v.slot
  · subst he
    rw [if_pos rfl]
    refine ⟨fun h => (by cases h), fun u hu => ?_⟩
    injection hu with hu
    subst hu
    exact ⟨A, c, updK_same _ _ _, hs.mods' hm (fun hne a ha h => (hA hne a ha).2.2.2.1 h), fun hne a ha => hF _ (hA hne a ha), hn2⟩
  · rw [if_neg he]
    have hne : (Value.int .u64 (s : Int)) ≠ .int .u64 (v.slot : Int) := fun e => by injection e with _ e; exact he (by omega)
    have := (h5 s hs2).mods hm (fun q hq => hq.2.2.2.1) hF
    refine ⟨fun h => ?_, fun u hu => ?_⟩
    · rw [updK_ne hne]; exact this.none_ h
    · rw [updK_ne hne]; exact this.some_ u hu
theorem votes_some (mb : Nat) (w : World) : (binOp .eql 83 (.map (some mb)) (.map none)).run Try.prog w = .ok (.bool false) w := by kernel_rfl
theorem votes_nil (w : World) : (binOp .eql 83 (.map none) (.map none)).run Try.prog w = .ok (.bool true) w := by kernel_rfl
attribute [local go_sem] votes_nil votes_some
theorem KMap.ne_blk {P : Program} {k : TypeId} {w : World} {m n g : Nat} {f : Value → Option Value} {t : TypeId} {cs : Array Value} (h : KMap P k w m n f) (hb : Blk w g t cs) : m ≠ g := by
  rintro rfl
  obtain ⟨es, cl, h1⟩ := h.isMap
  unfold Blk at hb
  rw [h1] at hb
  cases hb
/-- Bytes lie in no acceptor's own block. -/
theorem bytes_off {w : World} {b : Nat} {t : TypeId} {x y : Int} {mv : Value} {A : Option Addr} {c : Nat} {xs : List UInt8} (hb : Blk w b t #[.int .u64 x, .int .u64 y, mv]) (hm : ∀ k z, mv ≠ .int k z) (hs : Sl w A c (bts xs)) : bts xs ≠ [] → Off (fun k => k = b) A := by
  intro hne ad had he
  subst had
  have hlen : 0 < (bts xs).length := List.length_pos_iff.2 hne
  obtain ⟨blk, off, e, _, hc⟩ := hs.has.at_ hlen
  injection e with e
  subst e
  replace he : blk = b := he
  subst he
  obtain ⟨z, hz⟩ : ∃ z, (bts xs)[0]? = some (.int .u8 z) := by
    cases xs with
    | nil => simp [bts] at hlen
    | cons q r => exact ⟨(q.toNat : Int), by simp [bts]⟩
  have h1 := hc 0 _ hz
  rw [Nat.add_zero, hb.cell off] at h1
  match off, h1 with
  | 0, h1 => simp at h1
  | 1, h1 => simp at h1
  | 2, h1 => simp at h1; exact hm _ _ h1
  | n + 3, h1 => simp at h1
/-- What Accept tells. -/
def AccT (W0 W : World) (X : Nat → Prop) (b : Nat) (a : PAc) (T : Nat) (v : PVt) (e : Ending) (W' : World) : Prop :=
  e = .returned (.int .i64 (a.accE v : Int)) ∧ AccS W0 W' X b (a.accept v) (T + 1) ∧ Mods (AM W0 X) W W'
set_option maxHeartbeats 8000000 in
theorem AccS.acc0 {W0 W : World} {X : Nat → Prop} {b T : Nat} {a : PAc} (h : AccS W0 W X b a T) (hT : T ≤ 1000) {v : PVt} {n c : Nat} {A : Option Addr} (hs : v.slot < 18446744073709551616) (hb : v.bal < 18446744073709551616) (hn : v.val.length = n) (hn2 : n ≤ 100000) (hv : Sl W A c (bts v.val)) :
    Calls Try.prog 30 #[.pointer (some ⟨b, 0, none⟩), .agg #[.int .u64 (v.slot : Int), .int .u64 (v.bal : Int), .slice A n c]] W (AccT W0 W X b a T v) := by
  have mBx : Mods Nil W (W.alloc (.cells #[.int .u64 (v.slot : Int), .int .u64 (v.bal : Int), .slice A n c] 49)) := (Mods.refl _ _).alloc _
  have bBx := Blk.new W 49 #[.int .u64 (v.slot : Int), .int .u64 (v.bal : Int), .slice A n c]
  obtain ⟨W1, hW1⟩ : ∃ W1, W.alloc (.cells #[.int .u64 (v.slot : Int), .int .u64 (v.bal : Int), .slice A n c] 49) = W1 := ⟨_, rfl⟩
  have hsz : W1.heap.size = W.heap.size + 1 := by rw [← hW1]; simp
  rw [hW1] at mBx bBx
  have h1 := h.nil mBx
  have HL := Lib.hid (h1.late v.bal)
  have H0 := Lib.hid h
  have H1 := Lib.hid h1
  have BX := Lib.hid bBx
  have MX := Lib.hid mBx
  have HV := Lib.hid hv
  have HVB : Hid (bts v.val ≠ [] → Off (fun k => k = b) A) := Lib.hid (by
    obtain ⟨mv, q1, q2⟩ := h.blk
    refine bytes_off q1 (fun k z e => ?_) hv
    rcases q2 with ⟨e2, _⟩ | ⟨mb, n, f, e2, _⟩ <;> rw [e2] at e <;> cases e)
  have HSZ := Lib.hid hsz
  have x0 := bBx.cell 0
  have x1 := bBx.cell 1
  simp at x0 x1
  obtain ⟨mv, k1, k2⟩ := h1.blk
  have c0 := k1.cell 0
  have c1 := k1.cell 1
  have c2 := k1.cell 2
  simp at c0 c1 c2
  have K1 := Lib.hid k1
  have K2 := Lib.hid k2
  have hbW : b < W.heap.size := by obtain ⟨_, h, _⟩ := h.blk; exact h.lt
  have HBW := Lib.hid hbW
  clear mBx bBx h1 hv h k1 k2 hsz hbW
  by_cases hbp : v.bal < a.prom
  · have hE : (a.prepE v.bal : Int) = 32 := by unfold PAc.prepE; rw [if_pos hbp]; rfl
    rw [hE] at HL
    go_enter Try.func30, Try.ntmps30
    go_wp2_with (go_at_call 46; refine HL.out.mono ?_; rintro e w' ⟨rfl, rfl⟩)
    go_ret
    unfold AccT PAc.accE PAc.accept
    rw [if_pos hbp, if_pos hbp]
    exact ⟨rfl, H1.out.mono_T (by omega), MX.out.mono (fun _ _ h => h.elim)⟩
  · have hE : (a.prepE v.bal : Int) = 0 := by unfold PAc.prepE; rw [if_neg hbp]; rfl
    rw [hE] at HL
    by_cases hlo : v.slot < a.low
    · have hloI : decide ((v.slot : Int) < (a.low : Int)) = true := by simp; omega
      have hloN : decide (v.slot < a.low) = true := by simp; omega
      go_enter Try.func30, Try.ntmps30
      go_wp2_with (go_at_call 46; refine HL.out.mono ?_; rintro e w' ⟨rfl, rfl⟩)
      go_quiet (fail)
      go_wp2_with fail
      go_ret
      unfold AccT PAc.accE PAc.accept
      rw [if_neg hbp, if_neg hbp, if_pos hlo, if_pos hlo]
      exact ⟨rfl, (H1.out.nil ((Mods.refl _ _).drewN _)).mono_T (by omega), (MX.out.drewN _).mono (fun _ _ h => h.elim)⟩
    · have hloI : decide ((v.slot : Int) < (a.low : Int)) = false := by simp; omega
      have HEA := Lib.hid (show a.accE v = 0 by unfold PAc.accE; rw [if_neg hbp, if_neg hlo])
      have HAC := Lib.hid (show a.accept v = { a with prom := v.bal, L := insV v a.L } by unfold PAc.accept; rw [if_neg hbp, if_neg hlo])
      have HFIN : Hid (∀ W7 mb, Blk W7 b 110 #[.int .u64 (v.bal : Int), .int .u64 (a.low : Int), .map (some mb)] → MapH W0 W7 X b (insV v a.L) (T + 1) mb → Mods (AM W0 X) W W7 → AccT W0 W X b a T v (.returned (.int .i64 0)) W7) := Lib.hid (fun W7 mb q1 q2 q3 => by
        unfold AccT
        rw [HEA.out, HAC.out]
        refine ⟨rfl, ⟨H0.out.am q3, H0.out.rise.ins v, fun u hu => ?_, hb, ?_, fun k hk => Nat.lt_of_lt_of_le (H0.out.old k hk) q3.size, H0.out.lo, H0.out.nx, _, q1, q2.v⟩, q3⟩
        · rcases insV_mem hu with rfl | hu
          · exact ⟨hs, hb⟩
          · exact H0.out.ok u hu
        · have := insV_len v a.L
          have := H0.out.len
          show (insV v a.L).length ≤ T + 1
          omega)
      have hloN : decide (v.slot < a.low) = false := by simp; omega
      clear HEA HAC hlo hbp hE
      have hmm := @run_makeMap Try.prog
      rcases K2.out with ⟨rfl, hL⟩ | ⟨mb, n0, f0, rfl, hM⟩
      · have f2 : ∀ m, ((W1.drewN m).alloc (.map #[] 0)).frozen? ⟨b, 2, none⟩ = false := fun m => ((K1.out.drewN m).alloc _).frozen 2
        have f1 : ∀ m, ((W1.drewN m).alloc (.map #[] 0)).frozen? ⟨b, 0, none⟩ = false := fun m => ((K1.out.drewN m).alloc _).frozen 0
        have hbl : b < W1.heap.size := K1.out.lt
        have g2 : ∀ m, ((W1.drewN m).alloc (.map #[] 0)).cell? ⟨b, 2, none⟩ = some (.map none) := fun m => ((K1.out.drewN m).alloc _).cell 2
        have g0 : ∀ m, ((W1.drewN m).alloc (.map #[] 0)).cell? ⟨b, 0, none⟩ = some (.int .u64 (a.prom : Int)) := fun m => ((K1.out.drewN m).alloc _).cell 0
        have g3 : ∀ m u, (((W1.drewN m).alloc (.map #[] 0)).setCell ⟨b, 2, none⟩ u).cell? ⟨b, 0, none⟩ = some (.int .u64 (a.prom : Int)) := fun m u => (((K1.out.drewN m).alloc _).set_ 2 u).cell 0
        have f3 : ∀ m u, (((W1.drewN m).alloc (.map #[] 0)).setCell ⟨b, 2, none⟩ u).frozen? ⟨b, 0, none⟩ = false := fun m u => (((K1.out.drewN m).alloc _).set_ 2 u).frozen 0
        have g1 : ∀ m u, (((W1.drewN m).alloc (.map #[] 0)).setCell ⟨b, 2, none⟩ u).cell? ⟨W.heap.size, 1, none⟩ = some (.int .u64 (v.bal : Int)) := fun m u => (((BX.out.drewN m).alloc _).far (p := ⟨b, 2, none⟩) (by have := HBW.out; simp; omega) u).cell 1
        have HLN := Lib.hid hL
        clear hL
        go_enter Try.func30, Try.ntmps30
        go_wp2_with (go_at_call 46; refine HL.out.mono ?_; rintro e w' ⟨rfl, rfl⟩)
        go_quiet (fail)
        go_wp2_with fail
        have m5 : Mods (fun k => k = b) W1 ((((W1.drewN nq).alloc (.map #[] 0)).setCell ⟨b, 2, none⟩ (.map (some W1.heap.size))).setCell ⟨b, 0, none⟩ (.int .u64 (v.bal : Int))) := Mods.setCell (S := fun k => k = b) (Mods.setCell (S := fun k => k = b) ((((Mods.refl _ _).drewN nq).alloc _)) (fun _ => rfl) _) (fun _ => rfl) _
        have b5 := (((K1.out.drewN nq).alloc (.map #[] 0)).set_ 2 (.map (some W1.heap.size))).set_ 0 (.int .u64 (v.bal : Int))
        have mh5 : MapH W0 ((((W1.drewN nq).alloc (.map #[] 0)).setCell ⟨b, 2, none⟩ (.map (some W1.heap.size))).setCell ⟨b, 0, none⟩ (.int .u64 (v.bal : Int))) X b a.L T W1.heap.size := by
          rw [HLN.out]
          have h0 : MapH W0 ((W1.drewN nq).alloc (.map #[] 0)) X b [] T W1.heap.size := MapH.made (W0 := W0) (W := W1.drewN nq) T H1.out.m.size H1.out.old
          refine (h0.mods (Mods.setCell (S := fun k => k = b) (Mods.refl _ _) (fun _ => rfl) _) (fun k _ _ h1 h2 => h1 h2) ?_).mods (Mods.setCell (S := fun k => k = b) (Mods.refl _ _) (fun _ => rfl) _) (fun k _ _ h1 h2 => h1 h2) ?_
          · have := HBW.out; have := HSZ.out; omega
          · have := HBW.out; have := HSZ.out; omega
        obtain ⟨W5, hW5⟩ : ∃ W5, (((W1.drewN nq).alloc (.map #[] 0)).setCell ⟨b, 2, none⟩ (.map (some W1.heap.size))).setCell ⟨b, 0, none⟩ (.int .u64 (v.bal : Int)) = W5 := ⟨_, rfl⟩
        rw [hW5] at m5 b5 mh5 ⊢
        obtain ⟨MB, hMB⟩ : ∃ MB, W1.heap.size = MB := ⟨_, rfl⟩
        rw [hMB] at b5 mh5
        have HNE : Hid (MB ≠ b) := Lib.hid (by have := HBW.out; have := HSZ.out; omega)
        have hb5 : Blk W5 b 110 #[.int .u64 (v.bal : Int), .int .u64 (a.low : Int), .map (some MB)] := by simpa using b5
        have B5 := Lib.hid hb5
        have MH5 := Lib.hid mh5
        have M15 := Lib.hid m5
        have X5 := Lib.hid (BX.out.mods m5 (fun h => by have := HBW.out; omega))
        clear hW5 hMB m5 b5 mh5 hb5
        have HMX : Hid (AM W0 X MB) := Lib.hid (by obtain ⟨_, _, _, _, q1, q2, _⟩ := MH5.out; exact ⟨q1, q2⟩)
        have HNX : Hid (MB ≠ W.heap.size) := Lib.hid (by obtain ⟨_, _, q1, _⟩ := MH5.out; exact q1.ne_blk X5.out)
        have V5 : Hid (Sl W5 A c (bts v.val)) := Lib.hid ((HV.out.mods MX.out (fun _ _ h => h)).mods' M15.out HVB.out)
        have HFR : Hid (∀ w6, Mods Nil W5 w6 → ∀ k, W5.heap.size ≤ k → k < w6.heap.size → W0.heap.size ≤ k ∧ ¬ X k ∧ k ≠ b ∧ k ≠ MB ∧ k < w6.heap.size) := Lib.hid (fun w6 hm k hk1 hk2 => by
          have q1 := H1.out.m.size
          have q2 := M15.out.size
          have q3 := B5.out.lt
          have q4 : MB < W5.heap.size := by obtain ⟨_, _, q, _⟩ := MH5.out; exact q.lt
          exact ⟨by omega, fun hx => (by have := H1.out.old k hx; omega), by omega, by omega, hk2⟩)
        have q2 : ∀ V, Mods (fun k => k = MB) W5 V → V.cell? ⟨b, 2, none⟩ = some (.map (some MB)) := fun V hV => (B5.out.mods hV (fun h => HNE.out h.symm)).cell 2
        have q3 : ∀ V, Mods (fun k => k = MB) W5 V → V.cell? ⟨W.heap.size, 0, none⟩ = some (.int .u64 (v.slot : Int)) := fun V hV => (X5.out.mods hV (fun h => HNX.out h.symm)).cell 0
        have q4 : ∀ V, Mods (fun k => k = MB) W5 V → V.cell? ⟨W.heap.size, 1, none⟩ = some (.int .u64 (v.bal : Int)) := fun V hV => (X5.out.mods hV (fun h => HNX.out h.symm)).cell 1
        have q5 : ∀ V, Mods (fun k => k = MB) W5 V → V.cell? ⟨W.heap.size, 2, none⟩ = some (.slice A n c) := fun V hV => (X5.out.mods hV (fun h => HNX.out h.symm)).cell 2
        have HCP : Hid (Calls Try.prog 47 #[.agg #[.int .u64 (v.slot : Int), .int .u64 (v.bal : Int), .slice A n c]] W5.drew (CopT W5.drew (v.slot : Int) (v.bal : Int) v.val n)) := Lib.hid (vcopied_any _ _ hn (by omega) (V5.out.mods (Mods.refl Nil W5).drew (fun _ _ h => h)))
        have z5 : Mods (fun k => k = MB) W5 W5.drew := (Mods.refl _ W5).drew
        go_region_held (fun V => Mods (fun k => k = MB) W5 V) (first | assumption) (first
          | (go_at_call 47; refine HCP.out.mono ?_; rintro e w6 ⟨A6, k6, rfl, s6, f6, m6⟩; have m56 : Mods Nil W5 w6 := (Mods.refl Nil W5).drew.trans m6; obtain ⟨W7, r7, h7, m7⟩ := (MH5.out.mods m56 (fun _ _ _ _ h => h) HNE.out).put H0.out.rise HNE.out hs hT hn hn2 s6 (fun hne ad had => HFR.out w6 m56 ad.block (f6 hne ad had).1 (f6 hne ad had).2.1); have z6 : Mods (fun k => k = MB) W5 w6 := m56.mono (fun _ _ h => h.elim); have z7 : Mods (fun k => k = MB) W5 W7 := z6.trans m7; have H7 := Lib.hid h7; have M7 := Lib.hid m7; have M56 := Lib.hid m56; clear s6 f6 m6 h7 m7))
        go_wp2_with fail
        go_ret
        exact HFIN.out W7 MB ((B5.out.mods M56.out (fun h => h)).mods M7.out (fun h => HNE.out h.symm)) H7.out (((MX.out.mono (fun _ _ h => h.elim)).trans (M15.out.mono (fun k _ h => by subst h; exact ⟨H0.out.lo, H0.out.nx⟩))).trans ((M56.out.mono (fun _ _ h => h.elim)).trans (M7.out.mono (fun k _ h => by subst h; exact HMX.out))))
      · have hq := votes_some mb
        have f0 := K1.out.frozen 0
        have HM : Hid (MapH W0 W1 X b a.L T mb) := Lib.hid ⟨_, _, hM⟩
        clear hM
        go_enter Try.func30, Try.ntmps30
        go_wp2_with (go_at_call 46; refine HL.out.mono ?_; rintro e w' ⟨rfl, rfl⟩)
        go_quiet (fail)
        go_wp2_with fail
        have m5 : Mods (fun k => k = b) W1 ((W1.drewN nq).setCell ⟨b, 0, none⟩ (.int .u64 (v.bal : Int))) := Mods.setCell (S := fun k => k = b) ((Mods.refl _ _).drewN nq) (fun _ => rfl) _
        have b5 := (K1.out.drewN nq).set_ 0 (.int .u64 (v.bal : Int))
        have hne : mb ≠ b := by
          obtain ⟨_, _, h2, _⟩ := HM.out
          have h1 := h2.isMap
          rintro rfl
          obtain ⟨es, cl, h1⟩ := h1
          have := K1.out
          unfold Blk at this
          rw [h1] at this
          cases this
        have mh5 := HM.out.mods m5 (fun k _ _ h1 h2 => h1 h2) hne
        obtain ⟨W5, hW5⟩ : ∃ W5, (W1.drewN nq).setCell ⟨b, 0, none⟩ (.int .u64 (v.bal : Int)) = W5 := ⟨_, rfl⟩
        rw [hW5] at m5 b5 mh5 ⊢
        obtain ⟨MB, hMB⟩ : ∃ MB, mb = MB := ⟨_, rfl⟩
        rw [hMB] at b5 mh5 hne
        have HNE : Hid (MB ≠ b) := Lib.hid hne
        have hb5 : Blk W5 b 110 #[.int .u64 (v.bal : Int), .int .u64 (a.low : Int), .map (some MB)] := by simpa using b5
        have B5 := Lib.hid hb5
        have MH5 := Lib.hid mh5
        have M15 := Lib.hid m5
        have X5 := Lib.hid (BX.out.mods m5 (fun h => by have := HBW.out; omega))
        clear hW5 hMB m5 b5 mh5 hb5 hne
        have HMX : Hid (AM W0 X MB) := Lib.hid (by obtain ⟨_, _, _, _, q1, q2, _⟩ := MH5.out; exact ⟨q1, q2⟩)
        have HNX : Hid (MB ≠ W.heap.size) := Lib.hid (by obtain ⟨_, _, q1, _⟩ := MH5.out; exact q1.ne_blk X5.out)
        have V5 : Hid (Sl W5 A c (bts v.val)) := Lib.hid ((HV.out.mods MX.out (fun _ _ h => h)).mods' M15.out HVB.out)
        have HFR : Hid (∀ w6, Mods Nil W5 w6 → ∀ k, W5.heap.size ≤ k → k < w6.heap.size → W0.heap.size ≤ k ∧ ¬ X k ∧ k ≠ b ∧ k ≠ MB ∧ k < w6.heap.size) := Lib.hid (fun w6 hm k hk1 hk2 => by
          have q1 := H1.out.m.size
          have q2 := M15.out.size
          have q3 := B5.out.lt
          have q4 : MB < W5.heap.size := by obtain ⟨_, _, q, _⟩ := MH5.out; exact q.lt
          exact ⟨by omega, fun hx => (by have := H1.out.old k hx; omega), by omega, by omega, hk2⟩)
        have q2 : ∀ V, Mods (fun k => k = MB) W5 V → V.cell? ⟨b, 2, none⟩ = some (.map (some MB)) := fun V hV => (B5.out.mods hV (fun h => HNE.out h.symm)).cell 2
        have q3 : ∀ V, Mods (fun k => k = MB) W5 V → V.cell? ⟨W.heap.size, 0, none⟩ = some (.int .u64 (v.slot : Int)) := fun V hV => (X5.out.mods hV (fun h => HNX.out h.symm)).cell 0
        have q4 : ∀ V, Mods (fun k => k = MB) W5 V → V.cell? ⟨W.heap.size, 1, none⟩ = some (.int .u64 (v.bal : Int)) := fun V hV => (X5.out.mods hV (fun h => HNX.out h.symm)).cell 1
        have q5 : ∀ V, Mods (fun k => k = MB) W5 V → V.cell? ⟨W.heap.size, 2, none⟩ = some (.slice A n c) := fun V hV => (X5.out.mods hV (fun h => HNX.out h.symm)).cell 2
        have HCP : Hid (Calls Try.prog 47 #[.agg #[.int .u64 (v.slot : Int), .int .u64 (v.bal : Int), .slice A n c]] W5.drew (CopT W5.drew (v.slot : Int) (v.bal : Int) v.val n)) := Lib.hid (vcopied_any _ _ hn (by omega) (V5.out.mods (Mods.refl Nil W5).drew (fun _ _ h => h)))
        have z5 : Mods (fun k => k = MB) W5 W5.drew := (Mods.refl _ W5).drew
        go_region_held (fun V => Mods (fun k => k = MB) W5 V) (first | assumption) (first
          | (go_at_call 47; refine HCP.out.mono ?_; rintro e w6 ⟨A6, k6, rfl, s6, f6, m6⟩; have m56 : Mods Nil W5 w6 := (Mods.refl Nil W5).drew.trans m6; obtain ⟨W7, r7, h7, m7⟩ := (MH5.out.mods m56 (fun _ _ _ _ h => h) HNE.out).put H0.out.rise HNE.out hs hT hn hn2 s6 (fun hne ad had => HFR.out w6 m56 ad.block (f6 hne ad had).1 (f6 hne ad had).2.1); have z6 : Mods (fun k => k = MB) W5 w6 := m56.mono (fun _ _ h => h.elim); have z7 : Mods (fun k => k = MB) W5 W7 := z6.trans m7; have H7 := Lib.hid h7; have M7 := Lib.hid m7; have M56 := Lib.hid m56; clear s6 f6 m6 h7 m7))
        go_wp2_with fail
        go_ret
        exact HFIN.out W7 MB ((B5.out.mods M56.out (fun h => h)).mods M7.out (fun h => HNE.out h.symm)) H7.out (((MX.out.mono (fun _ _ h => h.elim)).trans (M15.out.mono (fun k _ h => by subst h; exact ⟨H0.out.lo, H0.out.nx⟩))).trans ((M56.out.mono (fun _ _ h => h.elim)).trans (M7.out.mono (fun k _ h => by subst h; exact HMX.out))))
end Go.Proofs.Ytfnecjogiafekaa
end

section
/- Package acceptor: Voted; what is looked up. -/
namespace Go.Proofs.Ytfnecjogiafekaa
set_option maxRecDepth 100000
open Go.RowKit Go.Maps
set_option linter.unusedVariables false
set_option linter.unusedSimpArgs false
theorem zeroVt (w : World) : (zeroValue 49).run Try.prog w = .ok (.agg #[.int .u64 0, .int .u64 0, .slice none 0 0]) w := by kernel_rfl
theorem look_none (k : Value) (w : World) : (Instr.lookup 83 (.map none) k true).run Try.prog w = .ok (.tuple #[.agg #[.int .u64 0, .int .u64 0, .slice none 0 0], .bool false]) w := by kernel_rfl
section
variable {W0 W W' : World} {X S Y : Nat → Prop} {b T : Nat} {a : PAc} {L : List PVt} {mv : Value}
/-- What the map says of a slot. -/
theorem MapV.look (h : MapV W0 W X b L T mv) {s : Nat} (hs : s < 18446744073709551616) : ∃ (q : VtP) (r : Bool), (∀ V, Mods Nil W V → (Instr.lookup 83 mv (.int .u64 (s : Int)) true).run Try.prog V = .ok (.tuple #[.agg #[.int .u64 (q.slot : Int), .int .u64 (q.bal : Int), .slice q.A q.val.length q.c], .bool r]) V) ∧
    (r = true → ∀ V, Mods Nil W V → (Instr.lookup 83 mv (.int .u64 (s : Int)) false).run Try.prog V = .ok (.agg #[.int .u64 (q.slot : Int), .int .u64 (q.bal : Int), .slice q.A q.val.length q.c]) V) ∧ Sl W q.A q.c (bts q.val) ∧ q.val.length ≤ 100000 ∧ r = (lookV L s).isSome ∧ (∀ v, lookV L s = some v → q.plain = v) := by
  rcases h with ⟨rfl, rfl⟩ | ⟨mb, n, f, rfl, h1, h2, h3, h4, h5⟩
  · refine ⟨⟨0, 0, none, 0, []⟩, false, fun V _ => look_none _ V, fun h => (by cases h), Sl.none_ _, Nat.zero_le _, rfl, fun v hv => by rw [lookV_nil] at hv; cases hv⟩
  · have hv := h5 s hs
    cases hl : lookV L s with
    | none =>
      refine ⟨⟨0, 0, none, 0, []⟩, false, fun V hV => ?_, fun h => (by cases h), Sl.none_ _, Nat.zero_le _, rfl, fun v hv => (by cases hv)⟩
      exact (h1.mods hV (fun h => h)).miss (int_keyed Try.underlying28) Try.underlying83 (keyUL Try.underlying28 hs) (hv.none_ hl) (zeroVt V)
    | some v =>
      obtain ⟨A, c, e, hsl, _, hle⟩ := hv.some_ v hl
      have hk : ∀ V, Mods Nil W V → _ := fun V hV => (h1.mods hV (fun h => h)).look (int_keyed Try.underlying28) Try.underlying83 (keyUL Try.underlying28 hs) e (zeroVt V)
      exact ⟨⟨v.slot, v.bal, A, c, v.val⟩, true, fun V hV => (hk V hV).1, fun _ V hV => (hk V hV).2, hsl, hle, rfl, fun u hu => by injection hu⟩
/-- What Voted tells. -/
def VotedT (W0 W : World) (X : Nat → Prop) (b : Nat) (a : PAc) (T s : Nat) (e : Ending) (W' : World) : Prop :=
  ∃ (q : VtP) (r : Bool), e = .returned (.tuple #[.agg #[.int .u64 (q.slot : Int), .int .u64 (q.bal : Int), .slice q.A q.val.length q.c], .bool r]) ∧ Sl W' q.A q.c (bts q.val) ∧ (r = (lookV a.L s).isSome) ∧ (∀ v, lookV a.L s = some v → q.plain = v) ∧ AccS W0 W' X b a T ∧ Mods Nil W W'
end
end Go.Proofs.Ytfnecjogiafekaa
end

section
/- Package acceptor: Forget. -/
namespace Go.Proofs.Ytfnecjogiafekaa
set_option maxRecDepth 100000
open Go.RowKit Go.Maps
set_option linter.unusedVariables false
set_option linter.unusedSimpArgs false
/-- Between two rounds: of the keys that came those below s are gone. -/
structure FG (wr W1 : World) (b mb r n s : Nat) (lowc : Array Value) (f : Value → Option Value) (left : Lit → Bool) (cnt : Nat) (D : DataW Value) : Prop where
  rg : wr.ranges Try.prog 28 rdV mb r n D left cnt
  sz : Maps.size D ≤ n
  at_ : ∃ f' : Value → Option Value, (∀ x lx, keyOf Try.prog 28 x = some lx → ∀ zd, D.atKey lx zd = match f' x with | some v => .held v | none => zd) ∧ ∀ x : Nat, x < 18446744073709551616 → f' (.int .u64 (x : Int)) = if x < s ∧ left (.int .u64 (x : Int)) = false then none else f (.int .u64 (x : Int))
  m : Mods (fun k => k = mb) W1 wr
  blk : Blk wr b 110 lowc
section
variable {wr W1 w2 w3 : World} {b mb r n s cnt cnt' : Nat} {lowc : Array Value} {f : Value → Option Value} {left : Lit → Bool} {D : DataW Value}
/-- An entry came, and nothing was done. -/
theorem FG.step (h : FG wr W1 b mb r n s lowc f left cnt D) {x : Nat} (hx : x < 18446744073709551616) (hl : left (.int .u64 (x : Int)) = true) (hr : w2.ranges Try.prog 28 rdV mb r n D (fun z => left z && !z.sameKey (.int .u64 (x : Int))) cnt') (hm : Mods (fun k => k = r) wr w2) (hb : b ≠ r) (hr1 : W1.heap.size ≤ r) (hs : s ≤ x) :
    FG w2 W1 b mb r n s lowc f (fun z => left z && !z.sameKey (.int .u64 (x : Int))) cnt' D := by
  obtain ⟨f', h1, h2⟩ := h.at_
  refine ⟨hr, h.sz, ⟨f', h1, fun y hy => ?_⟩, h.m.trans2 hm (fun i hi e => by omega), h.blk.mods hm hb⟩
  rw [h2 y hy]
  by_cases hyx : y = x
  · subst hyx
    rw [if_neg (by omega), if_neg (by omega)]
  · have : (Lit.int .u64 (y : Int)).sameKey (.int .u64 (x : Int)) = false := by simp [Lit.sameKey]; omega
    simp only [this, Bool.not_false, Bool.and_true]
/-- An entry came, and was taken out. -/
theorem FG.del (h : FG wr W1 b mb r n s lowc f left cnt D) {x : Nat} (hx : x < 18446744073709551616) (hl : left (.int .u64 (x : Int)) = true) (hr : w3.ranges Try.prog 28 rdV mb r n (D.del (.int .u64 (x : Int))) (fun z => left z && !z.sameKey (.int .u64 (x : Int))) cnt') (hm : Mods (fun k => k = r) wr w2) (hm2 : Mods (fun k => k = mb) w2 w3) (hb : b ≠ r) (hb2 : b ≠ mb) (hr1 : W1.heap.size ≤ r) (hs : x < s) :
    FG w3 W1 b mb r n s lowc f (fun z => left z && !z.sameKey (.int .u64 (x : Int))) cnt' (D.del (.int .u64 (x : Int))) := by
  obtain ⟨f', h1, h2⟩ := h.at_
  have hK : Keyed Try.prog 28 := int_keyed Try.underlying28
  have hkey : keyOf Try.prog 28 (.int .u64 (x : Int)) = some (.int .u64 (x : Int)) := keyUL Try.underlying28 hx
  have htidy := h.rg.owns.tidy hK
  refine ⟨hr, ?_, ⟨delK f' (.int .u64 (x : Int)), fun y hy hyk zd => ?_, fun y hy => ?_⟩, (h.m.trans2 hm (fun i hi e => by omega)).trans hm2, (h.blk.mods hm hb).mods hm2 hb2⟩
  · have := size_del (k := .int .u64 (x : Int)) htidy
    have := h.sz
    split at * <;> omega
  · unfold delK
    by_cases hyx : y = .int .u64 (x : Int)
    · subst hyx
      rw [hkey] at hyk
      injection hyk with hyk
      subst hyk
      rw [if_pos rfl, atKey_del_same]
    · rw [if_neg hyx, atKey_del_other (fun e => hyx (by subst e; exact hK.inj hyk hkey))]
      exact h1 y hy hyk zd
  · by_cases hyx : y = x
    · subst hyx
      rw [delK_same, if_pos ⟨hs, by simp [Lit.sameKey]⟩]
    · have : (Lit.int .u64 (y : Int)).sameKey (.int .u64 (x : Int)) = false := by simp [Lit.sameKey]; omega
      rw [delK_ne (fun e => by injection e with _ e; omega), h2 y hy]
      simp only [this, Bool.not_false, Bool.and_true]
/-- All came. -/
theorem FG.done (h : FG wr W1 b mb r n s lowc f left cnt D) (hl : ∀ kl, left kl = false) : ∃ (f' : Value → Option Value) (m : Nat), KMap Try.prog 28 wr mb m f' ∧ m ≤ n ∧ ∀ x : Nat, x < 18446744073709551616 → f' (.int .u64 (x : Int)) = if x < s then none else f (.int .u64 (x : Int)) := by
  obtain ⟨f', h1, h2⟩ := h.at_
  refine ⟨f', Maps.size D, ⟨D, ownsMap_size h.rg.owns, rfl, h1⟩, h.sz, fun x hx => ?_⟩
  rw [h2 x hx, hl]
  simp
end
section
variable {W0 W W' : World} {X S Y : Nat → Prop} {b T : Nat} {a : PAc} {L : List PVt} {mv : Value}
def ForgT (W0 W : World) (X : Nat → Prop) (b : Nat) (a : PAc) (T s : Nat) (e : Ending) (W' : World) : Prop := e = .returned (.tuple #[]) ∧ AccS W0 W' X b (a.forget s) T ∧ Mods (AM W0 X) W W'
end
end Go.Proofs.Ytfnecjogiafekaa
end
