/- Package segment: Len, Sure, Free, keep. -/
import Derived.Test.YtgebcpfgihcoiaaSgm4
import Derived.Deep.RegionHeldLaw
namespace Go.Proofs.Ytgebcpfgihcoiaa
set_option maxRecDepth 100000
open Go.RowKit
set_option linter.unusedVariables false

theorem run_len_im {k t e : TypeId} {w : World} {b n : Nat} {f : Int → Option Value} (h : IMap Try.prog k w b n f) : ∃ es c, w.heap[b]? = some (.map es c) ∧ es.size = n := by
  obtain ⟨D, ⟨es, c, hb, F, hs, rfl⟩, h2, h3⟩ := h
  exact ⟨es, c, hb, by rw [← h2]; simp [Maps.size, length_sorted]⟩
theorem gq_len {C : World → Prop} {K : Act → Prop} {a : Act} {o : Oper} (m : Operand) (t : TypeId) (hop : o.op = Op.call { callee := Callee.builtin Builtin.len, args := #[m], argTypes := #[t] }) (k e : TypeId) (ht : Try.prog.underlying t = some (.map k e)) (b n : Nat)
    (hm : a.eval m = .map (some b)) (h : ∀ V, C V → ∃ f, IMap Try.prog k V b n f) (hk : K (a.put o.dst (.int .i64 (n : Int)))) : o.quiet Try.prog a C K :=
  gq_op (fun w hw => by
    obtain ⟨f, hf⟩ := h w hw
    simp [execOp, hop, resolve, invoke, builtin, hm, hf.len ht o.type, Result.andThen]) hk
section
variable {w : World} {base db sb mb : Nat} {s : PSeg}
theorem slen_in (h : SegIn w base sb db mb s) : Calls Try.prog 30 #[.pointer (some ⟨sb, 0, none⟩)] w fun e w' => e = .returned (.int .i64 (s.L.length : Int)) ∧ Mods Nil w w' := by
  have c5 : Hid (∀ V, Mods Nil w V → V.cell? ⟨sb, 5, none⟩ = some (.map (some mb))) := Lib.hid (fun V hm => (h.nil hm).cells.2.2.2.2.2.1)
  have c6 : Hid (∀ V, Mods Nil w V → V.cell? ⟨sb, 6, none⟩ = some (.int .i64 (s.gone : Int))) := Lib.hid (fun V hm => (h.nil hm).cells.2.2.2.2.2.2.1)
  have HL : Hid (∀ V, Mods Nil w V → ∃ f, IMap Try.prog 3 V mb (s.L.length - s.gone) f) := Lib.hid (fun V hm => by
    obtain ⟨f, h1, _⟩ := (h.nil hm).map
    exact ⟨f, h1⟩)
  have hg := h.ok.gone
  have hs := h.ok.sure
  have hl := h.ok.len
  have hu := h.ok.used
  have hf := h.ok.fit
  obtain ⟨n, hn⟩ : ∃ n, s.L.length = n := ⟨_, rfl⟩
  obtain ⟨m, hm⟩ : ∃ m, s.L.length - s.gone = m := ⟨_, rfl⟩
  obtain ⟨g, hgg⟩ : ∃ g, s.gone = g := ⟨_, rfl⟩
  have hw : IntKind.i64.wrap ((g : Int) + (m : Int)) = (n : Int) := by rw [IntKind.wrap_i64]; omega
  rw [hm] at HL
  rw [hgg] at c6
  rw [hn]
  clear h hg hs hl hu hf hn hm hgg
  go_enter Try.func30, Try.ntmps30
  go_wp2_with fail
  have d5 := c5.out
  have d6 := c6.out
  refine gq_region (by kernel_rfl) (by kernel_rfl) ?_
  repeat (first
    | go_big_quiet_skip
    | (go_big_quiet_want; first
        | (refine gq_len _ 84 rfl 3 42 Try.underlying84 mb m rfl HL.out ?_; go_big_quiet_on)
        | (refine gq_op (v := ?_) ?_ ?_; rotate_left; (focus (intro V hV; go_simp; try with_reducible rfl)); go_big_quiet_on))
      simp only [Act.put, List.setIfInBounds_toArray, List.set_cons_zero, List.set_cons_succ])
  refine wpQuiet_nil ?_
  intro V hV
  clear d5 d6
  go_wp2_with fail
  go_ret
  exact ⟨rfl, hV⟩
theorem sfree_in (h : SegIn w base sb db mb s) : Calls Try.prog 33 #[.pointer (some ⟨sb, 0, none⟩)] w fun e w' => e = .returned (.int .i64 (s.n - s.used : Nat)) ∧ Mods Nil w w' := by
  have c2 := h.cells.2.2.1
  have c3 := h.cells.2.2.2.1
  have hu := h.ok.used
  have hf := h.ok.fit
  obtain ⟨n, hn⟩ : ∃ n, s.n = n := ⟨_, rfl⟩
  obtain ⟨m, hm⟩ : ∃ m, s.n - s.used = m := ⟨_, rfl⟩
  obtain ⟨g, hgg⟩ : ∃ g, s.used = g := ⟨_, rfl⟩
  have hw : IntKind.i64.wrap ((n : Int) - (g : Int)) = (m : Int) := by rw [IntKind.wrap_i64]; omega
  rw [hn] at c2
  rw [hgg] at c3
  rw [hm]
  clear h hu hf hn hm hgg
  go_enter Try.func33, Try.ntmps33
  go_wp2_with fail
  go_quiet (fail)
  all_goals
    go_wp2_with fail
    go_ret
    exact ⟨rfl, (Mods.refl Nil w).drewN nq⟩
theorem ssure_in (h : SegIn w base sb db mb s) : Calls Try.prog 31 #[.pointer (some ⟨sb, 0, none⟩)] w fun e w' => e = .returned (.int .i64 (s.sure : Int)) ∧ Mods Nil w w' := by
  have c7 := h.cells.2.2.2.2.2.2.2.1
  clear h
  go_enter Try.func31, Try.ntmps31
  go_wp2_with fail
  go_ret
  exact ⟨rfl, Mods.refl _ _⟩
/-- One record more. -/
def PSeg.add (s : PSeg) (b : List UInt8) (m : Nat) : PSeg := { s with L := s.L ++ [b], used := s.used + m }
theorem PSeg.Ok.add {s : PSeg} (h : s.Ok) {b : List UInt8} {m : Nat} (hm : 1 ≤ m) (hf : s.used + m ≤ s.n) : (s.add b m).Ok :=
  ⟨h.fit, hf, by have := h.len; simp [PSeg.add]; omega, by have := h.sure; simp [PSeg.add]; omega, h.gone, h.epoch, h.err⟩
theorem SegIn.keep {w2 : World} {d : PD} {f : Int → Option Value} (h : SegIn w base sb db mb s) (hd : DiskAt w base db d) {A : Option Addr} {c : Nat} {b : List UInt8} (hb : Rb w A c b) (hb4 : b.length ≤ 4140) {m : Nat} (hm : 1 ≤ m) (hf : s.used + m ≤ s.n)
    (hi : IMap Try.prog 3 w2 mb (s.L.length - s.gone + 1) (upd f (s.L.length : Int) (some (.slice A b.length c)))) (hr : RecF w s.gone s.L f) (h2 : Mods (fun j => j = mb) w w2) :
    SegIn (w2.setCell ⟨sb, 3, none⟩ (.int .i64 ((s.used + m : Nat) : Int))) base sb db mb (s.add b m) ∧ DiskAt (w2.setCell ⟨sb, 3, none⟩ (.int .i64 ((s.used + m : Nat) : Int))) base db d ∧ Mods (fun k => k = sb ∨ k = mb) w (w2.setCell ⟨sb, 3, none⟩ (.int .i64 ((s.used + m : Nat) : Int))) := by
  have hm2 : Mods (fun k => k = sb ∨ k = mb) w (w2.setCell ⟨sb, 3, none⟩ (.int .i64 ((s.used + m : Nat) : Int))) :=
    Mods.setCell (S := fun k => k = sb ∨ k = mb) (p := ⟨sb, 3, none⟩) (h2.mono (fun _ _ e => .inr e)) (fun _ => .inl rfl) _
  have hms : Mods (fun k => k = sb) w2 (w2.setCell ⟨sb, 3, none⟩ (.int .i64 ((s.used + m : Nat) : Int))) := Mods.setCell (S := fun k => k = sb) (p := ⟨sb, 3, none⟩) (Mods.refl _ _) (fun _ => rfl) _
  have hg := h.ok.gone
  have hsr := h.ok.sure
  refine ⟨⟨?_, ⟨upd f (s.L.length : Int) (some (.slice A b.length c)), ?_, ?_⟩, h.leS, h.leM, h.ok.add hm hf⟩, hd.off hm2 h.noDS, hm2⟩
  · have := (h.blk.mods h2 (fun e => h.ne e.symm)).set_ 3 (.int .i64 ((s.used + m : Nat) : Int))
    simpa [segC, PSeg.add] using this
  · have := hi.mods hms h.ne
    have e : (s.add b m).L.length - (s.add b m).gone = s.L.length - s.gone + 1 := by simp [PSeg.add]; omega
    rw [e]
    exact this
  · have hr2 := hr.off hm2 h.noU8
    have hb2 := hb.off hm2 h.noU8
    refine ⟨fun x hx => ?_, fun k h1 hk => ?_⟩
    · have hx' : x < (s.gone : Int) ∨ ((s.L.length + 1 : Nat) : Int) ≤ x := by simpa [PSeg.add] using hx
      unfold upd
      rw [if_neg (by omega)]
      exact hr2.none x (by omega)
    · have hk' : k < s.L.length + 1 := by simpa [PSeg.add] using hk
      unfold upd
      show ∃ A c, _ = some (Value.slice A (((s.L ++ [b]).getD k []).length) c) ∧ Rb _ A c ((s.L ++ [b]).getD k []) ∧ ((s.L ++ [b]).getD k []).length ≤ 4140
      by_cases e : k = s.L.length
      · subst e
        rw [if_pos rfl]
        have : (s.L ++ [b]).getD s.L.length [] = b := by simp
        rw [this]
        exact ⟨A, c, rfl, hb2, hb4⟩
      · rw [if_neg (by omega)]
        have : (s.L ++ [b]).getD k [] = s.L.getD k [] := by simp [List.getD_eq_getElem?_getD, List.getElem?_append_left (show k < s.L.length by omega)]
        rw [this]
        exact hr2.some k h1 (by omega)
set_option maxHeartbeats 3200000 in
theorem skeep_fine {d : PD} (h : SegIn w base sb db mb s) (hd : DiskAt w base db d) {A : Option Addr} {c q : Nat} {b : List UInt8} (hb : Rb w A c b) (hb4 : b.length ≤ 4140) (hq : b.length = q) {m : Nat} (hm : 1 ≤ m) (hf : s.used + m ≤ s.n) :
    Calls Try.prog 43 #[.pointer (some ⟨sb, 0, none⟩), .slice A q c, .int .i64 (m : Int)] w fun e w' => e = .returned (.tuple #[]) ∧ SegIn w' base sb db mb (s.add b m) ∧ DiskAt w' base db d ∧ Mods (fun k => k = sb ∨ k = mb) w w' := by
  subst hq
  have HL := Lib.hid (slen_in (h.nil (Mods.refl Nil w).drew))
  have hfit := h.ok.fit
  have hlen := h.ok.len
  have hsr := h.ok.sure
  have hgn := h.ok.gone
  have c5 := h.cells.2.2.2.2.2.1
  have hne := h.ne
  have HK : Hid (∀ w2, Mods Nil w w2 → ∃ w3, (Instr.mapUpdate 84 (.map (some mb)) (.int .i64 (s.L.length : Int)) (.slice A b.length c)).run Try.prog w2 = .ok () w3 ∧ w3.cell? ⟨sb, 5, none⟩ = some (.map (some mb)) ∧ w3.cell? ⟨sb, 3, none⟩ = some (.int .i64 (s.used : Int)) ∧ w3.frozen? ⟨sb, 3, none⟩ = false ∧
      (SegIn (w3.setCell ⟨sb, 3, none⟩ (.int .i64 ((s.used + m : Nat) : Int))) base sb db mb (s.add b m) ∧ DiskAt (w3.setCell ⟨sb, 3, none⟩ (.int .i64 ((s.used + m : Nat) : Int))) base db d ∧ Mods (fun k => k = sb ∨ k = mb) w (w3.setCell ⟨sb, 3, none⟩ (.int .i64 ((s.used + m : Nat) : Int))))) := Lib.hid (fun w2 hm2 => by
    have h2 := h.nil hm2
    have hd2 := hd.nil hm2
    have hb2 := hb.off hm2 (fun _ _ h => h.elim)
    obtain ⟨f, hi, hr⟩ := h2.map
    obtain ⟨w3, r3, i3, m3⟩ := hi.put (t := 84) Try.underlying3 Try.underlying84 (in64_of (x := (s.L.length : Int)) (by omega) (by omega)) (hr.none _ (.inr (by omega))) (by unfold maxLen; omega) (.slice A b.length c)
    have hB := h2.blk.mods m3 (fun e => hne e.symm)
    have k := h2.keep hd2 hb2 hb4 hm hf i3 hr m3
    refine ⟨w3, r3, by simpa [segC] using hB.cell 5, by simpa [segC] using hB.cell 3, hB.frozen 3, k.1, k.2.1, (hm2.mono (fun _ _ h => h.elim)).trans k.2.2⟩)
  have hadd : (s.used : Int) + (m : Int) = ((s.used + m : Nat) : Int) := by omega
  have hwr : IntKind.i64.wrap ((s.used + m : Nat) : Int) = ((s.used + m : Nat) : Int) := by rw [IntKind.wrap_i64]; have := h.ok.used; omega
  obtain ⟨n, hn⟩ : ∃ n, s.L.length = n := ⟨_, rfl⟩
  obtain ⟨z, hz⟩ : ∃ z : Int, ((s.used + m : Nat) : Int) = z := ⟨_, rfl⟩
  obtain ⟨y, hy⟩ : ∃ y : Int, (s.used : Int) = y := ⟨_, rfl⟩
  rw [hz] at hadd hwr HK
  rw [hy] at hadd HK
  rw [hn] at HL HK
  obtain ⟨q, hq⟩ : ∃ q, b.length = q := ⟨_, rfl⟩
  rw [hq] at HK ⊢
  clear h hd hb hb4 hfit hlen hsr hgn hn hz hy hq hf
  go_enter Try.func43, Try.ntmps43
  go_wp2_with fail
  go_region_held (fun V => V.cell? ⟨sb, 5, none⟩ = some (.map (some mb))) (first | assumption) (first
    | (go_at_call 30; refine HL.out.mono ?_; rintro e w2 ⟨rfl, m2⟩; obtain ⟨w3, r3, k5, k3, f3, k⟩ := HK.out w2 m2.of_drew; have KK := Lib.hid k; have KR := Lib.hid r3; have k0 := (World.cell?_of_block (m2.block sb (World.block_lt_of_cell? w _ c5) (fun h => h))).trans c5; clear k))
  all_goals
    go_wp2_with fail
    exact bodyPost_end (results_none rfl _ _ _) rfl ⟨rfl, KK.out⟩
theorem skeep_in {d : PD} (h : SegIn w base sb db mb s) (hd : DiskAt w base db d) {A : Option Addr} {c q : Nat} {b : List UInt8} (hb : Rb w A c b) (hb4 : b.length ≤ 4140) (hq : b.length = q) {m : Nat} (hm : 1 ≤ m) (hf : s.used + m ≤ s.n) :
    Calls Try.prog 43 #[.pointer (some ⟨sb, 0, none⟩), .slice A q c, .int .i64 (m : Int)] w fun e w' => e = .returned (.tuple #[]) ∧ SegIn w' base sb db mb (s.add b m) ∧ DiskAt w' base db d ∧ SM base w w' :=
  (skeep_fine h hd hb hb4 hq hm hf).mono fun e w' ⟨h1, h2, h3, h4⟩ => ⟨h1, h2, h3, h4.mono (fun k _ e => by rcases e with rfl | rfl; exact h.ss; exact h.sm)⟩
end
end Go.Proofs.Ytgebcpfgihcoiaa
