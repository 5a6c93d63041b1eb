/- LeaderSafe: a value that a majority voted for is proposed again by each leader of a greater ballot. -/
import Derived.Test.YtfnecjogiafekaaSafe15
import Derived.Test.YtfnecjogiafekaaRowF
import Derived.Deep.QuietTactic
import Derived.BigQuiet
namespace Go.Proofs.Ytfnecjogiafekaa
set_option maxRecDepth 1000000
open Go.RowKit
set_option linter.unusedVariables false
set_option linter.unusedSimpArgs false
theorem infoPtr15 : (Try.prog.info? 68).map (fun i => (i.zero, i.size, i.bytes)) = some (some (.pointer none), 1, 8) := by kernel_rfl
def ptrE (e : AcE) : Value := .pointer (some ⟨e.b, 0, none⟩)
theorem new1P {w : World} {t : TypeId} {x : Value} : ∀ j u, [x][j]? = some u → (w.alloc (.cells #[x] t)).cell? ((⟨w.heap.size, 0, none⟩ : Addr).add j) = some u := by
  intro j u hu
  rw [Addr.add_lit, World.cell?_alloc_mark]
  match j, hu with
  | 0, hu => simpa using hu
theorem push_ptr {ops : Array Oper} {rest : List Oper} {o : Oper} {a : Act} {Q : Exit → Act → World → Prop} (hgd : o.guard = none) (s x : Operand)
    (ho : o.op = .call { callee := .builtin .append, args := #[s, x], argTypes := #[67, 67] })
    {W : World} {base m : Nat} {v : Value} {l : List Value} {y : Option Addr} (hs : a.eval s = v) (hown : W.ownsRow base 68 1 v m l) (hx : a.eval x = .slice (some ⟨W.heap.size, 0, none⟩) 1 1)
    (hlim : m ≤ 1000000) (hbase : base ≤ W.heap.size)
    (h : ∀ g cap w', w'.ownsRow base 68 1 (.slice (some ⟨g, 0, none⟩) (m + 1) cap) (m + 1) (l ++ [.pointer y]) → Mods (fun k => v.ownBlock = some k) W w' → (v.ownBlock = some g ∨ W.heap.size ≤ g) → wpList Try.prog ops Q rest (a.put o.dst (.slice (some ⟨g, 0, none⟩) (m + 1) cap)) w') :
    wpList Try.prog ops Q (o :: rest) a (W.alloc (.cells #[.pointer y] 68)) := by
  obtain ⟨i0, hi0, hz0, hz1, hz2⟩ := info_parts infoPtr15
  refine wpList_plain hgd fun K hK' => ?_
  obtain ⟨g, cap, w', hrun, h2, h3, h4⟩ := run_append_rows (P := Try.prog) (W.alloc (.cells #[.pointer y] 68)) base 67 o.type 68 i0 (.pointer none) 1 8 Try.underlying67 hi0 hz0 hz1 hz2 rfl (by decide) v m l (own_mods hown ((Mods.refl Nil W).alloc _) (fun _ _ h => h)) ⟨W.heap.size, 0, none⟩ 1 1 [.pointer y] rfl (by omega) new1P (by simp [Value.oneCell']) (by omega) (by unfold maxLen; omega) (by simp; omega)
  unfold Oper.wp
  simp [execOp, ho, resolve, invoke, builtin, hs, hx, hrun, Result.andThen]
  refine hK' _ _ (h g cap w' h2 (((Mods.refl (fun k => v.ownBlock = some k) W).alloc _).grown h3 (fun k hk _ => hk)) ?_)
  rcases h4 with h4 | h4
  · exact .inl h4
  · exact .inr (by simp at h4; omega)
/-- The acceptors, and their row. -/
structure SfR (w1 wr : World) (v : Value) (L : List AcE) : Prop where
  row : wr.ownsRow w1.heap.size 68 1 v L.length (L.map ptrE)
  off : ∀ k, v.ownBlock = some k → ∀ e ∈ L, ¬ e.own k
  al : AcL w1 wr L
  m : Mods Nil w1 wr
theorem SfR.none_ (w1 : World) : SfR w1 w1 (.slice none 0 0) [] := ⟨World.ownsRow_nil _ _ _ _, fun k hk => (by simp [Value.ownBlock] at hk), ⟨fun e he => (by cases he), List.Pairwise.nil⟩, Mods.refl _ _⟩
theorem SfR.nil {w1 wr W : World} {v : Value} {L : List AcE} (h : SfR w1 wr v L) (hm : Mods Nil wr W) : SfR w1 W v L := ⟨own_mods h.row hm (fun _ _ h => h), h.off, h.al.nil hm, h.m.trans hm⟩
/-- One more acceptor, laid behind all that there is. -/
theorem SfR.push {w1 wr W w' : World} {v : Value} {L : List AcE} {e : AcE} {g cap : Nat} (h : SfR w1 wr v L) (hm : Mods Nil wr W) (he : e.ok w1 W) (h1 : wr.heap.size ≤ e.lo) (ho : w'.ownsRow w1.heap.size 68 1 (.slice (some ⟨g, 0, none⟩) (L.length + 1) cap) (L.length + 1) (L.map ptrE ++ [ptrE e])) (hm2 : Mods (fun k => v.ownBlock = some k) W w') (hg : v.ownBlock = some g ∨ W.heap.size ≤ g) : SfR w1 w' (.slice (some ⟨g, 0, none⟩) (L.length + 1) cap) (L ++ [e]) := by
  have hall : ∀ k, v.ownBlock = some k → ∀ x ∈ L ++ [e], ¬ x.own k := fun k hk x hx hxo => by
    rcases List.mem_append.1 hx with hx | hx
    · exact h.off k hk x hx hxo
    · rw [List.mem_singleton.1 hx] at hxo
      have := (h.row.lt k hk).2
      have := hxo.1
      omega
  refine ⟨by simpa using ho, fun k hk x hx hxo => ?_, ?_, (h.m.trans hm).nil_trans hm2 (fun k hk => (h.row.lt k hk).1)⟩
  · simp [Value.ownBlock] at hk
    subst hk
    rcases hg with hg | hg
    · exact hall _ hg x hx hxo
    · have h9 := hxo.2
      rcases List.mem_append.1 hx with hx | hx
      · have := ((h.al.nil hm).each x hx).hi; omega
      · rw [List.mem_singleton.1 hx] at h9
        have := he.hi; omega
  · refine (((h.al.nil hm).push he (fun x hx => Nat.le_trans (h.al.each x hx).hi h1)).mods hm2 (fun x hx k hk hs => ⟨(h.row.lt k hs).1, hall k hs x hx⟩))
/-- What lies where the second loop stands: the row, the acceptors from the i-th on, the leader. -/
structure SfX (w1 wr : World) (v : Value) (L : List AcE) (vx n g : Nat) (ld : PLd) (T i : Nat) : Prop where
  row : wr.ownsRow w1.heap.size 68 1 v L.length (L.map ptrE)
  off : ∀ k, v.ownBlock = some k → w1.heap.size ≤ k ∧ k < vx ∧ ∀ e ∈ L, ¬ e.own k
  al : AcL w1 wr (L.drop i)
  hi : ∀ e ∈ L, e.hi ≤ vx
  ld : ∃ X, LdS w1 wr X g ld T ∧ ∀ k, w1.heap.size ≤ k → k < vx → X k
theorem SfX.m {w1 wr : World} {v : Value} {L : List AcE} {vx n g T i : Nat} {ld : PLd} (h : SfX w1 wr v L vx n g ld T i) : Mods Nil w1 wr := by
  obtain ⟨X, h1, _⟩ := h.ld
  exact h1.m
theorem SfX.next {w1 wr : World} {v : Value} {L : List AcE} {vx n g T i : Nat} {ld : PLd} (h : SfX w1 wr v L vx n g ld T i) {T' : Nat} (hT : T ≤ T') : SfX w1 wr v L vx n g ld T' (i + 1) := by
  obtain ⟨X, h1, h2⟩ := h.ld
  have h3 := h.al
  refine ⟨h.row, h.off, ?_, h.hi, X, h1.mono_T hT, h2⟩
  rw [← List.drop_drop]
  exact ⟨fun e he => h3.each e (List.mem_of_mem_drop he), h3.apart.sublist (List.drop_sublist _ _)⟩
/-- The i-th acceptor promises. -/
theorem SfX.prep {w1 wr : World} {v : Value} {L : List AcE} {vx n g T i : Nat} {ld : PLd} (h : SfX w1 wr v L vx n g ld T i) {e : AcE} (he : L[i]? = some e) {b s : Nat} {val old : List UInt8} {r : Bool} (ha : e.a = sfA b s val old r) {bp : Nat} (hbp : b + 1 = bp) (hb : b ≤ 300) :
    Calls Try.prog 31 #[ptrE e, .int .u64 (bp : Int), .int .u64 0] wr fun e' W' => ∃ A c q, e' = .returned (.tuple #[.slice A 1 c, .int .i64 0]) ∧ q.plain = sfV b s val old r ∧ PVs W' (NEW wr W') A c 1 [q] ∧ SfX w1 W' v L vx n g ld T (i + 1) := by
  obtain ⟨hi, hx⟩ := List.getElem?_eq_some_iff.1 he
  have hdr : L.drop i = e :: L.drop (i + 1) := by rw [List.drop_eq_getElem_cons hi, hx]
  have h3 := h.al
  rw [hdr] at h3
  have hok := h3.each e (by simp)
  have hmem : e ∈ L := List.mem_of_getElem? he
  obtain ⟨X, g1, g2⟩ := h.ld
  have hp := hok.acc.prep (by omega) (bal := bp) (f := 0) (by omega) (by omega)
  rw [ha] at hp
  refine hp.mono ?_
  rintro e' W' ⟨A, c, m, L', h4, h5, h6, h7, h8⟩
  subst hbp
  rw [(sf_prep val old r).1] at h4
  rw [(sf_prep val old r).2] at h5
  obtain ⟨q, rfl⟩ : ∃ q, L' = [q] := List.length_eq_one_iff.1 (by have := congrArg List.length h5; simpa using this)
  obtain rfl : m = 1 := by rw [← h6.len]; rfl
  have hown : ∀ k, k < wr.heap.size → AM w1 (e.oth w1 wr) k → e.own k := fun k hk hs => by
    have hs1 := hs.1
    refine ⟨?_, ?_⟩
    · rcases Nat.lt_or_ge k e.lo with h9 | h9
      · exact absurd (.inl ⟨hs1, h9⟩) hs.2
      · exact h9
    · rcases Nat.lt_or_ge k e.hi with h9 | h9
      · exact h9
      · exact absurd (.inr ⟨h9, hk⟩) hs.2
  refine ⟨A, c, q, h4, by simpa using h5, h6.sub (fun k hk => hk), own_mods h.row h8 (fun k hk hs => (h.off k hk).2.2 e hmem (hown k (h.row.lt k hk).2 hs)), h.off, h3.after h8, h.hi, _, g1.keep_more h8 (fun k hk hs => ⟨g2 k hs.1 (Nat.lt_of_lt_of_le (hown k hk hs).2 (h.hi e hmem)), hs.1⟩), fun k h9 h10 => .inl (g2 k h9 h10)⟩
/-- The leader hears it. -/
theorem SfX.prom {w1 wr : World} {v : Value} {L : List AcE} {vx n g T i : Nat} {ld : PLd} (h : SfX w1 wr v L vx n g ld T i) (hT : T ≤ 500000) {node x : Nat} (hn : node ≤ 100) (hx : x < 18446744073709551616) {D : Nat → Prop} {A : Option Addr} {c : Nat} {q : VtP} (hv : PVs wr D A c 1 [q]) (hq : q.val.length ≤ 100000) {l' : PLd} {told : List PVt} {r : Bool}
    (e1 : ld.promise (node : Int) x 0 [q.plain] = l') (e2 : ld.promV (node : Int) x 0 [q.plain] = told) (e3 : ld.promB (node : Int) x 0 [q.plain] = r) :
    Calls Try.prog 14 #[.pointer (some ⟨g, 0, none⟩), .int .i64 (node : Int), .int .u64 (x : Int), .int .u64 0, .slice A 1 c] wr fun e' W' => ∃ A' n' c' L', e' = .returned (.tuple #[.slice A' n' c', .bool r]) ∧ L'.map VtP.plain = told ∧ PVs W' (NEW wr W') A' c' n' L' ∧ SfX w1 W' v L vx n g l' (T + 5000) i := by
  obtain ⟨X, g1, g2⟩ := h.ld
  refine (g1.promise2 (by omega) (node := (node : Int)) (x := x) (low := 0) (by omega) (by omega) hx (by omega) hv (by omega) (fun y hy => by rw [List.mem_singleton.1 hy]; exact hq) e1 e2 e3 rfl).mono ?_
  rintro e' W' ⟨A', n', c', L', h1, h2, h3, h4, h5⟩
  refine ⟨A', n', c', L', h1, h2, h3, own_mods h.row h5 (fun k hk hs => hs.2 (g2 k (h.off k hk).1 (h.off k hk).2.1)), h.off, h.al.mods h5 (fun y hy k hk hs => ⟨hs.1, fun ho => hs.2 (g2 k hs.1 (Nat.lt_of_lt_of_le ho.2 (h.hi y (List.mem_of_mem_drop hy))))⟩), h.hi, _, h4.mono_T (by omega), fun k h9 h10 => g2 k h9 h10⟩
set_option maxHeartbeats 6400000 in
theorem leaderSafe_walk (w : World) {mi : Int} (wm : (Lit.int .u8 mi).wf = true) {whi : Int} (wwh : (Lit.int .u32 whi).wf = true) {pri : Int} (wpr : (Lit.int .u32 pri).wf = true) {bi : Int} (wb : (Lit.int .u8 bi).wf = true) {A1 : Option Addr} {c1 n1 : Nat} {val : List UInt8} (hn1 : val.length = n1) (hs1 : Sl w A1 c1 (bts val)) {A2 : Option Addr} {c2 n2 : Nat} {old : List UInt8} (hn2 : old.length = n2) (hs2 : Sl w A2 c2 (bts old)) {si : Int} (ws : (Lit.int .u8 si).wf = true) :
    Calls Try.prog 4 #[.int .u8 mi, .int .u32 whi, .int .u32 pri, .int .u8 bi, .slice A1 n1 c1, .slice A2 n2 c2, .int .u8 si] w fun e w' => e = .returned (.bool true) ∧ Mods Nil w w' := by
  have hm0 := u8_of_wf wm
  have hb0 := u8_of_wf wb
  have hs0 := u8_of_wf ws
  have hw0 := u32_of_wf15 wwh
  have hp0 := u32_of_wf15 wpr
  obtain ⟨mb, rfl⟩ : ∃ s : Nat, mi = (s : Int) := ⟨mi.toNat, by omega⟩
  obtain ⟨who, rfl⟩ : ∃ s : Nat, whi = (s : Int) := ⟨whi.toNat, by omega⟩
  obtain ⟨prm, rfl⟩ : ∃ s : Nat, pri = (s : Int) := ⟨pri.toNat, by omega⟩
  obtain ⟨b9, rfl⟩ : ∃ s : Nat, bi = (s : Int) := ⟨bi.toNat, by omega⟩
  obtain ⟨sb, rfl⟩ : ∃ f : UInt8, si = (f.toNat : Int) := ⟨UInt8.ofNat si.toNat, by simp; omega⟩
  obtain ⟨n, hnn⟩ : ∃ n, mb % 7 + 1 = n := ⟨_, rfl⟩
  obtain ⟨n9, hn9⟩ : ∃ n9, mb % 7 = n9 := ⟨_, rfl⟩
  obtain ⟨b, hb⟩ : ∃ b, b9 + 2 = b := ⟨_, rfl⟩
  obtain ⟨s, hs⟩ : ∃ s, sb.toNat % 16 = s := ⟨_, rfl⟩
  have hrem : (mb : Int).tmod 7 = (n9 : Int) := by rw [Int.tmod_eq_emod_of_nonneg (by omega)]; omega
  have hwr : IntKind.u8.wrap (n9 : Int) = (n9 : Int) := by rw [IntKind.wrap_u8']; omega
  have hwn : IntKind.i64.wrap (n9 : Int) = (n9 : Int) := by rw [IntKind.wrap_i64]; omega
  have hwn1 : IntKind.i64.wrap ((n9 : Int) + 1) = (n : Int) := by rw [IntKind.wrap_i64]; omega
  have hwb : IntKind.u64.wrap (b9 : Int) = (b9 : Int) := by rw [IntKind.wrap_u64]; omega
  have hwb2 : IntKind.u64.wrap ((b9 : Int) + 2) = (b : Int) := by rw [IntKind.wrap_u64]; omega
  obtain ⟨bm, hbm⟩ : ∃ bm, b - 1 = bm := ⟨_, rfl⟩
  obtain ⟨bp, hbp⟩ : ∃ bp, b + 1 = bp := ⟨_, rfl⟩
  have hwbm : IntKind.u64.wrap ((b : Int) - 1) = (bm : Int) := by rw [IntKind.wrap_u64]; omega
  have hwbp : IntKind.u64.wrap ((b : Int) + 1) = (bp : Int) := by rw [IntKind.wrap_u64]; omega
  have hsand : bits .and .u8 (sb.toNat : Int) 15 = (s : Int) := by rw [u8_and15v, hs]
  have hws : IntKind.u64.wrap (s : Int) = (s : Int) := by rw [IntKind.wrap_u64]; omega
  have hs15 : s ≤ 15 := by omega
  have hb1 : 1 ≤ b := by omega
  have hb300 : b ≤ 300 := by omega
  have h1n : 1 ≤ n := by omega
  have hn7 : n ≤ 7 := by omega
  have hwho : who < 4294967296 := by omega
  have hprm : prm < 4294967296 := by omega
  have HN1 := Lib.hid hn1
  have HS1 := Lib.hid hs1
  have HN2 := Lib.hid hn2
  have HS2 := Lib.hid hs2
  have hbp300 : bp ≤ 301 := by omega
  have hbm300 : bm ≤ 300 := by omega
  have HBM := Lib.hid hbm
  have HBP := Lib.hid hbp
  clear wm wwh wpr wb ws hm0 hb0 hs0 hw0 hp0 hnn hn9 hb hs hn1 hs1 hn2 hs2 hbm hbp
  by_cases hbig : 40 < n1 ∨ 40 < n2
  · by_cases h20 : 40 < n1
    · have h20I : decide ((40 : Int) < (n1 : Int)) = true := by simp; omega
      have h20N : decide (40 < n1) = true := by simp; omega
      clear hbig h20
      go_enter Try.func4, Try.ntmps4
      go_wp2_with (first
        | (go_at_call 9; refine (awake15_any _).mono ?_; rintro e w1 ⟨rfl, m1⟩; have M1 := Lib.hid m1; clear m1))
      go_ret
      exact ⟨rfl, M1.out⟩
    · have h20I : decide ((40 : Int) < (n1 : Int)) = false := by simp; omega
      have h20N : decide (40 < n1) = false := by simp; omega
      have h100I : decide ((40 : Int) < (n2 : Int)) = true := by simp; omega
      have h100N : decide (40 < n2) = true := by simp; omega
      clear hbig h20
      go_enter Try.func4, Try.ntmps4
      go_wp2_with (first
        | (go_at_call 9; refine (awake15_any _).mono ?_; rintro e w1 ⟨rfl, m1⟩; have M1 := Lib.hid m1; clear m1))
      go_ret
      exact ⟨rfl, M1.out⟩
  have hq1 : n1 ≤ 40 := by omega
  have hq2 : n2 ≤ 40 := by omega
  have h20I : decide ((40 : Int) < (n1 : Int)) = false := by simp; omega
  have h20N : decide (40 < n1) = false := by simp; omega
  have h100I : decide ((40 : Int) < (n2 : Int)) = false := by simp; omega
  have h100N : decide (40 < n2) = false := by simp; omega
  clear hbig
  obtain ⟨pw, hpw⟩ : ∃ pw : Nat → Bool, (fun i => decide (who / 2 ^ i % 2 = 1)) = pw := ⟨_, rfl⟩
  obtain ⟨pp, hpp⟩ : ∃ pp : Nat → Bool, (fun i => decide (prm / 2 ^ i % 2 = 1)) = pp := ⟨_, rfl⟩
  have HPW := Lib.hid hpw
  have HPP := Lib.hid hpp
  clear hpw hpp
  go_enter Try.func4, Try.ntmps4
  go_wp2_with (first
    | (go_at_call 9; refine (awake15_any _).mono ?_; rintro e w1 ⟨rfl, m1⟩; have M1 := Lib.hid m1; clear m1))
  go_loopw [19, 20, 21] (fun v x y wr => ∃ (i vt : Nat) (L : List AcE), i ≤ n ∧ y = .int .i64 (i : Int) ∧ x = .int .i64 (vt : Int) ∧ Hid (vt = cntF pw i) ∧ L.length = i ∧ Hid (L.map AcE.a = (List.range i).map (fun j => sfA b s val old (pw j))) ∧ Hid (SfR w1 wr v L)) (fun _ _ y _ => n - (intOf y).toNat)
  case atStart => exact ⟨0, 0, [], Nat.zero_le _, rfl, rfl, Lib.hid rfl, rfl, Lib.hid rfl, Lib.hid (SfR.none_ w1)⟩
  case round =>
    obtain ⟨i, vt, L, hi, rfl, rfl, HVT, hL, HLA, HR⟩ := hrel
    by_cases hin : i < n
    · have hinI : (i : Int) < (n : Int) := by omega
      have hmi : min (IntKind.u64.wrap (i : Int)).toNat 32 = i := by rw [IntKind.wrap_u64]; omega
      have hpi : pw i = decide (who / 2 ^ i % 2 = 1) := by rw [← HPW.out]
      have hbit : bits .and .u32 ((who : Int) / 2 ^ i) 1 = (((if pw i then 1 else 0) : Nat) : Int) := by
        have h1 : (who : Int) / 2 ^ i = ((who / 2 ^ i : Nat) : Int) := by rw [Int.natCast_ediv]; congr 1
        rw [h1, show (1 : Int) = ((1 : Nat) : Int) from rfl, u32_and_nat _ _ (by have := Nat.div_le_self who (2 ^ i); omega) (by omega), nat_mask1, hpi]
        rcases Nat.mod_two_eq_zero_or_one (who / 2 ^ i) with h | h <;> simp [h]
      have hvt : vt ≤ i := by rw [HVT.out]; exact cntF_le _ _
      have HL := Lib.hid hL
      clear hL hpi
      -- a new acceptor, and its first vote
      have HNEW : Hid (Calls Try.prog 29 #[] wr fun e W' => ∃ g, e = .returned (.pointer (some ⟨g, 0, none⟩)) ∧ Mods Nil wr W' ∧ AccS w1 W' (fun k => w1.heap.size ≤ k ∧ k < wr.heap.size) g {} 0) := Lib.hid ((acc_new wr).mono fun e W' ⟨g, h1, h2⟩ => ⟨g, h1, h2.m, (h2.down HR.out.m).more (Mods.refl _ _) (fun k hk => .inl (.inr hk))⟩)
      have HA1 : Hid (∀ W g, Mods Nil wr W → AccS w1 W (fun k => w1.heap.size ≤ k ∧ k < wr.heap.size) g {} 0 → Calls Try.prog 30 #[.pointer (some ⟨g, 0, none⟩), .agg #[.int .u64 (s : Int), .int .u64 (bm : Int), .slice A2 n2 c2]] W fun e W' => (∃ x, e = .returned (.int .i64 x)) ∧ AccS w1 W' (fun k => w1.heap.size ≤ k ∧ k < wr.heap.size) g (sfA b s val old false) 1 ∧ Mods Nil wr W') := Lib.hid (fun W g hW h => by
        have h2 := h.acc (by omega) (v := ⟨s, bm, old⟩) (by show s < _; omega) (by show bm < _; have := HBM.out; omega) HN2.out (by omega) (HS2.out.mods (M1.out.trans (HR.out.m.trans hW)) (fun _ _ h => h))
        rw [← HBM.out] at h2 ⊢
        rw [sf_first b s val old] at h2
        exact h2.mono fun e W' ⟨g1, g2, g3⟩ => ⟨⟨_, g1⟩, g2, hW.nil_trans g3 (fun k hk => by
          rcases Nat.lt_or_ge k wr.heap.size with h9 | h9
          · exact absurd ⟨hk.1, h9⟩ hk.2
          · exact h9)⟩)
      have HA2 : Hid (∀ W g, Mods Nil wr W → AccS w1 W (fun k => w1.heap.size ≤ k ∧ k < wr.heap.size) g (sfA b s val old false) 1 → Calls Try.prog 30 #[.pointer (some ⟨g, 0, none⟩), .agg #[.int .u64 (s : Int), .int .u64 (b : Int), .slice A1 n1 c1]] W fun e W' => e = .returned (.int .i64 0) ∧ AccS w1 W' (fun k => w1.heap.size ≤ k ∧ k < wr.heap.size) g (sfA b s val old true) 2 ∧ Mods Nil wr W') := Lib.hid (fun W g hW h => by
        have h2 := h.acc (by omega) (v := ⟨s, b, val⟩) (by show s < _; omega) (by show b < _; omega) HN1.out (by omega) (HS1.out.mods (M1.out.trans (HR.out.m.trans hW)) (fun _ _ h => h))
        rw [(sf_second hb1 val old).1, (sf_second hb1 val old).2] at h2
        exact h2.mono fun e W' ⟨g1, g2, g3⟩ => ⟨g1, g2, hW.nil_trans g3 (fun k hk => by
          rcases Nat.lt_or_ge k wr.heap.size with h9 | h9
          · exact absurd ⟨hk.1, h9⟩ hk.2
          · exact h9)⟩)
      have HE : Hid (∀ W g r, Mods Nil wr W → AccS w1 W (fun k => w1.heap.size ≤ k ∧ k < wr.heap.size) g (sfA b s val old r) 2 → AcE.ok ⟨g, sfA b s val old r, wr.heap.size, W.heap.size⟩ w1 W) := Lib.hid (fun W g r hW h => ⟨(h.mono_T (by omega)).more (Mods.refl _ _) (fun k hk => by
        rcases hk with hk | hk
        · exact .inl hk
        · have h1 := hk.1
          have h2 := hk.2
          exact absurd h2 (by show ¬ k < W.heap.size; have h3 : W.heap.size ≤ k := h1; omega)), HR.out.m.size, hW.size, Nat.le_refl _⟩)
      have HEND : Hid (∀ (W w' : World) (g gg cap : Nat), Mods Nil wr W → AccS w1 W (fun k => w1.heap.size ≤ k ∧ k < wr.heap.size) g (sfA b s val old (pw i)) 2 → w'.ownsRow w1.heap.size 68 1 (.slice (some ⟨gg, 0, none⟩) (i + 1) cap) (i + 1) (L.map ptrE ++ [.pointer (some ⟨g, 0, none⟩)]) → Mods (fun k => u19.ownBlock = some k) W w' → (u19.ownBlock = some gg ∨ W.heap.size ≤ gg) → (L ++ [(⟨g, sfA b s val old (pw i), wr.heap.size, W.heap.size⟩ : AcE)]).length = i + 1 ∧ (L ++ [(⟨g, sfA b s val old (pw i), wr.heap.size, W.heap.size⟩ : AcE)]).map AcE.a = (List.range (i + 1)).map (fun j => sfA b s val old (pw j)) ∧ SfR w1 w' (.slice (some ⟨gg, 0, none⟩) (i + 1) cap) (L ++ [⟨g, sfA b s val old (pw i), wr.heap.size, W.heap.size⟩])) := Lib.hid (fun W w' g gg cap hW h ho hm hg => by
        refine ⟨by simp [HL.out], by rw [List.map_append, HLA.out, List.range_succ, List.map_append]; rfl, ?_⟩
        have h5 := HR.out.push (e := ⟨g, sfA b s val old (pw i), wr.heap.size, W.heap.size⟩) (g := gg) (cap := cap) (w' := w') hW (HE.out W g _ hW h) (Nat.le_refl _) (by rw [HL.out]; exact ho) hm hg
        rw [HL.out] at h5
        exact h5)
      have hvw : IntKind.i64.wrap ((vt : Int) + 1) = ((vt + 1 : Nat) : Int) := by rw [IntKind.wrap_i64]; omega
      have HVS : Hid (cntF pw (i + 1) = vt + if pw i then 1 else 0) := Lib.hid (by rw [cntF, HVT.out])
      cases hp : pw i with
      | true =>
        rw [hp] at hbit HEND HVS
        have hbit1 : bits .and .u32 ((who : Int) / 2 ^ i) 1 = 1 := hbit
        clear hbit hp hvt
        go_wp2_with (first
          | (at_builtin; refine push_ptr rfl _ _ rfl (m := i) (l := L.map ptrE) (W := w6) rfl (by have := (HR.out.nil M6.out).row; rw [HL.out] at this; exact this) rfl (by omega) (Nat.le_trans HR.out.m.size M6.out.size) ?_; intro gg cap w7 ho7 m7 hg7; have E7 := Lib.hid (HEND.out w6 w7 g4 gg cap M6.out S6.out ho7 m7 hg7); clear ho7 m7 hg7)
          | (go_at_call 30; have hx := S5.out; clear hx; refine (HA2.out _ _ M5.out S5.out).mono ?_; rintro e w6 ⟨rfl, s6, m6⟩; have S6 := Lib.hid s6; have M6 := Lib.hid m6; clear s6 m6 S5)
          | (go_at_call 30; refine (HA1.out _ _ M4.out S4.out).mono ?_; rintro e w5 ⟨⟨x5, rfl⟩, s5, m5⟩; have S5 := Lib.hid s5; have M5 := Lib.hid m5; clear s5 m5 S4)
          | (go_at_call 29; refine (HNEW.out).mono ?_; rintro e w4 ⟨g4, rfl, m4, s4⟩; have S4 := Lib.hid s4; have M4 := Lib.hid m4; clear s4 m4))
        exact ⟨⟨i + 1, vt + 1, _, by omega, by go_num, by go_num, Lib.hid (by rw [HVS.out]; rfl), E7.out.1, Lib.hid E7.out.2.1, Lib.hid E7.out.2.2⟩, by simp [intOf]; omega⟩
      | false =>
        rw [hp] at hbit HEND HVS
        have hbit1 : bits .and .u32 ((who : Int) / 2 ^ i) 1 = 0 := hbit
        clear hbit hp hvt
        go_wp2_with (first
          | (at_builtin; refine push_ptr rfl _ _ rfl (m := i) (l := L.map ptrE) (W := w5) rfl (by have := (HR.out.nil M5.out).row; rw [HL.out] at this; exact this) rfl (by omega) (Nat.le_trans HR.out.m.size M5.out.size) ?_; intro gg cap w7 ho7 m7 hg7; have E7 := Lib.hid (HEND.out w5 w7 g4 gg cap M5.out (S5.out.mono_T (by omega)) ho7 m7 hg7); clear ho7 m7 hg7)
          | (go_at_call 30; refine (HA1.out _ _ M4.out S4.out).mono ?_; rintro e w5 ⟨⟨x5, rfl⟩, s5, m5⟩; have S5 := Lib.hid s5; have M5 := Lib.hid m5; clear s5 m5 S4)
          | (go_at_call 29; refine (HNEW.out).mono ?_; rintro e w4 ⟨g4, rfl, m4, s4⟩; have S4 := Lib.hid s4; have M4 := Lib.hid m4; clear s4 m4))
        exact ⟨⟨i + 1, vt, _, by omega, by go_num, rfl, Lib.hid (by rw [HVS.out]; rfl), E7.out.1, Lib.hid E7.out.2.1, Lib.hid E7.out.2.2⟩, by simp [intOf]; omega⟩
    · obtain rfl : n = i := by omega
      have HB1 : Hid (∀ (V W : World) g, LdS V W (fun _ => False) g { many := n } 0 → Calls Try.prog 12 #[.pointer (some ⟨g, 0, none⟩), .int .u64 (bp : Int), .int .u64 0] W fun e W' => e = .returned (.int .i64 0) ∧ LdS V W' (fun _ => False) g (sfL n b s val old pw []) 0) := Lib.hid (fun V W g h => (h.begin' (x := bp) (f := 0) (by omega) (by omega) (l' := sfL n b s val old pw []) (E := 0) (by rw [← HBP.out]; rfl) (by rw [← HBP.out]; rfl)).mono fun e W' ⟨h1, h2, _⟩ => ⟨h1, h2⟩)
      obtain ⟨gr, capr, curr, hu, -⟩ := own_place HR.out.row (by omega)
      rw [hL] at hu
      subst hu
      have HL := Lib.hid hL
      obtain ⟨vx, hvx⟩ : ∃ x, wr.heap.size = x := ⟨_, rfl⟩
      have HVX := Lib.hid hvx
      clear hvx
      go_wp2_with (first
        | (go_at_call 12; refine (HB1.out _ _ _ S2.out).mono ?_; rintro e w3 ⟨rfl, s3⟩; have S3 := Lib.hid s3; clear s3 S2)
        | (go_at_call 10; refine (ldr_new _ (many := (n : Int)) (by omega) (by omega)).mono ?_; rintro e w2 ⟨g, rfl, s2⟩; have S2 := Lib.hid s2; clear s2))
      have H3 : Hid (SfX w1 w3 (.slice (some ⟨gr, 0, none⟩) n capr) L vx n g (sfL n b s val old pw []) 0 0) := Lib.hid (by
        have hm := S3.out.m
        refine ⟨own_mods (own_rebase HR.out.row (Nat.le_refl _)) hm (fun _ _ h => h), fun k hk => ⟨(HR.out.row.lt k hk).1, by rw [← HVX.out]; exact (HR.out.row.lt k hk).2, HR.out.off k hk⟩, by rw [List.drop_zero]; exact HR.out.al.nil hm, fun e he => by rw [← HVX.out]; exact (HR.out.al.each e he).hi, _, (S3.out.down HR.out.m), fun k h1 h2 => .inr ⟨h1, by rw [HVX.out]; exact h2⟩⟩)
      clear HR S3
      go_loopw [25] (fun x wr => ∃ i : Nat, i ≤ n ∧ x = .int .i64 (i : Int) ∧ Hid ((lstF pp i).length ≤ n / 2) ∧ Hid (SfX w1 wr (.slice (some ⟨gr, 0, none⟩) n capr) L vx n g (sfL n b s val old pw (lstF pp i)) (5000 * i) i)) (fun x _ => n - (intOf x).toNat)
      case atStart => exact ⟨0, Nat.zero_le _, rfl, Lib.hid (Nat.zero_le _), H3⟩
      case round =>
        obtain ⟨i, hi, rfl, HP, HX⟩ := hrel
        clear H3
        by_cases hin : i < n
        · have hinI : (i : Int) < (n : Int) := by omega
          have hmi : min (IntKind.u64.wrap (i : Int)).toNat 32 = i := by rw [IntKind.wrap_u64]; omega
          have hpi : pp i = decide (prm / 2 ^ i % 2 = 1) := by rw [← HPP.out]
          have hbit : bits .and .u32 ((prm : Int) / 2 ^ i) 1 = (((if pp i then 1 else 0) : Nat) : Int) := by
            have h1 : (prm : Int) / 2 ^ i = ((prm / 2 ^ i : Nat) : Int) := by rw [Int.natCast_ediv]; congr 1
            rw [h1, show (1 : Int) = ((1 : Nat) : Int) from rfl, u32_and_nat _ _ (by have := Nat.div_le_self prm (2 ^ i); omega) (by omega), nat_mask1, hpi]
            rcases Nat.mod_two_eq_zero_or_one (prm / 2 ^ i) with h | h <;> simp [h]
          have HLS := Lib.hid (lstF_succ pp i)
          clear hpi
          cases hp : pp i with
          | false =>
            rw [hp] at hbit HLS
            have HLS2 : Hid (lstF pp (i + 1) = lstF pp i) := Lib.hid (by rw [HLS.out]; rfl)
            have hbit1 : bits .and .u32 ((prm : Int) / 2 ^ i) 1 = 0 := hbit
            clear hbit hp
            go_wp2_with fail
            exact ⟨⟨i + 1, by omega, by go_num, Lib.hid (by rw [HLS2.out]; exact HP.out), Lib.hid (by rw [HLS2.out]; exact HX.out.next (by omega))⟩, by simp [intOf]; omega⟩
          | true =>
            rw [hp] at hbit HLS
            have HLS2 : Hid (lstF pp (i + 1) = lstF pp i ++ [i]) := Lib.hid (by rw [HLS.out]; rfl)
            have hbit1 : bits .and .u32 ((prm : Int) / 2 ^ i) 1 = 1 := hbit
            have hiL : i < L.length := by rw [HL.out]; exact hin
            obtain ⟨e, he⟩ : ∃ e, L[i]? = some e := ⟨_, List.getElem?_eq_getElem hiL⟩
            have hea : e.a = sfA b s val old (pw i) := by
              have h1 : (L.map AcE.a)[i]? = some e.a := by rw [List.getElem?_map, he]; rfl
              rw [HLA.out, List.getElem?_map, List.getElem?_range hin, Option.map_some] at h1
              injection h1 with h1
              exact h1.symm
            have ec := HX.out.row.cells (g := gr) rfl i (ptrE e) (by rw [List.getElem?_map, he]; rfl)
            rw [Addr.add_lit, Nat.zero_add] at ec
            have HPREP := Lib.hid (HX.out.prep he hea HBP.out hb300)
            have hni : i ∉ lstF pp i := fun h => by have := (lstF_mem.1 h).1; omega
            have HVL : Hid (∀ q : VtP, q.plain = sfV b s val old (pw i) → q.val.length ≤ 100000) := Lib.hid (fun q hq => by
              have h1 := congrArg PVt.val hq
              have h2 : q.val = (sfV b s val old (pw i)).val := h1
              rw [h2]
              unfold sfV
              have := HN1.out
              have := HN2.out
              cases pw i
              · show old.length ≤ _; omega
              · show val.length ≤ _; omega)
            obtain ⟨eb, heb⟩ : ∃ eb, e.b = eb := ⟨_, rfl⟩
            have hpe : ptrE e = .pointer (some ⟨eb, 0, none⟩) := by unfold ptrE; rw [heb]
            rw [hpe] at ec HPREP
            clear hbit hp hiL he hea heb hpe
            by_cases hfew : (lstF pp i).length + 1 ≤ n / 2
            · have HPR : Hid (∀ W5 A c q, SfX w1 W5 (.slice (some ⟨gr, 0, none⟩) n capr) L vx n g (sfL n b s val old pw (lstF pp i)) (5000 * i) (i + 1) → PVs W5 (NEW wr W5) A c 1 [q] → q.plain = sfV b s val old (pw i) → Calls Try.prog 14 #[.pointer (some ⟨g, 0, none⟩), .int .i64 (i : Int), .int .u64 (bp : Int), .int .u64 0, .slice A 1 c] W5 fun e' W' => ∃ A' n' c', e' = .returned (.tuple #[.slice A' n' c', .bool false]) ∧ SfX w1 W' (.slice (some ⟨gr, 0, none⟩) n capr) L vx n g (sfL n b s val old pw (lstF pp (i + 1))) (5000 * (i + 1)) (i + 1)) := Lib.hid (fun W5 A c q h hv hq => by
                obtain ⟨g1, g2⟩ := sf_few (n := n) (s := s) hb1 (val := val) (old := old) (p := pw) hin hni hfew
                rw [← hq, HBP.out] at g1 g2
                rw [HLS2.out, Nat.mul_succ]
                exact (h.prom (by omega) (by omega) (by omega) hv (HVL.out q hq) g1 rfl g2).mono fun e' W' ⟨A', n', c', L', h1, _, _, h4⟩ => ⟨A', n', c', h1, h4⟩)
              have HF : Hid ((lstF pp (i + 1)).length ≤ n / 2) := Lib.hid (by rw [HLS2.out]; simpa using hfew)
              clear hfew hni
              go_wp2_with (first
                | (go_at_call 14; refine (HPR.out _ _ _ _ X5.out P5.out HQ5.out).mono ?_; rintro e' w6 ⟨A6, n6, c6, rfl, x6⟩; have X6 := Lib.hid x6; clear x6 X5 P5)
                | (go_at_call 31; refine (HPREP.out).mono ?_; rintro e' w5 ⟨A5, c5, q5, rfl, hq5, p5, x5⟩; have HQ5 := Lib.hid hq5; have P5 := Lib.hid p5; have X5 := Lib.hid x5; clear hq5 p5 x5))
              exact ⟨⟨i + 1, by omega, by go_num, HF, X6⟩, by simp [intOf]; omega⟩
            · obtain ⟨g1, Q, g2, hQ2, hQ3⟩ := sf_lead (n := n) (s := s) hb1 hs15 (val := val) (old := old) (p := pw) hin hni (by omega)
              rw [← HLS2.out] at hQ3
              have HPR : Hid (∀ W5 A c q, SfX w1 W5 (.slice (some ⟨gr, 0, none⟩) n capr) L vx n g (sfL n b s val old pw (lstF pp i)) (5000 * i) (i + 1) → PVs W5 (NEW wr W5) A c 1 [q] → q.plain = sfV b s val old (pw i) → Calls Try.prog 14 #[.pointer (some ⟨g, 0, none⟩), .int .i64 (i : Int), .int .u64 (bp : Int), .int .u64 0, .slice A 1 c] W5 fun e' W' => ∃ bb oo n' c' B cb vv, e' = .returned (.tuple #[.slice (some ⟨bb, oo, none⟩) n' c', .bool true]) ∧ n' = s + 1 ∧ vv = (sfV b s val old ((lstF pp (i + 1)).any pw)).val ∧ W'.cell? ⟨bb, oo + s * 3, none⟩ = some (.int .u64 (s : Int)) ∧ W'.cell? ⟨bb, oo + s * 3 + 1, none⟩ = some (.int .u64 (bp : Int)) ∧ W'.cell? ⟨bb, oo + s * 3 + 2, none⟩ = some (.slice B vv.length cb) ∧ Sl W' B cb (bts vv) ∧ Mods Nil w1 W') := Lib.hid (fun W5 A c q h hv hq => by
                rw [← hq, HBP.out] at g1 g2
                refine (h.prom (by omega) (by omega) (by omega) hv (HVL.out q hq) rfl g2 g1).mono ?_
                rintro e' W' ⟨A', n', c', L', h1, h2, h3, h4⟩
                have hln : n' = s + 1 := by rw [← h3.len, ← hQ2, ← h2, List.length_map]
                obtain ⟨y, hy⟩ : ∃ y, L'[s]? = some y := ⟨_, List.getElem?_eq_getElem (by rw [h3.len]; omega)⟩
                have hyp : some y.plain = some ⟨s, b + 1, (sfV b s val old ((lstF pp (i + 1)).any pw)).val⟩ := by
                  rw [← hQ3, ← h2, List.getElem?_map, hy]
                  rfl
                injection hyp with hyp
                obtain ⟨bb, oo, rfl, _, z0, z1, z2⟩ := h3.cells hy
                have hby := (h3.bys y (List.mem_of_getElem? hy)).1
                have e1 : y.slot = s := congrArg PVt.slot hyp
                have e2 : y.bal = b + 1 := congrArg PVt.bal hyp
                have e3 : y.val = (sfV b s val old ((lstF pp (i + 1)).any pw)).val := congrArg PVt.val hyp
                rw [e1] at z0
                rw [e2, HBP.out] at z1
                exact ⟨bb, oo, n', c', y.A, y.c, y.val, h1, hln, e3, z0, z1, z2, hby, h4.m⟩)
              have HMT : Hid (n / 2 < vt → (sfV b s val old ((lstF pp (i + 1)).any pw)).val = val) := Lib.hid (fun hv => by
                rw [sf_meet hin (by rw [HLS2.out]; simp; omega) (by rw [← HVT.out]; exact hv)]
                rfl)
              obtain ⟨h2n, hh2⟩ : ∃ h2n, n / 2 = h2n := ⟨_, rfl⟩
              have hnq : (n : Int) / 2 = (h2n : Int) := by omega
              have hnq2 : (n : Int).tdiv 2 = (h2n : Int) := by rw [Int.tdiv_eq_ediv_of_nonneg (by omega)]; exact hnq
              rw [hh2] at HMT
              have hsI : (s : Int) < (s : Int) + 1 := by omega
              have hvtn : vt ≤ 7 := by rw [HVT.out]; exact Nat.le_trans (cntF_le _ _) hn7
              clear g1 g2 hQ2 hQ3 hni hfew hh2
              by_cases hmaj : vt ≤ h2n
              · have hmajI : decide ((vt : Int) ≤ (h2n : Int)) = true := by simp; omega
                have hmajN : decide (vt ≤ h2n) = true := by simp; omega
                clear hmaj
                go_wp2_with (first
                  | (go_at_call 14; refine (HPR.out _ _ _ _ X5.out P5.out HQ5.out).mono ?_; rintro e' w6 ⟨bb, oo, n6, c6, B, cb, vv, rfl, rfl, hvv, z0, z1, z2, hby, m6⟩; have M6 := Lib.hid m6; have HVV := Lib.hid hvv; have HBY := Lib.hid hby; obtain ⟨lv, hlv⟩ : ∃ lv, vv.length = lv := ⟨_, rfl⟩; rw [hlv] at z2; have HLV := Lib.hid hlv; clear m6 X5 P5 hvv hby hlv)
                  | (go_at_call 31; refine (HPREP.out).mono ?_; rintro e' w5 ⟨A5, c5, q5, rfl, hq5, p5, x5⟩; have HQ5 := Lib.hid hq5; have P5 := Lib.hid p5; have X5 := Lib.hid x5; clear hq5 p5 x5))
                go_quiet (fail)
                go_wp2_with fail
                go_ret
                exact ⟨rfl, M1.out.trans (M6.out.trans ((Mods.refl Nil w6).drewN _))⟩
              · have hmajI : decide ((vt : Int) ≤ (h2n : Int)) = false := by simp; omega
                have hmajN : decide (vt ≤ h2n) = false := by simp; omega
                have hvv2 := HMT.out (by omega)
                have HVV2 := Lib.hid hvv2
                clear hmaj hvv2
                go_wp2_with (first
                  | (go_at_call 14; refine (HPR.out _ _ _ _ X5.out P5.out HQ5.out).mono ?_; rintro e' w6 ⟨bb, oo, n6, c6, B, cb, vv, rfl, rfl, hvv, z0, z1, z2, hby, m6⟩; have M6 := Lib.hid m6; have HVV := Lib.hid hvv; have HBY := Lib.hid hby; obtain ⟨lv, hlv⟩ : ∃ lv, vv.length = lv := ⟨_, rfl⟩; rw [hlv] at z2; have HLV := Lib.hid hlv; clear m6 X5 P5 hvv hby hlv)
                  | (go_at_call 31; refine (HPREP.out).mono ?_; rintro e' w5 ⟨A5, c5, q5, rfl, hq5, p5, x5⟩; have HQ5 := Lib.hid hq5; have P5 := Lib.hid p5; have X5 := Lib.hid x5; clear hq5 p5 x5))
                have e9 : vv = val := HVV.out.trans HVV2.out
                subst e9
                have hcvA : ∀ j', (convert 34 9 (.slice B lv cb)).run Try.prog (w6.drewN j') = .ok (.string (strOf vv)) (w6.drewN j') := fun j' => conv15 HLV.out (HBY.out.drewN j')
                have hcvB : ∀ j', (convert 34 9 (.slice A1 n1 c1)).run Try.prog (w6.drewN j') = .ok (.string (strOf vv)) (w6.drewN j') := fun j' => conv15 HN1.out ((HS1.out.mods (M1.out.trans M6.out) (fun _ _ h => h)).drewN j')
                go_quiet (fail)
                go_wp2_with fail
                go_ret
                exact ⟨rfl, M1.out.trans (M6.out.trans ((Mods.refl Nil w6).drewN _))⟩
        · obtain rfl : n = i := by omega
          obtain ⟨Xx, hl, hx⟩ := HX.out.ld
          have HLD := Lib.hid hl
          clear hl hx
          go_wp2_with (go_at_call 25; refine (HLD.out.leads).mono ?_; rintro e w8 ⟨he, m8⟩; replace he : e = .returned (.bool false) := he; subst he; have M8 := Lib.hid m8; clear m8)
          go_ret
          exact ⟨rfl, M1.out.trans (HLD.out.m.trans M8.out)⟩
end Go.Proofs.Ytfnecjogiafekaa
