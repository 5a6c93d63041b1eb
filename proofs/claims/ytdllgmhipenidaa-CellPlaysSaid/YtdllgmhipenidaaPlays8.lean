/- What CellPlays' walk asks: the package's disk and cell, and the reference's, beside one another. -/
import Derived.Test.YtdllgmhipenidaaAlike8
import Derived.Test.YtdllgmhipenidaaRef08f
import Derived.Test.YtdllgmhipenidaaStr8
import Derived.Test.YtdllgmhipenidaaActs
import Derived.Test.YtdllgmhipenidaaWriteF
import Derived.Test.YtdllgmhipenidaaOpen
namespace Go.Proofs.Ytdllgmhipenidaa
set_option maxRecDepth 100000
open Go.RowKit
set_option linter.unusedVariables false

theorem and_low8 (n : Int) (k : Nat) (m : Int) (hm : (BitVec.ofInt 64 m).toNat = 2 ^ k - 1) (hk : k ≤ 8) : bits .and .i64 n m = n % ((2 ^ k : Nat) : Int) := by
  have key : (BitVec.ofInt 64 n &&& BitVec.ofInt 64 m).toNat = (n % ((2 ^ 64 : Nat) : Int)).toNat % 2 ^ k := by
    rw [BitVec.toNat_and, BitVec.toNat_ofInt, hm, Nat.and_two_pow_sub_one_eq_mod]
  show IntKind.i64.wrap ((BitVec.ofInt 64 n &&& BitVec.ofInt 64 m).toNat : Nat) = n % ((2 ^ k : Nat) : Int)
  rw [key, IntKind.wrap_i64]
  have : k = 0 ∨ k = 1 ∨ k = 2 ∨ k = 3 ∨ k = 4 ∨ k = 5 ∨ k = 6 ∨ k = 7 ∨ k = 8 := by omega
  rcases this with rfl | rfl | rfl | rfl | rfl | rfl | rfl | rfl | rfl <;> omega
theorem i64_and7c (n : Int) : bits .and .i64 n 7 = n % 8 := and_low8 n 3 7 (by decide) (by omega)
theorem i64_and3c (n : Int) : bits .and .i64 n 3 = n % 4 := and_low8 n 2 3 (by decide) (by omega)
theorem i64_and1d (n : Int) : bits .and .i64 n 1 = n % 2 := and_low8 n 1 1 (by decide) (by omega)
/-- []byte(s): a new block. -/
theorem conv_bytes8 (w : World) (base : Nat) {zs : List UInt8} {q : Nat} (hq : zs.length = q) (hle : q ≤ 1000) :
    ∃ c W', (convert 9 42 (.string (strOf zs))).run Try.prog w = .ok (.slice (some ⟨w.heap.size, 0, none⟩) q c) W' ∧ (∀ V X, Mods Nil W' V → DM base V X → Sl X (some ⟨w.heap.size, 0, none⟩) c (bts zs)) ∧ Mods Nil w W' := by
  have hsz : (strOf zs).size = q := by simp [hq]
  have h := run_bytes_of_string (P := Try.prog) w 9 42 5 (strOf zs) Try.underlying9 Try.underlying42 Try.underlying5
  rw [hsz] at h
  obtain ⟨cap, hcap⟩ : ∃ cap, grownCap w q 0 5 = cap := ⟨_, rfl⟩
  have h1 := grownCap_ge w q 0 5
  have h2 := grownCap_le_maxLen w q 0 5 (by unfold maxLen; omega)
  rw [hcap] at h h1 h2
  have hbs : (bytesRow (strOf zs) cap).size = cap := by
    unfold bytesRow
    rw [hsz]
    simp [strOf, hq]
    omega
  have hS : Sl (w.drew.alloc (.cells (bytesRow (strOf zs) cap) 5 ((bytesRow (strOf zs) cap).size, (bytesRow (strOf zs) cap).size + 1))) (some ⟨w.heap.size, 0, none⟩) cap (bts zs) := by
    have hb := build_sl w.drew (bytesRow (strOf zs) cap) 5 ((bytesRow (strOf zs) cap).size, (bytesRow (strOf zs) cap).size + 1) (by rw [hbs]; exact h2)
    have ht := hb.take q
    rw [hbs] at ht
    have he : (bytesRow (strOf zs) cap).toList.take q = bts zs := by
      unfold bytesRow bts
      simp [strOf]
      rw [List.take_append_of_le_length (by simp [hq]), List.take_of_length_le (by simp [hq])]
    rw [he] at ht
    rw [hbs]
    exact ht
  refine ⟨_, _, h, fun V X hV hX => ?_, (Mods.refl _ _).drew.alloc _⟩
  have hcell : V.heap[w.heap.size]? = some (.cells (bytesRow (strOf zs) cap) 5 ((bytesRow (strOf zs) cap).size, (bytesRow (strOf zs) cap).size + 1)) := by
    have e : (w.drew.alloc (.cells (bytesRow (strOf zs) cap) 5 ((bytesRow (strOf zs) cap).size, (bytesRow (strOf zs) cap).size + 1))).heap[w.heap.size]? = some (.cells (bytesRow (strOf zs) cap) 5 ((bytesRow (strOf zs) cap).size, (bytesRow (strOf zs) cap).size + 1)) := heap_alloc_new w.drew _
    rw [hV.block w.heap.size (by simp) (fun h => h)]
    exact e
  refine (hS.mods hV (fun _ _ h => h)).mods hX (fun a ha hs => ?_)
  injection ha with ha
  subst ha
  obtain ⟨_, t2, cs2, h3, h4⟩ := hs
  have e2 := Eq.trans (Eq.symm hcell) h3
  injection e2 with e2
  injection e2 with e3 e4 e5
  obtain rfl := e4
  rcases h4 with h4 | h4 | h4 <;> exact absurd h4 (by decide)
/-- One action handed in. -/
theorem Acts.act_at8 {W : World} {A : Option Addr} {n c : Nat} {l : List (List Fv)} (h : Acts W A n c [.int .i64, .int .i64, .bytes, .int .u64] l) {j : Nat} (hj : j < n) :
    ∃ b off kd z A2 c2 xs q, ∃ t : Nat, A = some ⟨b, off, none⟩ ∧ W.cell? ⟨b, off + j * 4, none⟩ = some (.int .i64 kd) ∧ W.cell? ⟨b, off + j * 4 + 1, none⟩ = some (.int .i64 z) ∧ W.cell? ⟨b, off + j * 4 + 2, none⟩ = some (.slice A2 q c2) ∧ W.cell? ⟨b, off + j * 4 + 3, none⟩ = some (.int .u64 (t : Int)) ∧ xs.length = q ∧ Sl W A2 c2 (bts xs) ∧ t < 18446744073709551616 := by
  obtain ⟨b, off, hA, _, hc⟩ := h.cells (by omega)
  have hjl : j < l.length := by rw [h.size]; exact hj
  have hx := List.getElem?_eq_getElem hjl
  obtain ⟨hk, hg⟩ := h.good _ (List.getElem_mem hjl)
  generalize l[j] = x at hx hk hg
  match x, hk, hg, hx with
  | [.int k1 kd, .int k2 z, .bytes A2 c2 xs, .int k3 t], hk, hg, hx =>
    simp [Fv.kind] at hk
    obtain ⟨rfl, rfl, rfl⟩ := hk
    have g3 := hg (.bytes A2 c2 xs) (by simp)
    have g4 := hg (.int .u64 t) (by simp)
    have c0 := hc j _ hx 0 (.int .i64 kd) rfl
    have c1 := hc j _ hx 1 (.int .i64 z) rfl
    have c2' := hc j _ hx 2 (.bytes A2 c2 xs) rfl
    have c3 := hc j _ hx 3 (.int .u64 t) rfl
    have ht : 0 ≤ t ∧ t < 18446744073709551616 := u64_of_wf g4
    obtain ⟨u, rfl⟩ : ∃ u : Nat, t = (u : Int) := ⟨t.toNat, by omega⟩
    exact ⟨b, off, kd, z, A2, c2, xs, _, u, hA, c0, c1, c2', c3, rfl, g3, by omega⟩
theorem Ty6.offC {w : World} {A : Option Addr} {t : TypeId} {base : Nat} (h : Ty6 w A t) (h1 : t ≠ 109 ∧ t ≠ 133 ∧ t ≠ 135 ∧ t ≠ 146) : ∀ a, A = some a → ¬ CS base w a.block := fun a ha hs => by
  obtain ⟨cs, hb⟩ := h a ha
  obtain ⟨_, t2, cs2, h2, h3⟩ := hs
  obtain rfl := cblk_typ hb h2
  rcases h3 with h3 | h3 | h3 | h3
  · exact h1.1 h3
  · exact h1.2.1 h3
  · exact h1.2.2.1 h3
  · exact h1.2.2.2 h3
theorem RdAt.cm {w w' : World} {A B : Option Addr} {c k base : Nat} {d : PD} (h : RdAt w A c B k d) (hm : CM base w w') : RdAt w' A c B k d :=
  ⟨h.sure.mods hm (h.tyA.offC (by decide)), h.waits.off hm (h.tyB.offC (by decide)), h.tyA.mods hm (h.tyA.offC (by decide)), h.tyB.mods hm (h.tyB.offC (by decide))⟩
theorem CellAt.box8 {w w' : World} {base cb db g : Nat} {d : PD} {p : PCell} {t : TypeId} {cs : Array Value} (h : CellAt w base cb db d p) (hb : Blk w g t cs) (h1 : t ≠ 109 ∧ t ≠ 133 ∧ t ≠ 135 ∧ t ≠ 146) (hm : Mods (fun i => i = g) w w') : CellAt w' base cb db d p := by
  refine ⟨h.1.offC hm (fun k hk hs => ?_), h.2.off hm (fun hk => ?_)⟩
  · subst hk
    obtain ⟨_, t2, cs2, h2, h3⟩ := hs
    obtain rfl := cblk_typ hb h2
    rcases h3 with h3 | h3 | h3
    · exact h1.1 h3
    · exact h1.2.1 h3
    · exact h1.2.2.1 h3
  · subst hk
    exact h1.2.2.2 (cblk_typ hb h.2.blk)
theorem DiskAt.lo8 {w : World} {base db : Nat} {d : PD} (h : DiskAt w base db d) : -1 ≤ d.left ∧ d.left ≤ 9223372036854775807 := by
  obtain ⟨_, _, z, h⟩ := h
  obtain ⟨h1, h2 | h2⟩ := h.left <;> omega
theorem DiskAt.ok8 {w : World} {base db : Nat} {d : PD} (h : DiskAt w base db d) : d.Ok := by
  obtain ⟨_, _, z, h⟩ := h
  exact h.ok
/-- Both sides: the package's disk and cell, the reference's in the boxes g and h. -/
structure Q8 (w W : World) (db cb g h n : Nat) (A : Option Addr) (c : Nat) (B : Option Addr) (k : Nat) (d : PD) (p : PCell) (e : PD) (r : PCell) : Prop where
  all : CellAt W w.heap.size cb db d p
  box : Blk W g 31 #[.slice A n c, .slice B e.W.length k, .int .i64 e.left, .bool e.down]
  cbox : Blk W h 71 (rcC r)
  old : w.heap.size ≤ g ∧ w.heap.size ≤ h ∧ g ≠ h
  ref : RdAt W A c B k e
  len : e.L.length = n
  mods : Mods Nil w W
section
variable {w W W' : World} {db cb g h n c k : Nat} {A B : Option Addr} {d e : PD} {p r : PCell}
theorem Q8.nil (H : Q8 w W db cb g h n A c B k d p e r) (hm : Mods Nil W W') : Q8 w W' db cb g h n A c B k d p e r :=
  ⟨H.all.nil hm, H.box.mods hm (fun h => h), H.cbox.mods hm (fun h => h), H.old, H.ref.mods hm, H.len, H.mods.trans hm⟩
theorem Q8.cm (H : Q8 w W db cb g h n A c B k d p e r) (hm : CM w.heap.size W W') {d' : PD} {p' : PCell} {cb' : Nat} (ha : CellAt W' w.heap.size cb' db d' p') : Q8 w W' db cb' g h n A c B k d' p' e r :=
  ⟨ha, H.box.cm hm (by decide), H.cbox.cm hm (by decide), H.old, H.ref.cm hm, H.len, CM.nilTrans H.mods (Nat.le_refl _) hm⟩
theorem Q8.dm (H : Q8 w W db cb g h n A c B k d p e r) (hm : DM w.heap.size W W') {d' : PD} (hd : DiskAt W' w.heap.size db d') : Q8 w W' db cb g h n A c B k d' p e r :=
  H.cm (CM.dm hm) (H.all.dm hm hd)
theorem Q8.setD (H : Q8 w W db cb g h n A c B k d p e r) {A' B' : Option Addr} {c' k' : Nat} {e' : PD} (hr : RdAt W A' c' B' k' e') (hl : e'.L.length = n)
    (hb : Blk W' g 31 #[.slice A' n c', .slice B' e'.W.length k', .int .i64 e'.left, .bool e'.down]) (hm : Mods (fun i => i = g) W W') : Q8 w W' db cb g h n A' c' B' k' d p e' r :=
  ⟨H.all.box8 H.box (by decide) hm, hb, H.cbox.mods hm (fun e => H.old.2.2 e.symm), H.old, hr.box H.box (by decide) (by decide) hm, hl, H.mods.nil_trans hm (fun i hi => by rw [hi]; exact H.old.1)⟩
theorem Q8.setC (H : Q8 w W db cb g h n A c B k d p e r) {r' : PCell} (hb : Blk W' h 71 (rcC r')) (hm : Mods (fun i => i = h) W W') : Q8 w W' db cb g h n A c B k d p e r' :=
  ⟨H.all.box8 H.cbox (by decide) hm, H.box.mods hm (fun e => H.old.2.2 e), hb, H.old, H.ref.box H.cbox (by decide) (by decide) hm, H.len, H.mods.nil_trans hm (fun i hi => by rw [hi]; exact H.old.2.1)⟩
def RTo8 (w : World) (n : Nat) (d : PD) (err : Int) (e : Ending) (w' : World) : Prop :=
  ∃ A c B k, e = .returned (.tuple #[.agg #[.slice A n c, .slice B d.W.length k, .int .i64 d.left, .bool d.down], .int .i64 err]) ∧ RdAt w' A c B k d ∧ Mods Nil w w'
def RTo81 (w : World) (n : Nat) (d : PD) (e : Ending) (w' : World) : Prop :=
  ∃ A c B k, e = .returned (.agg #[.slice A n c, .slice B d.W.length k, .int .i64 d.left, .bool d.down]) ∧ RdAt w' A c B k d ∧ Mods Nil w w'
def RTo8c (w : World) (n : Nat) (d : PD) (r : PCell) (err : Int) (e : Ending) (w' : World) : Prop :=
  ∃ A c B k, e = .returned (.tuple #[.agg #[.slice A n c, .slice B d.W.length k, .int .i64 d.left, .bool d.down], .agg #[.int .i64 (r.at_ : Int), .int .i64 (nowC r), .int .u64 (r.turn : Int), .int .u64 (r.great : Int), .string (strOf r.data), .int .i64 r.err], .int .i64 err]) ∧ RdAt w' A c B k d ∧ Mods Nil w w'
theorem Q8.set (H : Q8 w W db cb g h n A c B k d p e r) (hW : d.W.length ≤ 900) {A1 : Option Addr} {c1 q : Nat} {s : List UInt8} (hs : Sl W A1 c1 (bts s)) (hq : s.length = q) :
    Calls Try.prog 36 #[.pointer (some ⟨cb, 0, none⟩), .slice A1 q c1] W fun z w' => z = .returned (.int .i64 (p.set d s).2.2) ∧ Q8 w w' db cb g h n A c B k (p.set d s).1 (p.set d s).2.1 e r ∧ CM w.heap.size W w' :=
  (cset_any H.all hW hs hq).mono fun z w' h => ⟨h.1, H.cm h.2.2 h.2.1, h.2.2⟩
theorem Q8.rset (hok : d.Ok) (hl : -1 ≤ d.left ∧ d.left ≤ 9223372036854775807) (hW : d.W.length ≤ 900) (hlen : d.L.length = n) (hn : n ≤ 900) (hp : p.Ok) (hz : p.turn = 0 → p.spare = 0) {q : Nat} {s : List UInt8} (hq : s.length = q) (W : World) (hr : RdAt W A c B k d) :
    Calls Try.prog 37 #[.agg #[.slice A n c, .slice B d.W.length k, .int .i64 d.left, .bool d.down], .agg #[.int .i64 (p.at_ : Int), .int .i64 (nowC p), .int .u64 (p.turn : Int), .int .u64 (p.great : Int), .string (strOf p.data), .int .i64 p.err], .string (strOf s)] W (RTo8c W n (p.set d s).1 (p.set d s).2.1 (p.set d s).2.2) := by
  have := r8set_any W hr hok hW (by omega) hl.1 hl.2 hp hz hq
  unfold RTold8 rdW rcC at this
  rw [set_len.1, hlen] at this
  exact this
theorem Q8.write (H : Q8 w W db cb g h n A c B k d p e r) (hW : d.W.length ≤ 1000) (i : Int) {A1 : Option Addr} {c1 q : Nat} {F : List UInt8} (hs : ∀ V, DM w.heap.size W V → Sl V A1 c1 (bts F)) (hq : F.length = q) :
    Calls Try.prog 27 #[.pointer (some ⟨db, 0, none⟩), .int .i64 i, .slice A1 q c1] W fun z w' => z = .returned (.int .i64 (d.write i F).2) ∧ Q8 w w' db cb g h n A c B k (d.write i F).1 p e r ∧ DM w.heap.size W w' :=
  (dwrite_anyF H.all.1 hW i hs hq).mono fun z w' h => ⟨h.1, H.dm h.2.2 h.2.1, h.2.2⟩
theorem Q8.stop (H : Q8 w W db cb g h n A c B k d p e r) {a : Int} (ha : a ≤ 9223372036854775807) :
    Calls Try.prog 24 #[.pointer (some ⟨db, 0, none⟩), .int .i64 a] W fun z w' => z = .returned (.tuple #[]) ∧ Q8 w w' db cb g h n A c B k (d.stop a) p e r ∧ DM w.heap.size W w' :=
  (dstop_any H.all.1 ha).mono fun z w' h => ⟨h.1, H.dm h.2.2 h.2.1, h.2.2⟩
theorem Q8.crash (H : Q8 w W db cb g h n A c B k d p e r) {A1 : Option Addr} {c1 q : Nat} {F : List UInt8} (hs : Bs w.heap.size W A1 c1 F) (hq : F.length = q) :
    Calls Try.prog 29 #[.pointer (some ⟨db, 0, none⟩), .slice A1 q c1] W fun z w' => z = .returned (.tuple #[]) ∧ Q8 w w' db cb g h n A c B k (d.crash F) p e r ∧ DM w.heap.size W w' :=
  (dcrash_any H.all.1 hs hq).mono fun z w' h => ⟨h.1, H.dm h.2.2 h.2.1, h.2.2⟩
theorem Q8.open_ (H : Q8 w W db cb g h n A c B k d p e r) (hl : d.L.length ≤ 65536) {at_ : Nat} (h0 : d.at_ (at_ : Int) = 0) (h1 : d.at_ ((at_ : Int) + 1) = 0) :
    Calls Try.prog 34 #[.pointer (some ⟨db, 0, none⟩), .int .i64 (at_ : Int)] W fun z w' => ∃ cb', z = .returned (.tuple #[.pointer (some ⟨cb', 0, none⟩), .int .i64 0]) ∧ Q8 w w' db cb' g h n A c B k d (cellOpen d at_) e r ∧ Mods Nil W w' :=
  (copen_ok H.all.1 H.mods.size hl h0 h1).mono fun z w' ⟨cb', h1, h2, h3⟩ => ⟨cb', h1, H.cm (CM.nil h3) h2, h3⟩
theorem Q8.rwrite (hl : -1 ≤ d.left ∧ d.left ≤ 9223372036854775807) (hW : d.W.length ≤ 1000) (hlen : d.L.length = n) (i : Int) {q : Nat} {F : List UInt8} (hq : F.length = q) (W : World) (hr : RdAt W A c B k d) :
    Calls Try.prog 28 #[.agg #[.slice A n c, .slice B d.W.length k, .int .i64 d.left, .bool d.down], .int .i64 i, .string (strOf F)] W (RTo8 W n (d.write i F).1 (d.write i F).2) := by
  have := r6write_any W hr hlen rfl rfl rfl hW hl.1 hl.2 i hq (fun h => by have := PD.at_zero h; omega)
  unfold RTold6 at this
  rw [(write_len8 d i F).1, hlen] at this
  exact this
theorem Q8.rstop (a : Int) (W : World) (hr : RdAt W A c B k d) :
    Calls Try.prog 25 #[.agg #[.slice A n c, .slice B d.W.length k, .int .i64 d.left, .bool d.down], .int .i64 a] W (RTo81 W n (d.stop a)) :=
  (rstop_any W d a).mono fun e w' H => ⟨A, c, B, k, H.1, (hr.mods H.2).of rfl rfl, H.2⟩
theorem Q8.rcrash (hok : d.Ok) (hW : d.W.length ≤ 1000) (hlen : d.L.length = n) (hn : n ≤ 1000) {q : Nat} {F : List UInt8} (hq : F.length = q) (hq2 : q ≤ 1000) (W : World) (hr : RdAt W A c B k d) :
    Calls Try.prog 30 #[.agg #[.slice A n c, .slice B d.W.length k, .int .i64 d.left, .bool d.down], .string (strOf F)] W (RTo81 W n (d.crash F)) :=
  (r6crash_any W hr hok hlen rfl hW hn hq hq2).mono fun e w' ⟨A', c', h1, h2, h3, h4⟩ => ⟨A', c', none, 0, h1, ⟨h2, Sl2.none_ _, h4, Ty6.none_ _ _⟩, h3⟩
theorem Q8.ropen (hok : d.Ok) (hlen : d.L.length = n) (hn : n ≤ 1000) (hdn : d.down = false) {at_ : Nat} (h0 : d.at_ (at_ : Int) = 0) (h1 : d.at_ ((at_ : Int) + 1) = 0) (W : World) (hr : RdAt W A c B k d) :
    Calls Try.prog 35 #[.agg #[.slice A n c, .slice B d.W.length k, .int .i64 d.left, .bool d.down], .int .i64 (at_ : Int)] W fun z w' => z = .returned (.tuple #[.agg #[.int .i64 ((cellOpen d at_).at_ : Int), .int .i64 (nowC (cellOpen d at_)), .int .u64 ((cellOpen d at_).turn : Int), .int .u64 ((cellOpen d at_).great : Int), .string (strOf (cellOpen d at_).data), .int .i64 (cellOpen d at_).err], .int .i64 0]) ∧ Mods Nil W w' := by
  have := r8open_ok W hr hok hlen rfl h0 h1 hn (left := d.left)
  unfold rcC at this
  rw [hdn]
  exact this
theorem Q8.alike (H : Q8 w W db cb g h n A c B k d p d p) (hn : n ≤ 1000) :
    Calls Try.prog 39 #[.pointer (some ⟨db, 0, none⟩), .agg #[.slice A n c, .slice B d.W.length k, .int .i64 d.left, .bool d.down]] W fun e w' => e = .returned (.bool true) ∧ Mods Nil W w' :=
  alike8_any W H.all.1 H.ref H.len rfl rfl hn
end
end Go.Proofs.Ytdllgmhipenidaa
