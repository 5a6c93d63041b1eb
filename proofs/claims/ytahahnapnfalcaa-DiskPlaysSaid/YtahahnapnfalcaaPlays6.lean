/- What DiskPlays' walk asks: the package's disk and the reference's beside one another, one action each. -/
import Derived.Test.YtahahnapnfalcaaAlike6
import Derived.Test.YtahahnapnfalcaaActs
namespace Go.Proofs.Ytahahnapnfalcaa
set_option maxRecDepth 100000
open Go.RowKit
set_option linter.unusedVariables false

theorem i64_and15 (n : Int) : bits .and .i64 n 15 = n % 16 := by
  have h3 : (BitVec.ofInt 64 15).toNat = 2 ^ 4 - 1 := by decide
  have key : (BitVec.ofInt 64 n &&& BitVec.ofInt 64 15).toNat = (n % ((2 ^ 64 : Nat) : Int)).toNat % 2 ^ 4 := by
    rw [BitVec.toNat_and, BitVec.toNat_ofInt, h3, Nat.and_two_pow_sub_one_eq_mod]
  show IntKind.i64.wrap ((BitVec.ofInt 64 n &&& BitVec.ofInt 64 15).toNat : Nat) = n % 16
  rw [key, IntKind.wrap_i64]
  omega
theorem Sl2.mods' {S : Nat → Prop} {w w' : World} {A : Option Addr} {c : Nat} {W : List (Nat × List UInt8)} (h : Sl2 w A c W) (hm : Mods S w w') (hA : Off S A) : Sl2 w' A c W := by
  refine ⟨h.le, h.max, h.nil, ?_⟩
  rcases h.has with h0 | ⟨b, off, hA', hc⟩
  · exact .inl h0
  · refine .inr ⟨b, off, hA', fun j u hu => ?_⟩
    have := hc j u hu
    rw [World.cell?_of_block (hm.block b (World.block_lt_of_cell? w _ this) (hA _ hA'))]
    exact this
theorem RdAt.typed {S : Nat → Prop} {w w' : World} {A B : Option Addr} {c k : Nat} {d : PD} (h : RdAt w A c B k d) (hm : Mods S w w') (hA : Off S A) (hB : Off S B) : RdAt w' A c B k d :=
  ⟨h.sure.mods hm hA, h.waits.mods' hm hB, h.tyA.mods hm hA, h.tyB.mods hm hB⟩
theorem Ty6.far {w : World} {A : Option Addr} {t : TypeId} {base : Nat} (h : Ty6 w A t) (ht : t ≠ 61 ∧ t ≠ 65 ∧ t ≠ 67) : Far base w A := fun a ha => by
  obtain ⟨cs, hb⟩ := h a ha
  exact .inr ⟨t, cs, hb, ht⟩
theorem RdAt.dm {w w' : World} {A B : Option Addr} {c k base : Nat} {d : PD} (h : RdAt w A c B k d) (hm : DM base w w') : RdAt w' A c B k d :=
  h.typed hm (h.tyA.far (by decide)).off (h.tyB.far (by decide)).off
theorem RdAt.box {w w' : World} {A B : Option Addr} {c k g : Nat} {d : PD} {cs : Array Value} (h : RdAt w A c B k d) (hb : Blk w g 31 cs) (hm : Mods (fun i => i = g) w w') : RdAt w' A c B k d :=
  h.typed hm (h.tyA.of_ne hb (by decide)) (h.tyB.of_ne hb (by decide))
theorem DiskAt.box {w w' : World} {base db g : Nat} {d : PD} {cs : Array Value} (h : DiskAt w base db d) (hb : Blk w g 31 cs) (hm : Mods (fun i => i = g) w w') : DiskAt w' base db d :=
  h.typed hm (fun k hk _ => by subst hk; exact ⟨_, _, hb, by decide, by decide, by decide⟩)
theorem DiskAt.lo {w : World} {base db : Nat} {d : PD} (h : DiskAt w base db d) : -1 ≤ d.left ∧ d.left ≤ 9223372036854775807 := by
  obtain ⟨_, _, z, h⟩ := h
  obtain ⟨h1, h2 | h2⟩ := h.left <;> omega
theorem DiskAt.ok {w : World} {base db : Nat} {d : PD} (h : DiskAt w base db d) : d.Ok := by
  obtain ⟨_, _, z, h⟩ := h
  exact h.ok

theorem PD.count_l (d : PD) : d.count.1.L = d.L ∧ d.count.1.W = d.W := d.count_L
theorem PD.write_len (d : PD) (i : Int) (b : List UInt8) : (d.write i b).1.L.length = d.L.length ∧ (d.write i b).1.W.length ≤ d.W.length + 1 := by
  have h := d.count_L
  unfold PD.write
  split
  · exact ⟨rfl, by simp⟩
  · split
    · exact ⟨rfl, by simp⟩
    · split
      · rw [h.1, h.2]; exact ⟨rfl, by omega⟩
      · exact ⟨by simp [h.1], by simp⟩
theorem PD.sync_len (d : PD) : d.sync.1.L.length = d.L.length ∧ d.sync.1.W.length ≤ d.W.length := by
  have h := d.count_L
  unfold PD.sync
  split
  · exact ⟨rfl, Nat.le_refl _⟩
  · split
    · rw [h.1, h.2]; exact ⟨rfl, Nat.le_refl _⟩
    · exact ⟨by simp [layAll_length], by simp⟩

/-- Both disks, where the walk stands between two actions: the reference's lies in the box g. -/
structure Pl (w W : World) (db g n : Nat) (A : Option Addr) (c : Nat) (B : Option Addr) (k : Nat) (d : PD) : Prop where
  disk : DiskAt W w.heap.size db d
  box : Blk W g 31 #[.slice A n c, .slice B d.W.length k, .int .i64 d.left, .bool d.down]
  old : w.heap.size ≤ g
  ref : RdAt W A c B k d
  len : d.L.length = n
  mods : Mods Nil w W
theorem Pl.nil {w W W' : World} {db g n c k : Nat} {A B : Option Addr} {d : PD} (h : Pl w W db g n A c B k d) (hm : Mods Nil W W') : Pl w W' db g n A c B k d :=
  ⟨h.disk.nil hm, h.box.mods hm (fun h => h), h.old, h.ref.mods hm, h.len, h.mods.trans hm⟩
/-- The package's disk has had its action, the reference's not yet. -/
structure Pm (w W : World) (db g n : Nat) (A : Option Addr) (c : Nat) (B : Option Addr) (k : Nat) (d d' : PD) : Prop where
  disk : DiskAt W w.heap.size db d'
  box : Blk W g 31 #[.slice A n c, .slice B d.W.length k, .int .i64 d.left, .bool d.down]
  old : w.heap.size ≤ g
  ref : RdAt W A c B k d
  len : d.L.length = n
  mods : Mods Nil w W
theorem Pl.acts {w W W' : World} {db g n c k : Nat} {A B : Option Addr} {d d' : PD} (h : Pl w W db g n A c B k d) (hd : DiskAt W' w.heap.size db d') (hm : DM w.heap.size W W') : Pm w W' db g n A c B k d d' :=
  ⟨hd, h.box.dm hm (by decide), h.old, h.ref.dm hm, h.len, DM.nilTrans h.mods (Nat.le_refl _) hm⟩
theorem Pm.nil {w W W' : World} {db g n c k : Nat} {A B : Option Addr} {d d' : PD} (h : Pm w W db g n A c B k d d') (hm : Mods Nil W W') : Pm w W' db g n A c B k d d' :=
  ⟨h.disk.nil hm, h.box.mods hm (fun h => h), h.old, h.ref.mods hm, h.len, h.mods.trans hm⟩
theorem Pm.next {w W W' : World} {db g n c k : Nat} {A B : Option Addr} {d d' : PD} (h : Pm w W db g n A c B k d d') {A' B' : Option Addr} {c' k' : Nat} (hr : RdAt W A' c' B' k' d') (hl : d'.L.length = n)
    (hb : Blk W' g 31 #[.slice A' n c', .slice B' d'.W.length k', .int .i64 d'.left, .bool d'.down]) (hm : Mods (fun i => i = g) W W') : Pl w W' db g n A' c' B' k' d' :=
  ⟨h.disk.box h.box hm, hb, h.old, hr.box h.box hm, hl, h.mods.nil_trans hm (fun i hi => by rw [hi]; exact h.old)⟩

/-- What an action tells, of the reference's disk. -/
def RTo (w : World) (n : Nat) (d : PD) (err : Int) (e : Ending) (w' : World) : Prop :=
  ∃ A c B k, e = .returned (.tuple #[.agg #[.slice A n c, .slice B d.W.length k, .int .i64 d.left, .bool d.down], .int .i64 err]) ∧ RdAt w' A c B k d ∧ Mods Nil w w'
def RTo1 (w : World) (n : Nat) (d : PD) (e : Ending) (w' : World) : Prop :=
  ∃ A c B k, e = .returned (.agg #[.slice A n c, .slice B d.W.length k, .int .i64 d.left, .bool d.down]) ∧ RdAt w' A c B k d ∧ Mods Nil w w'
section
variable {w W : World} {db g n c k : Nat} {A B : Option Addr} {d : PD}
theorem Pl.write (h : Pl w W db g n A c B k d) (hW : d.W.length ≤ 1000) (i : Int) {A1 : Option Addr} {c1 q : Nat} {F : List UInt8} (hs : Bs w.heap.size W A1 c1 F) (hq : F.length = q) :
    Calls Try.prog 13 #[.pointer (some ⟨db, 0, none⟩), .int .i64 i, .slice A1 q c1] W fun e w' => e = .returned (.int .i64 (d.write i F).2) ∧ Pm w w' db g n A c B k d (d.write i F).1 ∧ DM w.heap.size W w' :=
  (dwrite_any h.disk hW i hs hq).mono fun e w' H => ⟨H.1, h.acts H.2.1 H.2.2, H.2.2⟩
theorem Pl.sync (h : Pl w W db g n A c B k d) :
    Calls Try.prog 15 #[.pointer (some ⟨db, 0, none⟩)] W fun e w' => e = .returned (.int .i64 d.sync.2) ∧ Pm w w' db g n A c B k d d.sync.1 ∧ DM w.heap.size W w' :=
  (dsync_any h.disk).mono fun e w' H => ⟨H.1, h.acts H.2.1 H.2.2, H.2.2⟩
theorem Pl.stop (h : Pl w W db g n A c B k d) {a : Int} (ha : a ≤ 9223372036854775807) :
    Calls Try.prog 17 #[.pointer (some ⟨db, 0, none⟩), .int .i64 a] W fun e w' => e = .returned (.tuple #[]) ∧ Pm w w' db g n A c B k d (d.stop a) ∧ DM w.heap.size W w' :=
  (dstop_any h.disk ha).mono fun e w' H => ⟨H.1, h.acts H.2.1 H.2.2, H.2.2⟩
theorem Pl.crash (h : Pl w W db g n A c B k d) {A1 : Option Addr} {c1 q : Nat} {F : List UInt8} (hs : Bs w.heap.size W A1 c1 F) (hq : F.length = q) :
    Calls Try.prog 19 #[.pointer (some ⟨db, 0, none⟩), .slice A1 q c1] W fun e w' => e = .returned (.tuple #[]) ∧ Pm w w' db g n A c B k d (d.crash F) ∧ DM w.heap.size W w' :=
  (dcrash_any h.disk hs hq).mono fun e w' H => ⟨H.1, h.acts H.2.1 H.2.2, H.2.2⟩
theorem Pl.rwrite (hl : -1 ≤ d.left ∧ d.left ≤ 9223372036854775807) (hW : d.W.length ≤ 1000) (hlen : d.L.length = n) (i : Int) {q : Nat} {F : List UInt8} (hq : F.length = q) (W : World) (hr : RdAt W A c B k d) :
    Calls Try.prog 14 #[.agg #[.slice A n c, .slice B d.W.length k, .int .i64 d.left, .bool d.down], .int .i64 i, .string (strOf F)] W (RTo W n (d.write i F).1 (d.write i F).2) := by
  have := r6write_any W hr hlen rfl rfl rfl hW hl.1 hl.2 i hq (fun h => by have := PD.at_zero h; omega)
  unfold RTold6 at this
  rw [(d.write_len i F).1, hlen] at this
  exact this
theorem Pl.rsync (hok : d.Ok) (hl : -1 ≤ d.left ∧ d.left ≤ 9223372036854775807) (hW : d.W.length ≤ 1000) (hlen : d.L.length = n) (hn : n ≤ 1000) (W : World) (hr : RdAt W A c B k d) :
    Calls Try.prog 16 #[.agg #[.slice A n c, .slice B d.W.length k, .int .i64 d.left, .bool d.down]] W (RTo W n d.sync.1 d.sync.2) := by
  have := r6sync_any W hr hok hlen rfl rfl rfl hW hn hl.1 hl.2
  unfold RTold6 at this
  rw [d.sync_len.1, hlen] at this
  exact this
theorem Pl.rstop (a : Int) (W : World) (hr : RdAt W A c B k d) :
    Calls Try.prog 18 #[.agg #[.slice A n c, .slice B d.W.length k, .int .i64 d.left, .bool d.down], .int .i64 a] W (RTo1 W n (d.stop a)) :=
  (rstop_any W d a).mono fun e w' H => ⟨A, c, B, k, H.1, (hr.mods H.2).of rfl rfl, H.2⟩
theorem Pl.rcrash (hok : d.Ok) (hW : d.W.length ≤ 1000) (hlen : d.L.length = n) (hn : n ≤ 1000) {q : Nat} {F : List UInt8} (hq : F.length = q) (hq2 : q ≤ 1000) (W : World) (hr : RdAt W A c B k d) :
    Calls Try.prog 20 #[.agg #[.slice A n c, .slice B d.W.length k, .int .i64 d.left, .bool d.down], .string (strOf F)] W (RTo1 W n (d.crash F)) :=
  (r6crash_any W hr hok hlen rfl hW hn hq hq2).mono fun e w' ⟨A', c', h1, h2, h3, h4⟩ => ⟨A', c', none, 0, h1, ⟨h2, Sl2.none_ _, h4, Ty6.none_ _ _⟩, h3⟩
theorem Pl.alike (h : Pl w W db g n A c B k d) (hn : n ≤ 1000) :
    Calls Try.prog 21 #[.pointer (some ⟨db, 0, none⟩), .agg #[.slice A n c, .slice B d.W.length k, .int .i64 d.left, .bool d.down]] W fun e w' => e = .returned (.bool true) ∧ Mods Nil W w' :=
  alike_any W h.disk h.ref h.len rfl rfl hn
end
/-- filled, as the walk asks for it. -/
def fillQ (o : Bool) : Nat := if o then 63 else 64
def fillF (xs : List UInt8) (o : Bool) : List UInt8 := (fillP xs).take (fillQ o)
theorem fillF_length (xs : List UInt8) (o : Bool) : (fillF xs o).length = fillQ o := by
  unfold fillF fillQ
  rw [List.length_take, fillP_length]
  cases o <;> rfl
theorem filled6 {W : World} (base : Nat) {A : Option Addr} {c m : Nat} {xs : List UInt8} (hs : Sl W A c (bts xs)) (hm : xs.length = m) (o : Bool) :
    Calls Try.prog 12 #[.slice A m c, .bool o] W fun e w' => ∃ g, e = .returned (.slice (some ⟨g, 0, none⟩) (fillQ o) 64) ∧ Bs base w' (some ⟨g, 0, none⟩) 64 (fillF xs o) ∧ Mods Nil W w' :=
  (filled_any hs hm o).mono fun e w' ⟨g, h1, h2, h3, h4⟩ => ⟨g, h1, Bs.of_blk h2 (fillP_length _) (by simp [maxLen]) _, h4⟩
/-- One action handed in. -/
theorem Acts.act_at {W : World} {A : Option Addr} {n c : Nat} {l : List (List Fv)} (h : Acts W A n c [.int .i64, .int .i64, .int .i64, .bytes] l) {j : Nat} (hj : j < n) :
    ∃ b off kd i z A2 c2 xs q, A = some ⟨b, off, none⟩ ∧ W.cell? ⟨b, off + j * 4, none⟩ = some (.int .i64 kd) ∧ W.cell? ⟨b, off + j * 4 + 1, none⟩ = some (.int .i64 i) ∧ W.cell? ⟨b, off + j * 4 + 2, none⟩ = some (.int .i64 z) ∧ W.cell? ⟨b, off + j * 4 + 3, none⟩ = some (.slice A2 q c2) ∧ xs.length = q ∧ Sl W A2 c2 (bts xs) ∧ z ≤ 9223372036854775807 := by
  obtain ⟨b, off, hA, _, hc⟩ := h.cells (by omega)
  have hjl : j < l.length := by rw [h.size]; exact hj
  have hx := List.getElem?_eq_getElem hjl
  obtain ⟨hk, hg⟩ := h.good _ (List.getElem_mem hjl)
  generalize l[j] = x at hx hk hg
  match x, hk, hg, hx with
  | [.int k1 kd, .int k2 i, .int k3 z, .bytes A2 c2 xs], hk, hg, hx =>
    simp [Fv.kind] at hk
    obtain ⟨rfl, rfl, rfl⟩ := hk
    have g2 := hg (.int .i64 z) (by simp)
    have g3 := hg (.bytes A2 c2 xs) (by simp)
    have c0 := hc j _ hx 0 (.int .i64 kd) rfl
    have c1 := hc j _ hx 1 (.int .i64 i) rfl
    have c2' := hc j _ hx 2 (.int .i64 z) rfl
    have c3 := hc j _ hx 3 (.bytes A2 c2 xs) rfl
    exact ⟨b, off, kd, i, z, A2, c2, xs, _, hA, c0, c1, c2', c3, rfl, g3, by simp [Fv.good, Lit.wf] at g2; omega⟩
end Go.Proofs.Ytahahnapnfalcaa
