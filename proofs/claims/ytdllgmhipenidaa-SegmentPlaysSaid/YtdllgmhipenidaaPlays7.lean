/- What SegmentPlays' walk asks: the package's disk and segment, and the reference's, beside one another. -/
import Derived.Test.YtdllgmhipenidaaAlike7
import Derived.Test.YtdllgmhipenidaaHas7
import Derived.Test.YtdllgmhipenidaaRec7
import Derived.Test.YtdllgmhipenidaaRef07g
import Derived.Test.YtdllgmhipenidaaRef06B
import Derived.Test.YtdllgmhipenidaaSgmE
import Derived.Test.YtdllgmhipenidaaActs
import Derived.Test.YtdllgmhipenidaaWriteF
import Derived.Test.YtdllgmhipenidaaHelp7b
import Derived.Test.YtdllgmhipenidaaHelp7
namespace Go.Proofs.Ytdllgmhipenidaa
set_option maxRecDepth 100000
open Go.RowKit
set_option linter.unusedVariables false
set_option linter.unusedSimpArgs false

theorem and_low7 (n : Int) (k : Nat) (m : Int) (hm : (BitVec.ofInt 64 m).toNat = 2 ^ k - 1) (hk : k ≤ 8) : bits .and .i64 n m = n % ((2 ^ k : Nat) : Int) := by
  have key : (BitVec.ofInt 64 n &&& BitVec.ofInt 64 m).toNat = (n % ((2 ^ 64 : Nat) : Int)).toNat % 2 ^ k := by
    rw [BitVec.toNat_and, BitVec.toNat_ofInt, hm, Nat.and_two_pow_sub_one_eq_mod]
  show IntKind.i64.wrap ((BitVec.ofInt 64 n &&& BitVec.ofInt 64 m).toNat : Nat) = n % ((2 ^ k : Nat) : Int)
  rw [key, IntKind.wrap_i64]
  have : k = 0 ∨ k = 1 ∨ k = 2 ∨ k = 3 ∨ k = 4 ∨ k = 5 ∨ k = 6 ∨ k = 7 ∨ k = 8 := by omega
  rcases this with rfl | rfl | rfl | rfl | rfl | rfl | rfl | rfl | rfl <;> omega
theorem i64_and15p (n : Int) : bits .and .i64 n 15 = n % 16 := and_low7 n 4 15 (by decide) (by omega)
theorem i64_and7p (n : Int) : bits .and .i64 n 7 = n % 8 := and_low7 n 3 7 (by decide) (by omega)
theorem i64_and3p (n : Int) : bits .and .i64 n 3 = n % 4 := and_low7 n 2 3 (by decide) (by omega)
theorem i64_and1p (n : Int) : bits .and .i64 n 1 = n % 2 := and_low7 n 1 1 (by decide) (by omega)
/-- []byte(s): a new block. -/
theorem conv_bytes7 (w : World) (base : Nat) {zs : List UInt8} {q : Nat} (hq : zs.length = q) (hle : q ≤ 1000) :
    ∃ c W', (convert 9 42 (.string (strOf zs))).run Try.prog w = .ok (.slice (some ⟨w.heap.size, 0, none⟩) q c) W' ∧ (∀ V X, Mods Nil W' V → DM base V X → Sl X (some ⟨w.heap.size, 0, none⟩) c (bts zs)) ∧ Mods Nil w W' := by
  have hsz : (strOf zs).size = q := by simp [hq]
  have h := run_bytes_of_string (P := Try.prog) w 9 42 5 (strOf zs) Try.underlying9 Try.underlying42 Try.underlying5
  rw [hsz] at h
  obtain ⟨cap, hcap⟩ : ∃ cap, grownCap w q 0 5 = cap := ⟨_, rfl⟩
  have h1 := grownCap_ge w q 0 5
  have h2 := grownCap_le_maxLen w q 0 5 (by unfold maxLen; omega)
  rw [hcap] at h h1 h2
  have hbs : (bytesRow (strOf zs) cap).size = cap := by
    unfold bytesRow
    rw [hsz]
    simp [strOf, hq]
    omega
  have hS : Sl (w.drew.alloc (.cells (bytesRow (strOf zs) cap) 5 ((bytesRow (strOf zs) cap).size, (bytesRow (strOf zs) cap).size + 1))) (some ⟨w.heap.size, 0, none⟩) cap (bts zs) := by
    have hb := build_sl w.drew (bytesRow (strOf zs) cap) 5 ((bytesRow (strOf zs) cap).size, (bytesRow (strOf zs) cap).size + 1) (by rw [hbs]; exact h2)
    have ht := hb.take q
    rw [hbs] at ht
    have he : (bytesRow (strOf zs) cap).toList.take q = bts zs := by
      unfold bytesRow bts
      simp [strOf]
      rw [List.take_append_of_le_length (by simp [hq]), List.take_of_length_le (by simp [hq])]
    rw [he] at ht
    rw [hbs]
    exact ht
  refine ⟨_, _, h, fun V X hV hX => ?_, (Mods.refl _ _).drew.alloc _⟩
  have hcell : V.heap[w.heap.size]? = some (.cells (bytesRow (strOf zs) cap) 5 ((bytesRow (strOf zs) cap).size, (bytesRow (strOf zs) cap).size + 1)) := by
    have e : (w.drew.alloc (.cells (bytesRow (strOf zs) cap) 5 ((bytesRow (strOf zs) cap).size, (bytesRow (strOf zs) cap).size + 1))).heap[w.heap.size]? = some (.cells (bytesRow (strOf zs) cap) 5 ((bytesRow (strOf zs) cap).size, (bytesRow (strOf zs) cap).size + 1)) := heap_alloc_new w.drew _
    rw [hV.block w.heap.size (by simp) (fun h => h)]
    exact e
  refine (hS.mods hV (fun _ _ h => h)).mods hX (fun a ha hs => ?_)
  injection ha with ha
  subst ha
  obtain ⟨_, t2, cs2, h3, h4⟩ := hs
  have e2 := Eq.trans (Eq.symm hcell) h3
  injection e2 with e2
  injection e2 with e3 e4 e5
  obtain rfl := e4
  rcases h4 with h4 | h4 | h4 <;> exact absurd h4 (by decide)
/-- One action handed in. -/
theorem Acts.act_at7 {W : World} {A : Option Addr} {n c : Nat} {l : List (List Fv)} (h : Acts W A n c [.int .i64, .int .i64, .bytes, .bool] l) {j : Nat} (hj : j < n) :
    ∃ b off kd z A2 c2 xs q, ∃ t : Bool, A = some ⟨b, off, none⟩ ∧ W.cell? ⟨b, off + j * 4, none⟩ = some (.int .i64 kd) ∧ W.cell? ⟨b, off + j * 4 + 1, none⟩ = some (.int .i64 z) ∧ W.cell? ⟨b, off + j * 4 + 2, none⟩ = some (.slice A2 q c2) ∧ W.cell? ⟨b, off + j * 4 + 3, none⟩ = some (.bool t) ∧ xs.length = q ∧ Sl W A2 c2 (bts xs) ∧ (-9223372036854775808 ≤ z ∧ z ≤ 9223372036854775807) := by
  obtain ⟨b, off, hA, _, hc⟩ := h.cells (by omega)
  have hjl : j < l.length := by rw [h.size]; exact hj
  have hx := List.getElem?_eq_getElem hjl
  obtain ⟨hk, hg⟩ := h.good _ (List.getElem_mem hjl)
  generalize l[j] = x at hx hk hg
  match x, hk, hg, hx with
  | [.int k1 kd, .int k2 z, .bytes A2 c2 xs, .bool t], hk, hg, hx =>
    simp [Fv.kind] at hk
    obtain ⟨rfl, rfl⟩ := hk
    have g2 := hg (.int .i64 z) (by simp)
    have g3 := hg (.bytes A2 c2 xs) (by simp)
    have c0 := hc j _ hx 0 (.int .i64 kd) rfl
    have c1 := hc j _ hx 1 (.int .i64 z) rfl
    have c2' := hc j _ hx 2 (.bytes A2 c2 xs) rfl
    have c3 := hc j _ hx 3 (.bool t) rfl
    exact ⟨b, off, kd, z, A2, c2, xs, _, t, hA, c0, c1, c2', c3, rfl, g3, i64_lim g2⟩
theorem Ty6.offS {w : World} {A : Option Addr} {t : TypeId} {base : Nat} (h : Ty6 w A t) (h1 : t ≠ 109 ∧ t ≠ 133 ∧ t ≠ 135 ∧ t ≠ 116) : ∀ a, A = some a → ¬ SS base w a.block := fun a ha hs => by
  obtain ⟨cs, hb⟩ := h a ha
  obtain ⟨_, hs⟩ := hs
  rcases hs with ⟨t2, cs2, h2, h3⟩ | ⟨es, c, h2⟩
  · obtain rfl := blk_typ hb h2
    rcases h3 with h3 | h3 | h3 | h3
    · exact h1.1 h3
    · exact h1.2.1 h3
    · exact h1.2.2.1 h3
    · exact h1.2.2.2 h3
  · exact blk_map hb h2
theorem RdAt.sm {w w' : World} {A B : Option Addr} {c k base : Nat} {d : PD} (h : RdAt w A c B k d) (hm : SM base w w') : RdAt w' A c B k d :=
  ⟨h.sure.mods hm (h.tyA.offS (by decide)), h.waits.off hm (h.tyB.offS (by decide)), h.tyA.mods hm (h.tyA.offS (by decide)), h.tyB.mods hm (h.tyB.offS (by decide))⟩
theorem RsAt.sm {w w' : World} {A : Option Addr} {c base : Nat} {s : PSeg} (h : RsAt w A c s) (hm : SM base w w') : RsAt w' A c s :=
  ⟨h.sl.mods hm (h.ty.offS (by decide)), h.ty.mods hm (h.ty.offS (by decide))⟩
theorem SegAt.box7 {w w' : World} {base sb db g : Nat} {d : PD} {s : PSeg} {t : TypeId} {cs : Array Value} (h : SegAt w base sb db d s) (hb : Blk w g t cs) (h1 : t ≠ 109 ∧ t ≠ 133 ∧ t ≠ 135 ∧ t ≠ 116 ∧ t ≠ 5) (hm : Mods (fun i => i = g) w w') : SegAt w' base sb db d s := by
  obtain ⟨hd, mb, hs⟩ := h
  refine ⟨hd.off hm (fun k hk hss => ?_), mb, hs.off hm (fun hk => ?_) (fun hk => ?_) (fun k cs2 hk h2 => ?_)⟩
  · subst hk
    obtain ⟨_, t2, cs2, h2, h3⟩ := hss
    obtain rfl := blk_typ hb h2
    rcases h3 with h3 | h3 | h3
    · exact h1.1 h3
    · exact h1.2.1 h3
    · exact h1.2.2.1 h3
  · subst hk
    exact h1.2.2.2.1 (blk_typ hb hs.blk)
  · subst hk
    obtain ⟨f, hi, _⟩ := hs.map
    obtain ⟨es, c, h2⟩ := hi.isMap
    exact blk_map hb h2
  · subst hk
    exact h1.2.2.2.2 (blk_typ hb h2)
theorem SegAt.dm7 {w w' : World} {base sb db : Nat} {d d' : PD} {s : PSeg} (h : SegAt w base sb db d s) (hm : DM base w w') (hd : DiskAt w' base db d') : SegAt w' base sb db d' s := by
  obtain ⟨_, mb, hs⟩ := h
  exact ⟨hd, mb, hs.dm hm⟩
theorem DiskAt.lo7 {w : World} {base db : Nat} {d : PD} (h : DiskAt w base db d) : -1 ≤ d.left ∧ d.left ≤ 9223372036854775807 := by
  obtain ⟨_, _, z, h⟩ := h
  obtain ⟨h1, h2 | h2⟩ := h.left <;> omega
theorem DiskAt.ok7 {w : World} {base db : Nat} {d : PD} (h : DiskAt w base db d) : d.Ok := by
  obtain ⟨_, _, z, h⟩ := h
  exact h.ok
theorem SegAt.sok {w : World} {base sb db : Nat} {d : PD} {s : PSeg} (h : SegAt w base sb db d s) : s.Ok := by
  obtain ⟨_, mb, hs⟩ := h
  exact hs.ok
@[reducible] def rsC (A : Option Addr) (c : Nat) (s : PSeg) : Array Value := #[.int .i64 (s.start : Int), .int .i64 (s.n : Int), .int .u64 (s.epoch : Int), .slice A s.L.length c, .int .i64 (s.used : Int), .int .i64 (s.sure : Int), .int .i64 (s.gone : Int), .int .i64 s.err]
/-- Both sides: the package's disk and segment, the reference's in the boxes g and h. -/
structure Q7 (w W : World) (db sb g h n : Nat) (A : Option Addr) (c : Nat) (B : Option Addr) (k : Nat) (A2 : Option Addr) (c2 : Nat) (d : PD) (s : PSeg) (e : PD) (r : PSeg) : Prop where
  all : SegAt W w.heap.size sb db d s
  box : Blk W g 31 #[.slice A n c, .slice B e.W.length k, .int .i64 e.left, .bool e.down]
  sbox : Blk W h 39 (rsC A2 c2 r)
  old : w.heap.size ≤ g ∧ w.heap.size ≤ h ∧ g ≠ h
  ref : RdAt W A c B k e
  rs : RsAt W A2 c2 r
  len : e.L.length = n
  mods : Mods Nil w W
section
variable {w W W' : World} {db sb g h n c k c2 : Nat} {A B A2 : Option Addr} {d e : PD} {s r : PSeg}
theorem Q7.nil (H : Q7 w W db sb g h n A c B k A2 c2 d s e r) (hm : Mods Nil W W') : Q7 w W' db sb g h n A c B k A2 c2 d s e r :=
  ⟨H.all.nil hm, H.box.mods hm (fun h => h), H.sbox.mods hm (fun h => h), H.old, H.ref.mods hm, H.rs.mods hm, H.len, H.mods.trans hm⟩
theorem Q7.sm (H : Q7 w W db sb g h n A c B k A2 c2 d s e r) (hm : SM w.heap.size W W') {d' : PD} {s' : PSeg} {sb' : Nat} (ha : SegAt W' w.heap.size sb' db d' s') : Q7 w W' db sb' g h n A c B k A2 c2 d' s' e r :=
  ⟨ha, H.box.sm hm (by decide), H.sbox.sm hm (by decide), H.old, H.ref.sm hm, H.rs.sm hm, H.len, SM.nilTrans H.mods (Nat.le_refl _) hm⟩
theorem Q7.dm (H : Q7 w W db sb g h n A c B k A2 c2 d s e r) (hm : DM w.heap.size W W') {d' : PD} (hd : DiskAt W' w.heap.size db d') : Q7 w W' db sb g h n A c B k A2 c2 d' s e r :=
  H.sm (SM.dm hm) (H.all.dm7 hm hd)
theorem Q7.setD (H : Q7 w W db sb g h n A c B k A2 c2 d s e r) {A' B' : Option Addr} {c' k' : Nat} {e' : PD} (hr : RdAt W A' c' B' k' e') (hl : e'.L.length = n)
    (hb : Blk W' g 31 #[.slice A' n c', .slice B' e'.W.length k', .int .i64 e'.left, .bool e'.down]) (hm : Mods (fun i => i = g) W W') : Q7 w W' db sb g h n A' c' B' k' A2 c2 d s e' r :=
  ⟨H.all.box7 H.box (by decide) hm, hb, H.sbox.mods hm (fun e => H.old.2.2 e.symm), H.old, hr.box H.box (by decide) (by decide) hm, H.rs.box H.box (by decide) hm, hl, H.mods.nil_trans hm (fun i hi => by rw [hi]; exact H.old.1)⟩
theorem Q7.setS (H : Q7 w W db sb g h n A c B k A2 c2 d s e r) {A3 : Option Addr} {c3 : Nat} {r' : PSeg} (hr : RsAt W A3 c3 r') (hb : Blk W' h 39 (rsC A3 c3 r')) (hm : Mods (fun i => i = h) W W') : Q7 w W' db sb g h n A c B k A3 c3 d s e r' :=
  ⟨H.all.box7 H.sbox (by decide) hm, H.box.mods hm (fun e => H.old.2.2 e), hb, H.old, H.ref.box H.sbox (by decide) (by decide) hm, hr.box H.sbox (by decide) hm, H.len, H.mods.nil_trans hm (fun i hi => by rw [hi]; exact H.old.2.1)⟩
/-- Both boxes are written. -/
theorem Q7.setB (H : Q7 w W db sb g h n A c B k A2 c2 d s e r) {A' B' A3 : Option Addr} {c' k' c3 : Nat} {e' : PD} {r' : PSeg} {W1 : World} (hr : RdAt W A' c' B' k' e') (hl : e'.L.length = n) (hrs : RsAt W A3 c3 r')
    (hb : Blk W1 g 31 #[.slice A' n c', .slice B' e'.W.length k', .int .i64 e'.left, .bool e'.down]) (hm : Mods (fun i => i = g) W W1) (hb2 : Blk W' h 39 (rsC A3 c3 r')) (hm2 : Mods (fun i => i = h) W1 W') : Q7 w W' db sb g h n A' c' B' k' A3 c3 d s e' r' :=
  (H.setD hr hl hb hm).setS (hrs.box H.box (by decide) hm) hb2 hm2
def RTo7 (w : World) (n : Nat) (d : PD) (err : Int) (e : Ending) (w' : World) : Prop :=
  ∃ A c B k, e = .returned (.tuple #[.agg #[.slice A n c, .slice B d.W.length k, .int .i64 d.left, .bool d.down], .int .i64 err]) ∧ RdAt w' A c B k d ∧ Mods Nil w w'
def RTo71 (w : World) (n : Nat) (d : PD) (e : Ending) (w' : World) : Prop :=
  ∃ A c B k, e = .returned (.agg #[.slice A n c, .slice B d.W.length k, .int .i64 d.left, .bool d.down]) ∧ RdAt w' A c B k d ∧ Mods Nil w w'
def RTo7s (w : World) (n : Nat) (d : PD) (r : PSeg) (err : Int) (e : Ending) (w' : World) : Prop :=
  ∃ A c B k A2 c2, e = .returned (.tuple #[.agg #[.slice A n c, .slice B d.W.length k, .int .i64 d.left, .bool d.down], .agg (rsC A2 c2 r), .int .i64 err]) ∧ RdAt w' A c B k d ∧ RsAt w' A2 c2 r ∧ Mods Nil w w'
def RTo7a (w : World) (n : Nat) (d : PD) (r : PSeg) (x err : Int) (e : Ending) (w' : World) : Prop :=
  ∃ A c B k A2 c2, e = .returned (.tuple #[.agg #[.slice A n c, .slice B d.W.length k, .int .i64 d.left, .bool d.down], .agg (rsC A2 c2 r), .int .i64 x, .int .i64 err]) ∧ RdAt w' A c B k d ∧ RsAt w' A2 c2 r ∧ Mods Nil w w'
theorem putsP_len : ∀ (bs : List (List UInt8)) (d : PD) (p : Nat), (putsP d p bs).1.L.length = d.L.length ∧ (putsP d p bs).1.W.length ≤ d.W.length + bs.length
  | [], d, p => ⟨rfl, Nat.le_refl _⟩
  | b :: bs, d, p => by
    have h1 := write_lenA d (p : Int) b
    have h2 := putsP_len bs (d.write (p : Int) b).1 (p + 1)
    show (if (d.write (p : Int) b).2 ≠ 0 then d.write (p : Int) b else putsP (d.write (p : Int) b).1 (p + 1) bs).1.L.length = d.L.length ∧ (if (d.write (p : Int) b).2 ≠ 0 then d.write (p : Int) b else putsP (d.write (p : Int) b).1 (p + 1) bs).1.W.length ≤ d.W.length + (bs.length + 1)
    split
    · exact ⟨h1.1, by omega⟩
    · exact ⟨by rw [h2.1, h1.1], by omega⟩
theorem append_len (s : PSeg) (d : PD) {b : List UInt8} {m : Nat} (hb : needP b.length ≤ m) : (s.append d b).1.L.length = d.L.length ∧ (s.append d b).1.W.length ≤ d.W.length + m := by
  have h := putsP_len (recP s.epoch s.L.length b) d (s.start + s.used)
  rw [recP_length] at h
  unfold PSeg.append
  split
  · exact ⟨rfl, by simp⟩
  · split
    · exact ⟨rfl, by simp⟩
    · split
      · exact ⟨rfl, by simp⟩
      · split
        · exact ⟨h.1, by dsimp only; omega⟩
        · exact ⟨h.1, by dsimp only; omega⟩
theorem sync_len7 (s : PSeg) (d : PD) : (s.sync d).1.L.length = d.L.length ∧ (s.sync d).1.W.length ≤ d.W.length := by
  have hc := d.count_L
  have h : d.sync.1.L.length = d.L.length ∧ d.sync.1.W.length ≤ d.W.length := by
    unfold PD.sync
    split
    · exact ⟨rfl, Nat.le_refl _⟩
    · split
      · rw [hc.1, hc.2]; exact ⟨rfl, Nat.le_refl _⟩
      · exact ⟨by simp [layAll_length], by simp⟩
  unfold PSeg.sync
  split
  · exact ⟨rfl, Nat.le_refl _⟩
  · split
    · exact h
    · exact h
theorem Q7.append (H : Q7 w W db sb g h n A c B k A2 c2 d s e r) (hW : d.W.length ≤ 900) {A1 : Option Addr} {c1 q : Nat} {b : List UInt8} (hs : Sb w.heap.size W A1 c1 b) (hq : b.length = q) :
    Calls Try.prog 17 #[.pointer (some ⟨sb, 0, none⟩), .slice A1 q c1] W fun z w' => z = .returned (.tuple #[.int .i64 (s.append d b).2.2.1, .int .i64 (s.append d b).2.2.2]) ∧ Q7 w w' db sb g h n A c B k A2 c2 (s.append d b).1 (s.append d b).2.1 e r ∧ SM w.heap.size W w' :=
  (sappend_any H.all hW hs hq).mono fun z w' h => ⟨h.1, H.sm h.2.2 h.2.1, h.2.2⟩
theorem Q7.rappend (hok : d.Ok) (hsk : s.Ok) (hl : -1 ≤ d.left ∧ d.left ≤ 9223372036854775807) (hW : d.W.length ≤ 900) (hlen : d.L.length = n) {q : Nat} {b : List UInt8} (hq : b.length = q) (hq4 : q ≤ 4096) (W : World) (hr : RdAt W A c B k d) (hrs : RsAt W A2 c2 s) :
    Calls Try.prog 19 #[.agg #[.slice A n c, .slice B d.W.length k, .int .i64 d.left, .bool d.down], .agg (rsC A2 c2 s), .string (strOf b)] W (RTo7a W n (s.append d b).1 (s.append d b).2.1 (s.append d b).2.2.1 (s.append d b).2.2.2) := by
  have hln : (s.append d b).1.L.length = n := by rw [(append_len s d (Nat.le_refl _)).1, hlen]
  have key : Calls Try.prog 19 #[rdW A c B k d, rsV A2 c2 s, .string (strOf b)] W (RToldA W (s.append d b).1 (s.append d b).2.1 (s.append d b).2.2.1 (s.append d b).2.2.2) := by
    have hf := hsk.fit
    have hu := hsk.used
    have hlL := hsk.len
    by_cases he : s.err = 0
    · by_cases hsp : s.n - s.used < needP q
      · have ha : s.append d b = (d, s, 0, 21) := by
          unfold PSeg.append
          rw [if_neg (by omega), if_neg (by simp [he]), if_pos (by rw [hq]; exact hsp)]
        rw [ha]
        exact r7app_early W hr hrs hq (by omega) (by omega) hu 21 (.inr (.inr ⟨hq4, he, hsp, rfl⟩))
      · exact r7app_go W hr hok hW hl.1 hl.2 hrs hq hq4 he (by omega) hsk.epoch (by omega) (by omega) (by omega) hu
    · have ha : s.append d b = (d, s, 0, s.err) := by
        unfold PSeg.append
        rw [if_neg (by omega), if_pos he]
      rw [ha]
      exact r7app_early W hr hrs hq (by omega) (by omega) hu s.err (.inr (.inl ⟨hq4, he, rfl⟩))
  unfold rdW at key
  rw [hlen] at key
  refine key.mono ?_
  rintro z w' ⟨A7, c7, B7, k7, A8, c8, h1, h2, h3, h4⟩
  unfold rdW at h1
  rw [hln] at h1
  exact ⟨A7, c7, B7, k7, A8, c8, h1, h2, h3, h4⟩
theorem Q7.sync (H : Q7 w W db sb g h n A c B k A2 c2 d s e r) :
    Calls Try.prog 20 #[.pointer (some ⟨sb, 0, none⟩)] W fun z w' => z = .returned (.int .i64 (s.sync d).2.2) ∧ Q7 w w' db sb g h n A c B k A2 c2 (s.sync d).1 (s.sync d).2.1 e r ∧ SM w.heap.size W w' :=
  (ssync_any H.all).mono fun z w' h => ⟨h.1, H.sm h.2.2 h.2.1, h.2.2⟩
theorem Q7.rsync (hok : d.Ok) (hl : -1 ≤ d.left ∧ d.left ≤ 9223372036854775807) (hW : d.W.length ≤ 900) (hlen : d.L.length = n) (hn : n ≤ 1000) (W : World) (hr : RdAt W A c B k d) (hrs : RsAt W A2 c2 s) :
    Calls Try.prog 21 #[.agg #[.slice A n c, .slice B d.W.length k, .int .i64 d.left, .bool d.down], .agg (rsC A2 c2 s)] W (RTo7s W n (s.sync d).1 (s.sync d).2.1 (s.sync d).2.2) := by
  have key := r7sync_any W hr hok (by omega) (by omega) hl.1 hl.2 hrs
  unfold rdW at key
  rw [hlen] at key
  refine key.mono ?_
  rintro z w' ⟨A7, c7, B7, k7, A8, c8, h1, h2, h3, h4⟩
  unfold rdW at h1
  rw [(sync_len7 s d).1, hlen] at h1
  exact ⟨A7, c7, B7, k7, A8, c8, h1, h2, h3, h4⟩
theorem Q7.trim (H : Q7 w W db sb g h n A c B k A2 c2 d s e r) (z : Int) :
    Calls Try.prog 22 #[.pointer (some ⟨sb, 0, none⟩), .int .i64 z] W fun x w' => x = .returned (.int .i64 ((s.trim z).gone : Int)) ∧ Q7 w w' db sb g h n A c B k A2 c2 d (s.trim z) e r ∧ SM w.heap.size W w' := by
  obtain ⟨hd, mb, hs⟩ := H.all
  exact (strim_in hs hd z).mono fun x w' h => ⟨h.1, H.sm h.2.2.2 ⟨h.2.2.1, mb, h.2.1⟩, h.2.2.2⟩
theorem Q7.write (H : Q7 w W db sb g h n A c B k A2 c2 d s e r) (hW : d.W.length ≤ 1000) (i : Int) {A1 : Option Addr} {c1 q : Nat} {F : List UInt8} (hs : ∀ V, DM w.heap.size W V → Sl V A1 c1 (bts F)) (hq : F.length = q) :
    Calls Try.prog 27 #[.pointer (some ⟨db, 0, none⟩), .int .i64 i, .slice A1 q c1] W fun z w' => z = .returned (.int .i64 (d.write i F).2) ∧ Q7 w w' db sb g h n A c B k A2 c2 (d.write i F).1 s e r ∧ DM w.heap.size W w' :=
  (dwrite_anyF H.all.1 hW i hs hq).mono fun z w' h => ⟨h.1, H.dm h.2.2 h.2.1, h.2.2⟩
theorem Q7.stop (H : Q7 w W db sb g h n A c B k A2 c2 d s e r) {a : Int} (ha : a ≤ 9223372036854775807) :
    Calls Try.prog 24 #[.pointer (some ⟨db, 0, none⟩), .int .i64 a] W fun z w' => z = .returned (.tuple #[]) ∧ Q7 w w' db sb g h n A c B k A2 c2 (d.stop a) s e r ∧ DM w.heap.size W w' :=
  (dstop_any H.all.1 ha).mono fun z w' h => ⟨h.1, H.dm h.2.2 h.2.1, h.2.2⟩
theorem Q7.crash (H : Q7 w W db sb g h n A c B k A2 c2 d s e r) {A1 : Option Addr} {c1 q : Nat} {F : List UInt8} (hs : Bs w.heap.size W A1 c1 F) (hq : F.length = q) :
    Calls Try.prog 29 #[.pointer (some ⟨db, 0, none⟩), .slice A1 q c1] W fun z w' => z = .returned (.tuple #[]) ∧ Q7 w w' db sb g h n A c B k A2 c2 (d.crash F) s e r ∧ DM w.heap.size W w' :=
  (dcrash_any H.all.1 hs hq).mono fun z w' h => ⟨h.1, H.dm h.2.2 h.2.1, h.2.2⟩
theorem Q7.open_ (H : Q7 w W db sb g h n A c B k A2 c2 d s e r) (hl : d.L.length ≤ 65536) {a m : Nat} (h1 : 1 ≤ m) (hm : a + m ≤ d.L.length) (hup : d.down = false) (hst : stampP (segL d a m) < 4294967295) :
    Calls Try.prog 15 #[.pointer (some ⟨db, 0, none⟩), .int .i64 (a : Int), .int .i64 (m : Int)] W fun z w' => ∃ sb', z = .returned (.tuple #[.pointer (some ⟨sb', 0, none⟩), .int .i64 0]) ∧ Q7 w w' db sb' g h n A c B k A2 c2 d (segOpen (segL d a m) a) e r ∧ Mods Nil W w' :=
  (sopen_ok H.all.1 H.mods.size hl h1 hm hup hst).mono fun z w' ⟨sb', h1, h2, h3⟩ => ⟨sb', h1, H.sm (SM.nil h3) h2, h3⟩
theorem Q7.rwrite (hl : -1 ≤ d.left ∧ d.left ≤ 9223372036854775807) (hW : d.W.length ≤ 1000) (hlen : d.L.length = n) (i : Int) {q : Nat} {F : List UInt8} (hq : F.length = q) (W : World) (hr : RdAt W A c B k d) :
    Calls Try.prog 28 #[.agg #[.slice A n c, .slice B d.W.length k, .int .i64 d.left, .bool d.down], .int .i64 i, .string (strOf F)] W (RTo7 W n (d.write i F).1 (d.write i F).2) := by
  have := r6write_any W hr hlen rfl rfl rfl hW hl.1 hl.2 i hq (fun h => by have := PD.at_zero h; omega)
  unfold RTold6 at this
  rw [(write_lenA d i F).1, hlen] at this
  exact this
theorem Q7.rstop (a : Int) (W : World) (hr : RdAt W A c B k d) :
    Calls Try.prog 25 #[.agg #[.slice A n c, .slice B d.W.length k, .int .i64 d.left, .bool d.down], .int .i64 a] W (RTo71 W n (d.stop a)) :=
  (rstop_any W d a).mono fun e w' H => ⟨A, c, B, k, H.1, (hr.mods H.2).of rfl rfl, H.2⟩
theorem Q7.rcrash (hok : d.Ok) (hW : d.W.length ≤ 1000) (hlen : d.L.length = n) (hn : n ≤ 1000) {q : Nat} {F : List UInt8} (hq : F.length = q) (hq2 : q ≤ 1000) (W : World) (hr : RdAt W A c B k d) :
    Calls Try.prog 30 #[.agg #[.slice A n c, .slice B d.W.length k, .int .i64 d.left, .bool d.down], .string (strOf F)] W (RTo71 W n (d.crash F)) :=
  (r6crash_any W hr hok hlen rfl hW hn hq hq2).mono fun e w' ⟨A', c', h1, h2, h3, h4⟩ => ⟨A', c', none, 0, h1, ⟨h2, Sl2.none_ _, h4, Ty6.none_ _ _⟩, h3⟩
theorem Q7.alike (H : Q7 w W db sb g h n A c B k A2 c2 d s d r) (hn : n ≤ 1000) :
    Calls Try.prog 31 #[.pointer (some ⟨db, 0, none⟩), .agg #[.slice A n c, .slice B d.W.length k, .int .i64 d.left, .bool d.down]] W fun e w' => e = .returned (.bool true) ∧ Mods Nil W w' :=
  alike_any W H.all.1 H.ref H.len rfl rfl hn
theorem Q7.has (H : Q7 w W db sb g h n A c B k A2 c2 d s e s) :
    Calls Try.prog 32 #[.pointer (some ⟨sb, 0, none⟩), .agg (rsC A2 c2 s)] W fun e w' => e = .returned (.bool true) ∧ Mods Nil W w' := by
  obtain ⟨_, mb, hs⟩ := H.all
  exact has_any W hs H.rs
end
theorem stampP_max (l : List (List UInt8)) : stampP l ≤ 4294967295 := stampP_le (fun b _ => by have h0 := numP_lt9 b 0; have h6 := numP_lt9 b 60; omega)
end Go.Proofs.Ytdllgmhipenidaa
