/- What the laws of a task that is done share. Rows of integers that are made and changed; marks that are all put. A task that is done in a map's memory beside rows of the call's own; walked. A task that is done in a map's memory beside two rows of integers and a row of words. -/
import Derived.Test.YtpocihddecemfaaGreatJ23
import Derived.Test.YtpocihddecemfaaGreatScAw
import Derived.Test.YtpocihddecemfaaGreatJ5
import Derived.IntWalk
import Derived.Test.YtpocihddecemfaaGreatJ12
import Derived.Test.YtpocihddecemfaaGreatJ18
namespace Go.Proofs.YtpocihddecemfaaGreat
open Go.RowKit
set_option linter.unusedVariables false
set_option linter.unusedSimpArgs false
set_option maxRecDepth 100000
open Lay (plcc plc shOf packN nodesN OkC Cfg Norm firstV Rep lenL slotsOf kindV)

theorem nodes_pos {c : Cfg} (hc : OkC c) : 1 ≤ nodesN c := by
  have e : nodesN c = c.a + c.b + c.c + c.d + c.e := rfl
  have := hc.s0; have := hc.a0; have := hc.b0; have := hc.c0; have := hc.d0; have := hc.e0
  omega
theorem pk_room {c : Cfg} (hc : OkC c) : nodesN c + 1 ≤ pkn c := by
  have a := Lay.psum_all hc
  have b := pkn_is hc
  have d := Lay.psum_bd c.ch (Lay.roomsI c) hc.h0 (Lay.rooms_bd c)
  have := hc.k0; have := hc.u0
  omega
/-- Words that came in. -/
theorem row_words {w : World} {F : Option Addr} {n cap : Nat} {z : List Int} (h : IsRow .u64 w F n cap z) : ∃ fs : List Int, n = fs.length ∧ Reads .u64 w F fs ∧ (∀ x ∈ fs, 0 ≤ x ∧ x ≤ 18446744073709551615) ∧ n ≤ maxLen := by
  obtain ⟨a, b, c, d, e, f⟩ := reads_row h
  refine ⟨z.take n, b.symm, a, fun x hx => ?_, by omega⟩
  have := f x hx
  simp [Lit.wf, IntKind.min, IntKind.max, IntKind.bits, IntKind.signed] at this; omega
theorem row_bytes {w : World} {F : Option Addr} {n cap : Nat} {z : List Int} (h : IsRow .u8 w F n cap z) : ∃ fs : List Int, n = fs.length ∧ Reads .u8 w F fs ∧ (∀ x ∈ fs, 0 ≤ x ∧ x ≤ 255) ∧ n ≤ maxLen := by
  obtain ⟨a, b, c, d, e, f⟩ := reads_row h
  refine ⟨z.take n, b.symm, a, fun x hx => ?_, by omega⟩
  have := f x hx
  simp [Lit.wf, IntKind.min, IntKind.max, IntKind.bits, IntKind.signed] at this; omega
theorem ch_cell {w w' : World} {c : Cfg} (h : Bw w c w') : w'.cell? ⟨w.heap.size, 8, none⟩ = some (.int .i64 c.ch) := h.cfg.2.2.2.2.2.2.2.2.1
theorem to_min {rm ch : Int} (h0 : 0 ≤ rm) (h1 : rm ≤ 16) (c0 : 1 ≤ ch) (c1 : ch ≤ 16) : Lay.imin ch rm = toZ rm 0 ch := by
  rw [toZ_is h0 (by omega) (by omega) c0 (by omega)]; unfold Lay.imin; repeat' split
  all_goals omega
theorem ScEv.len {k : Zk} {s s' : Int} {K K' : List Int} {m m' : Zm} (h : ScEv k s s' K K' m m') : (m'.ek = 1 → K'.length = K.length + 1) ∧ (m'.ek ≠ 1 → K' = K) ∧ (m'.pc = 0 → K' = K) := by
  rcases h with ⟨e, e2, _, rfl, _⟩ | ⟨e, _, _, _, _, rfl, _⟩ | ⟨e, _, _, _, rfl, _⟩ | ⟨e, _, rfl, _⟩ | ⟨e, _, rfl, _⟩
  · exact ⟨fun _ => by simp, fun h => absurd e h, fun h => absurd h e2⟩
  all_goals exact ⟨fun h => by omega, fun _ => rfl, fun _ => rfl⟩
@[go_sem] theorem fld_ek (a0 a1 a2 a3 a4 : Int) (w : World) : (Instr.field 62 (.agg #[.int .i64 a0, .int .i64 a1, .int .i64 a2, .int .i64 a3, .int .i64 a4]) 0).run Tryz.prog w = .ok (.int .i64 a0) w := by kernel_rfl
theorem SC.few {k : Zk} {L : List Int} {i rk : Int} {A : Nat} {m : Zm} {s : Int} {K : List Int} {P : Int → Prop} (h : SC k L i A m s K P rk) : (K.length : Int) ≤ k.T - k.b ∧ k.T - k.b ≤ 16 := by
  have a := h.kl; have b := h.sb; have d := h.ok.T1; have e := h.ok.rm; have f := h.ok.b0
  have : sdone m s ≤ s := by unfold sdone; split <;> omega
  omega
/-- When a task has ended, what is in its slots is marked. -/
theorem SC.fin {k : Zk} {L : List Int} {i rk : Int} {A : Nat} {m : Zm} {s : Int} {K : List Int} {P : Int → Prop} (h : SC k L i A m s K P rk) (hp : m.pc = 0) :
    (∀ j, k.b ≤ j → j < k.T → ldq L (k.z.sl k.v j) = k.W j ∧ (k.nd (k.W j) → k.cy ≤ ldq L (k.z.ma (k.W j)))) ∧ ldq L k.z.wk = (k.w0 + K.length + k.more + 18446744073709551615) % 18446744073709551616 := by
  have T1 := h.ok.T1; have b0 := h.ok.b0
  have hs := h.s6 (.inr hp)
  have hsd : sdone m s = k.T := by unfold sdone; rw [if_neg (by omega)]; exact hs
  have dn := h.dn
  rw [hsd] at dn
  refine ⟨fun j h0 h1 => ?_, ?_⟩
  · obtain ⟨p0, p1, _⟩ := h.ok.sl j (by omega) (by omega)
    refine ⟨by rw [ld_in ⟨p0, p1⟩]; exact h.wds.sl j (by omega) (by omega), fun hn => ?_⟩
    obtain ⟨m0, m1, _⟩ := h.ok.ma _ hn.1 hn.2
    rw [ld_in ⟨m0, m1⟩]
    have hm := h.wds.ma _ hn
    by_cases hh : k.W j ∈ K ∨ P (k.W j)
    · rw [hm.1 hh]; exact Int.le_refl _
    · rw [hm.2 hh]
      rcases dn j h0 h1 hn with x | x | x
      · exact absurd (.inl x) hh
      · exact absurd (.inr x) hh
      · exact x
  · rw [ld_in ⟨h.ok.wk.1, h.ok.wk.2.1⟩, h.wk]
    simp [wsum, hp]
end Go.Proofs.YtpocihddecemfaaGreat

namespace Go.Proofs.YtpocihddecemfaaGreat
open Go.RowKit
set_option linter.unusedVariables false
set_option linter.unusedSimpArgs false
set_option maxRecDepth 100000
open Lay (plcc plc shOf packN nodesN OkC Cfg Norm firstV Rep lenL slotsOf kindV roomsI ksOf)

theorem made_ints (n : Nat) : (madeCells (Value.int .i64 0).cells n).toList = List.replicate n (.int .i64 0) := by
  apply List.ext_getElem?
  intro j
  by_cases hj : j < n
  · simp [madeCells, hj, Value.cells, Nat.mod_one]
  · simp [madeCells, hj]
theorem make_ints (n : Nat) (w : World) (hn : n ≤ 1000000) : (Instr.makeSlice 51 (.int .i64 (n : Int)) (.int .i64 (n : Int))).run Tryz.prog w = .ok (.slice (some ⟨w.heap.size, 0, none⟩) n n) (w.alloc (.cells ((List.replicate n (0 : Int)).map (Value.int .i64)).toArray 3)) := by
  obtain ⟨i0, hi, hz0, hz1, hz2⟩ := info_parts info3
  have := run_make w 51 3 i0 (.int .i64 0) Tryz.underlying51 hi hz0 .i64 .i64 n n (by omega) (Int.le_refl _) (by rw [hz2]; omega) (by omega)
  have e : madeCells (Value.int .i64 0).cells n = ((List.replicate n (0 : Int)).map (Value.int .i64)).toArray := by
    apply Array.ext'
    rw [made_ints]; simp
  simpa [hz1, e] using this
/-- A row of integers in a block. -/
def RowI (w : World) (b : Nat) (l : List Int) : Prop := w.heap[b]? = some (.cells ((l.map (Value.int .i64)).toArray) 3 (0, 0))
section
variable {w w' : World} {b : Nat} {l : List Int}
theorem RowI.lt (h : RowI w b l) : b < w.heap.size := (Array.getElem?_eq_some_iff.1 h).1
theorem RowI.keep (h : RowI w b l) (k : w'.heap[b]? = w.heap[b]?) : RowI w' b l := k.trans h
theorem RowI.below (h : RowI w b l) (hb : Below w.heap.size w w') : RowI w' b l := (hb.block b h.lt).trans h
theorem RowI.cell (h : RowI w b l) {j : Nat} (hj : j < l.length) : w.cell? ⟨b, j, none⟩ = some (.int .i64 (l.getD j 0)) := by
  rw [cell_of_row w b j _ _ _ h]
  simp [List.getD, List.getElem?_eq_getElem hj]
theorem RowI.fro (h : RowI w b l) (j : Nat) : w.frozen? ⟨b, j, none⟩ = false := frozen_of_row w b j _ _ h
theorem RowI.set (h : RowI w b l) (j : Nat) (x : Int) : RowI (w.setCell ⟨b, j, none⟩ (.int .i64 x)) b (l.set j x) := by
  unfold RowI
  rw [heap_setCell_same w b j _ 3 _ h]
  congr 2
  apply Array.ext'
  simp [List.map_set]
theorem RowI.new (w : World) (n : Nat) : RowI (w.alloc (.cells ((List.replicate n (0 : Int)).map (Value.int .i64)).toArray 3)) w.heap.size (List.replicate n 0) := Go.heap_alloc_new _ _
end
/-- Ones up to a place, then zeros. -/
def ones (rm s : Nat) : List Int := (List.range rm).map fun j => if j < s then 1 else 0
theorem ones_len (rm s : Nat) : (ones rm s).length = rm := by simp [ones]
theorem ones_0 (rm : Nat) : ones rm 0 = List.replicate rm 0 := by
  apply List.ext_getElem
  · simp [ones]
  · intro i h1 h2; simp [ones]
theorem ones_at {rm s j : Nat} (h : j < rm) : (ones rm s).getD j 0 = if j < s then 1 else 0 := by
  simp [ones, List.getD, h]
theorem ones_set {rm s : Nat} (h : s < rm) : (ones rm s).set s 1 = ones rm (s + 1) := by
  apply List.ext_getElem
  · simp [ones]
  · intro i h1 h2
    simp only [List.getElem_set, ones, List.getElem_map, List.getElem_range]
    by_cases e : s = i
    · rw [if_pos e, if_pos (by omega)]
    · rw [if_neg e]
      by_cases h3 : i < s
      · rw [if_pos h3, if_pos (by omega)]
      · rw [if_neg h3, if_neg (by omega)]
/-- The marks of the first nodes are put. -/
structure MK (c : Cfg) (cy : Int) (q : Int) (L0 L : List Int) : Prop where
  len : L.length = L0.length
  put : ∀ u, 1 ≤ u → u < q → u ≤ nodesN c → L.getD (plcc c 16 u 0).toNat 0 = cy
  same : ∀ p, 0 ≤ p → (∀ u, p ≠ plcc c 16 u 0) → L.getD p.toNat 0 = L0.getD p.toNat 0
theorem MK.refl (c : Cfg) (cy : Int) (L : List Int) : MK c cy 1 L L := ⟨rfl, fun u h0 h1 _ => by omega, fun _ _ _ => rfl⟩
theorem MK.one {c : Cfg} (hc : OkC c) {cy q : Int} {L0 L : List Int} (h : MK c cy q L0 L) (hl : L0.length = lenL (shOf c)) (q0 : 1 ≤ q) (q1 : q ≤ nodesN c) : MK c cy (q + 1) L0 (ptq L (plcc c 16 q 0) cy) := by
  have p16 := plc_in hc (k := 16) (by omega) (by omega) q0 q1
  have lt := Lay.plc_lt (s := shOf c) (n16 q) p16
  refine ⟨by rw [pt_len]; exact h.len, fun u h0 h1 h2 => ?_, fun p h0 h1 => ?_⟩
  · by_cases e : u = q
    · subst e
      exact pt_same ⟨p16, by rw [h.len, hl]; exact lt⟩
    · have pu := plc_in hc (k := 16) (by omega) (by omega) h0 h2
      rw [pt_other pu (fun e2 => e (one_place (n16 u) (n16 q) pu e2).2.1)]
      exact h.put u h0 (by omega) h2
  · rw [pt_other h0 (h1 q)]; exact h.same p h0 h1
theorem mk_far {c : Cfg} (hc : OkC c) {mk : Int} (h0 : 0 ≤ mk) (h1 : mk < c.mr) {p : Int} (hp : 0 ≤ p) (hq : InE (dqn c) (eOf c mk) p ∨ InP (pkn c) (gOf c) p) (u : Int) : p ≠ plcc c 16 u 0 := fun e => by
  subst e
  rcases hq with h | h
  · exact far_ine hc h0 h1 (n16 u) hp (by omega) (by omega) (by omega) h
  · exact far_inp hc (n16 u) hp (by omega) (by omega) (by omega) (by omega) (by omega) h
theorem A1.marks {c : Cfg} (hc : OkC c) {mk cy q : Int} (h0 : 0 ≤ mk) (h1 : mk < c.mr) {L0 L : List Int} {i ra : Int} {A : Nat} {a : Am} (h : A1 (pkn c) (dqn c) (gOf c) (eOf c mk) L0 i A a ra) (hf : MK c cy q L0 L) : A1 (pkn c) (dqn c) (gOf c) (eOf c mk) L i A a ra :=
  h.same hf.len fun p hp0 hp => hf.same p hp0 (mk_far hc h0 h1 hp0 hp)
/-- A node's pieces are no more than there are packets. -/
theorem psum_ge {ch : Int} (h : 1 ≤ ch) : ∀ {l : List Int} {x : Int}, (∀ y ∈ l, 0 ≤ y) → x ∈ l → Lay.piecesOf x ch ≤ Lay.psum ch l
  | [], x, _, hx => by simp at hx
  | y :: l, x, hy, hx => by
    have pos : ∀ y, 0 ≤ y → 0 ≤ Lay.piecesOf y ch := fun y h0 => by unfold Lay.piecesOf; rw [if_neg (by omega)]; exact Int.ediv_nonneg (by omega) (by omega)
    have tail : ∀ l : List Int, (∀ y ∈ l, 0 ≤ y) → 0 ≤ Lay.psum ch l := fun l => by
      induction l with
      | nil => intro _; simp [Lay.psum]
      | cons a l ih =>
        intro h2
        have e : Lay.psum ch (a :: l) = Lay.piecesOf a ch + Lay.psum ch l := by simp [Lay.psum]
        have := ih (fun y hy => h2 y (by simp [hy])); have := pos a (h2 a (by simp)); omega
    have e : Lay.psum ch (y :: l) = Lay.piecesOf y ch + Lay.psum ch l := by simp [Lay.psum]
    have hl : ∀ z ∈ l, 0 ≤ z := fun z hz => hy z (by simp [hz])
    rcases List.mem_cons.1 hx with rfl | hx
    · have := tail l hl; omega
    · have := psum_ge h hl hx; have := pos y (hy y (by simp)); omega
theorem pk_pieces {c : Cfg} (hc : OkC c) {v : Int} (h1 : 1 ≤ v) (h2 : v ≤ nodesN c) {n : Nat} (hn : (n : Int) * c.ch < slotsOf (kindV c v)) : n + 1 + 0 ≤ pkn c := by
  have a := Lay.psum_all hc
  have b := pkn_is hc
  have hl := Lay.ks_len hc
  have hk : (v - 1).toNat < (ksOf c).length := by omega
  have hkl : (v - 1).toNat < (roomsI c).length := by rw [Lay.rooms_len]; exact hk
  have hm : slotsOf (kindV c v) ∈ roomsI c := by
    have := zg_room hc h1 h2
    rw [← this]
    show (roomsI c).getD (v - 1).toNat 0 ∈ roomsI c
    rw [List.getD, List.getElem?_eq_getElem hkl]; exact List.getElem_mem _
  have p := psum_ge hc.h0 (fun y hy => (Lay.rooms_bd c y hy).1) hm
  have e : Lay.piecesOf (slotsOf (kindV c v)) c.ch = (slotsOf (kindV c v) + c.ch - 1) / c.ch := by unfold Lay.piecesOf; rw [if_neg (by have := hc.h0; omega)]
  have hch := hc.h0
  have q : (n : Int) + 1 ≤ (slotsOf (kindV c v) + c.ch - 1) / c.ch := by
    rw [Int.le_ediv_iff_mul_le (by omega)]
    have : ((n : Int) + 1) * c.ch = n * c.ch + c.ch := by rw [Int.add_mul]; simp
    omega
  have := hc.k0; have := hc.u0; have := (nodes60 hc).1
  omega
end Go.Proofs.YtpocihddecemfaaGreat

namespace Go.Proofs.YtpocihddecemfaaGreat
open Go.RowKit
set_option linter.unusedVariables false
set_option linter.unusedSimpArgs false
set_option maxRecDepth 100000
open Lay (plcc plc shOf packN nodesN OkC Cfg Norm firstV Rep lenL slotsOf kindV)

theorem elI : ElT 51 3 (.int .i64 0) 8 := ⟨Tryz.underlying51, info3, rfl, by decide⟩
/-- A row of integers that grows. -/
def QI (o : Option Nat) (w : World) (v : Value) (l : List Int) : Prop := QVO 3 o w v (l.map (Value.int .i64))
section
variable {o : Option Nat} {w w' : World} {v : Value} {l : List Int}
theorem QI.nil (w : World) : QI none w (.slice none 0 0) [] := ⟨rfl, rfl⟩
theorem QI.below (h : QI o w v l) (hb : Below w.heap.size w w') : QI o w' v l := QVO.below h hb
theorem QI.same (h : QI o w v l) (k : ∀ b, o = some b → w'.heap[b]? = w.heap[b]?) : QI o w' v l := QVO.same h k
theorem QI.lt (h : QI o w v l) : ∀ b, o = some b → b < w.heap.size := QVO.lt h
theorem QI.len (h : QI o w v l) : ∃ A c, v = .slice A l.length c := by
  obtain ⟨A, c, h⟩ := QVO.len h
  exact ⟨A, c, by simpa using h⟩
/-- Its elements. -/
theorem QI.cell (h : QI o w v l) (h0 : 0 < l.length) : ∃ b off cap, o = some b ∧ v = .slice (some ⟨b, off, none⟩) l.length cap ∧ l.length ≤ cap ∧ cap ≤ maxLen ∧ ∀ j, j < l.length → w.cell? ⟨b, off + j, none⟩ = some (.int .i64 (l.getD j 0)) := by
  obtain ⟨b, e, h⟩ := QVO.has h (by simpa using h0)
  obtain ⟨off, cap, h1, h2, h3, h4⟩ := QV.cell h
  refine ⟨b, off, cap, e, by simpa using h1, by simpa using h2, h3, fun j hj => ?_⟩
  rw [h4 j (by simpa using hj)]
  simp [List.getD, List.getElem?_eq_getElem hj]
/-- One more. -/
def GrewI (o : Option Nat) (w w' : World) (v' : Value) (l : List Int) : Prop := ∃ b, (o = some b ∨ w.heap.size ≤ b) ∧ QI (some b) w' v' l ∧ Upd b b w w'
theorem append_i {x : Nat} {y : Int} {ops : Array Oper} {rest : List Oper} {op : Oper} {a : Act} {R : Exit → Act → World → Prop} (hg : op.guard = none) (s z : Operand)
    (ho : op.op = .call { callee := .builtin .append, args := #[s, z], argTypes := #[51, 51] }) (h : QI o w v l) (hx : w.cell? ⟨x, 0, none⟩ = some (.int .i64 y)) (hq : l.length ≤ 100000)
    (hs : a.eval s = v) (hy : a.eval z = .slice (some ⟨x, 0, none⟩) 1 1)
    (k : ∀ v' w', GrewI o w w' v' (l ++ [y]) → wpList Tryz.prog ops R rest (a.put op.dst v') w') : wpList Tryz.prog ops R (op :: rest) a w :=
  append_v hg s z elI ho h hx rfl (by simpa using hq) hs hy fun v' w' hgr => k v' w' (by
    obtain ⟨b, h1, h2, h3⟩ := hgr
    exact ⟨b, h1, (show QVO 3 (some b) w' v' ((l ++ [y]).map (Value.int .i64)) by rw [List.map_append]; exact h2), h3⟩)
end
/-- The store alone, behind a change of a block of the call's own. -/
theorem PO.upd {B S D N : Nat} {c : Cfg} {w0 w w' : World} {L : List Int} {k : Int} {b : Nat} (h : PO B S D N c w0 w L k) (u : Upd b b w w') (hb : (B ≤ b ∧ b ≠ S ∧ b ≠ D ∧ b ≠ N)) : PO B S D N c w0 w' L k := by
  obtain ⟨cc, h0, h1, hs⟩ := h.st
  have hl := h.lt
  have uf : UF (fun j => j = b) w w' := (UF.of_upd u).mono fun j _ e => by rcases e with e | e <;> exact e
  exact ⟨⟨cc, h0, h1, St_same hs (uf.block S hl.1 (Ne.symm hb.2.1)) (uf.block D hl.2.1 (Ne.symm hb.2.2.1))⟩, IsMap_same h.mp uf.size (uf.block N hl.2.2 (Ne.symm hb.2.2.2)), h.ok, h.ns, h.lo, h.ww, below_uf h.bel h.lo.2.2 uf (fun j e => by subst e; exact hb.1)⟩
/-- The store, the machine, what holds; Fo: blocks that the machine has nothing to do with. -/
structure SY (B S D N : Nat) (c : Cfg) (w0 w : World) (X : Nat) (mk : Int) (k : Zk) (L : List Int) (i : Int) (A : Nat) (m : Zm) (s : Int) (K : List Int) (P : Int → Prop) (rk cnt : Int) (Fo : Nat → Prop) : Prop where
  po : PO B S D N c w0 w L cnt
  ma : ∃ O Dp, ZKM w X O Dp c N mk m ∧ (∀ b, O b → B ≤ b) ∧ ¬ Dp S ∧ ¬ Dp D ∧ ∀ b, Fo b → ¬ Dp b
  fo : ∀ b, Fo b → B ≤ b ∧ b ≠ S ∧ b ≠ D ∧ b ≠ N ∧ b < w.heap.size
  nb : N < B
  zw : ZW c i m
  sc : SC k L i A m s K P rk
  kz : k.z = zgOf c ∧ k.g = gOf c ∧ k.e = eOf c mk
  ln : L.length = lenL (shOf c)
section
variable {B S D N : Nat} {c : Cfg} {w0 w w' : World} {X : Nat} {mk : Int} {k : Zk} {L : List Int} {i : Int} {A : Nat} {m : Zm} {s : Int} {K : List Int} {P : Int → Prop} {rk cnt : Int} {Fo Fo' : Nat → Prop}
theorem SY.below (h : SY B S D N c w0 w X mk k L i A m s K P rk cnt Fo) (hb : Below w.heap.size w w') : SY B S D N c w0 w' X mk k L i A m s K P rk cnt Fo := by
  obtain ⟨O, Dp, hp, a⟩ := h.ma
  exact ⟨h.po.step hb, ⟨O, Dp, hp.below hb, a⟩, fun b hb2 => by obtain ⟨a, b', d, e, f⟩ := h.fo b hb2; exact ⟨a, b', d, e, Nat.lt_of_lt_of_le f hb.size⟩, h.nb, h.zw, h.sc, h.kz, h.ln⟩
/-- A row grows. -/
theorem SY.grow {b : Nat} (h : SY B S D N c w0 w X mk k L i A m s K P rk cnt Fo) (u : Upd b b w w') (hb : Fo b ∨ w.heap.size ≤ b) (hf : ∀ x, Fo' x → Fo x ∨ x = b) (hlt : b < w'.heap.size) : SY B S D N c w0 w' X mk k L i A m s K P rk cnt Fo' := by
  obtain ⟨O, Dp, hp, hO, h1, h2, h3⟩ := h.ma
  have hl := h.po.lt
  have lo := h.po.lo
  have hB : B ≤ w.heap.size := Nat.le_trans lo.2.2 h.po.bel.size
  have hbb : B ≤ b ∧ b ≠ S ∧ b ≠ D ∧ b ≠ N := by
    rcases hb with hb | hb
    · obtain ⟨a, b', d, e, f⟩ := h.fo b hb; exact ⟨a, b', d, e⟩
    · exact ⟨by omega, by omega, by omega, by omega⟩
  have hbD : ∀ x, Dp x → x ≠ b := fun x hx e => by
    subst e
    rcases hb with hb | hb
    · exact h3 x hb hx
    · have := hp.ins.2.2 x hx; omega
  refine ⟨h.po.upd u hbb, ⟨O, Dp, hp.keep u.size fun x hx => u.block x (hp.ins.2.2 x hx) (hbD x hx) (hbD x hx), hO, h1, h2, fun x hx => ?_⟩, fun x hx => ?_, h.nb, h.zw, h.sc, h.kz, h.ln⟩
  · rcases hf x hx with hx | hx
    · exact h3 x hx
    · exact fun hd => hbD x hd hx
  · rcases hf x hx with hx | rfl
    · obtain ⟨a, b', d, e, f⟩ := h.fo x hx; exact ⟨a, b', d, e, Nat.lt_of_lt_of_le f u.size⟩
    · exact ⟨hbb.1, hbb.2.1, hbb.2.2.1, hbb.2.2.2, hlt⟩
theorem SY.more {rk' cnt' : Int} (h : SY B S D N c w0 w X mk k L i A m s K P rk cnt Fo) (h1 : rk ≤ rk') (h2 : cnt ≤ cnt') : SY B S D N c w0 w X mk k L i A m s K P rk' cnt' Fo :=
  ⟨h.po.more h2, h.ma, h.fo, h.nb, h.zw, h.sc.more h1 (Int.le_refl _), h.kz, h.ln⟩
/-- A step. -/
theorem SY.step (h : SY B S D N c w0 w X mk k L i A m s K P rk cnt Fo) (hp : m.pc ≠ 0) (h0 : 0 ≤ mk) (h1 : mk < c.mr) (hi : i ≤ 90000) (hc : cnt ≤ 800000000) :
    Calls Tryz.prog 17 #[ptr X, ptr S] w fun e w' => ∃ L' A' m' s' K', e = .returned (.bool (decide (m'.pc = 0))) ∧ SY B S D N c w0 w' X mk k L' (i + 1) A' m' s' K' P (rk - 1) (cnt + 1) Fo ∧ ScEv k s s' K K' m m' ∧ ∀ b, Fo b → w'.heap[b]? = w.heap[b]? := by
  obtain ⟨cc, c0, c1, hs⟩ := h.po.st
  obtain ⟨O, Dp, hk, hO, hS, hD, hF⟩ := h.ma
  have hl := h.po.lt
  have lo := h.po.lo
  have hB : B ≤ w.heap.size := Nat.le_trans lo.2.2 h.po.bel.size
  refine (step_zk h.po.ok hk hs h.po.mp hS hD (fun hh => by have := hO N hh; have := h.nb; omega) h.po.ns.1 h.po.ns.2 h.zw h.po.ww h0 h1 c0 (by omega) (by omega)).mono ?_
  rintro e w' ⟨rfl, ⟨O', D', hk', ho', hd'⟩, hs', u⟩
  obtain ⟨⟨A', s', K', hsc, hev⟩, _⟩ := h.sc.step hp (by omega)
  obtain ⟨e1, e2, e3⟩ := h.kz
  rw [e1, e2, e3] at hsc hev
  have hfo : ∀ b, Fo b → w'.heap[b]? = w.heap[b]? := fun b hb => by
    obtain ⟨f1, f2, f3, f4, f5⟩ := h.fo b hb
    exact u.block b f5 (fun e => by rcases e with e | e | e; exact f2 e; exact f3 e; exact hF b hb (hk.ins.2.1 b e))
  have hO' : ∀ b, O' b → B ≤ b := fun b hb => by
    rcases ho' b hb with x | x
    · exact hO b x
    · omega
  refine ⟨_, A', _, s', K', rfl, ⟨⟨⟨zcost m cc, ?_, ?_, hs'⟩, IsMap_same h.po.mp u.size (u.block N hl.2.2 (fun e => by rcases e with e | e | e; exact h.po.ns.1 e; exact h.po.ns.2 e; have := hO N e; have := h.nb; omega)), h.po.ok, h.po.ns, h.po.lo, (h.zw.step h.po.ok h.po.ww).2, below_uf h.po.bel lo.2.2 u (fun b hb => by rcases hb with rfl | rfl | hb; exact lo.1; exact lo.2.1; exact hO b hb)⟩,
    ⟨O', D', hk', hO', fun hh => ?_, fun hh => ?_, fun b hb hh => ?_⟩, fun b hb => ?_, h.nb, (h.zw.step h.po.ok h.po.ww).1, hsc, h.kz, (zstp_len ..).trans h.ln⟩, hev, hfo⟩
  · unfold zcost; split <;> omega
  · unfold zcost; split <;> omega
  · rcases hd' S hh with x | x
    · exact hS x
    · omega
  · rcases hd' D hh with x | x
    · exact hD x
    · omega
  · rcases hd' b hh with x | x
    · exact hF b hb x
    · have := (h.fo b hb).2.2.2.2; omega
  · obtain ⟨f1, f2, f3, f4, f5⟩ := h.fo b hb
    exact ⟨f1, f2, f3, f4, Nat.lt_of_lt_of_le f5 u.size⟩
/-- When it has ended, a step does nothing more. -/
theorem SY.again (h : SY B S D N c w0 w X mk k L i A m s K P rk cnt Fo) (hp : m.pc = 0) (h0 : 0 ≤ mk) (h1 : mk < c.mr) (hi : i ≤ 90000) (hc : cnt ≤ 800000000) :
    Calls Tryz.prog 17 #[ptr X, ptr S] w fun e w' => e = .returned (.bool true) ∧ PO B S D N c w0 w' L (cnt + 1) ∧ ∀ b, Fo b → w'.heap[b]? = w.heap[b]? := by
  obtain ⟨cc, c0, c1, hs⟩ := h.po.st
  obtain ⟨O, Dp, hk, hO, hS, hD, hF⟩ := h.ma
  have hl := h.po.lt
  have lo := h.po.lo
  have ez : zstp (zgOf c) (gOf c) (aNew (eOf c mk)) L m = (L, { m with ek := 0, ea := 0, eb := 0 }) := by simp [zstp, hp]
  refine (step_zk h.po.ok hk hs h.po.mp hS hD (fun hh => by have := hO N hh; have := h.nb; omega) h.po.ns.1 h.po.ns.2 h.zw h.po.ww h0 h1 c0 (by omega) (by omega)).mono ?_
  rw [ez]
  rintro e w' ⟨rfl, ⟨O', D', hk', ho', hd'⟩, hs', u⟩
  refine ⟨by simp [hp], ⟨⟨zcost m cc, ?_, ?_, hs'⟩, IsMap_same h.po.mp u.size (u.block N hl.2.2 (fun e => by rcases e with e | e | e; exact h.po.ns.1 e; exact h.po.ns.2 e; have := hO N e; have := h.nb; omega)), h.po.ok, h.po.ns, h.po.lo, h.po.ww, below_uf h.po.bel lo.2.2 u (fun b hb => by rcases hb with rfl | rfl | hb; exact lo.1; exact lo.2.1; exact hO b hb)⟩, fun b hb => ?_⟩
  · unfold zcost; split <;> omega
  · unfold zcost; split <;> omega
  · obtain ⟨f1, f2, f3, f4, f5⟩ := h.fo b hb
    exact u.block b f5 (fun e => by rcases e with e | e | e; exact f2 e; exact f3 e; exact hF b hb (hk.ins.2.1 b e))
theorem SY.event (h : SY B S D N c w0 w X mk k L i A m s K P rk cnt Fo) : Calls Tryz.prog 19 #[ptr X] w fun a w' => a = .returned (evV m.ek m.ea m.eb) ∧ SY B S D N c w0 w' X mk k L i A m s K P rk cnt Fo ∧ Below w.heap.size w w' := by
  obtain ⟨O, Dp, hk, _⟩ := h.ma
  refine hk.event.mono ?_
  rintro e w' ⟨rfl, hb⟩
  exact ⟨rfl, h.below hb, hb⟩
/-- It begins. -/
theorem new_zy (h : PO B S D N c w0 w L cnt) (i tk cy : Int) (h0 : 0 ≤ tk) (h1 : tk ≤ 18446744073709551615) (c0 : Cm) (d0 : Am) :
    Calls Tryz.prog 14 #[Lay.mapP N, .int .i64 i, .int .u64 tk, .int .u64 cy] w fun e w' => ∃ X, e = .returned (ptr X) ∧ (∃ O Dp, ZKM w' X O Dp c N i (zNew (tk / 4294967296) (tk % 4294967296) cy c0 d0) ∧ ∀ b, Dp b → w.heap.size ≤ b) ∧ PO B S D N c w0 w' L cnt ∧ Below w.heap.size w w' := by
  refine (newZ_map N i tk cy h0 h1 w).mono ?_
  rintro e w' ⟨X, rfl, hX, hz, hb⟩
  have hl := h.lt
  exact ⟨X, rfl, ⟨fun k => k = X, fun k => k = X, zkm_new hz (by omega) c0 d0, fun b e => by omega⟩, h.step hb, hb⟩
end
/-- All words, as a row. -/
theorem all_row {B S D N : Nat} {c : Cfg} {w0 w : World} {L : List Int} {k : Int} (h : PO B S D N c w0 w L k) (hl : L.length ≤ 1000000) :
    Calls Tryz.prog 13 #[ptr S] w fun a w' => a = .returned (.slice (some ⟨w.heap.size, 0, none⟩) L.length L.length) ∧ Row w' w.heap.size L ∧ PO B S D N c w0 w' L k ∧ Below w.heap.size w w' := by
  obtain ⟨cc, h0, h1, hs⟩ := h.st
  refine (all_any w hs hl).mono ?_
  rintro a w1 ⟨rfl, hr, hb⟩
  exact ⟨rfl, hr, h.step hb, hb⟩
/-- How many of some nodes have lesser numbers. -/
def belowK (K : List Int) (q : Int) : Nat := (K.filter fun x => decide (x < q)).length
theorem belowK_all {K : List Int} {q : Int} (h : ∀ u ∈ K, u < q) : belowK K q = K.length := by
  unfold belowK; rw [List.filter_eq_self.2 (fun a ha => by simpa using h a ha)]
theorem belowK_one {K : List Int} (h : ∀ u ∈ K, 1 ≤ u) : belowK K 1 = 0 := by
  unfold belowK
  rw [List.length_eq_zero_iff, List.filter_eq_nil_iff]
  intro a ha; have := h a ha; simp; omega
theorem belowK_succ {q : Int} : ∀ {K : List Int}, K.Nodup → belowK K (q + 1) = belowK K q + (if q ∈ K then 1 else 0)
  | [], _ => by simp [belowK]
  | a :: K, hn => by
    have hn2 := List.nodup_cons.1 hn
    have ih := belowK_succ (q := q) hn2.2
    have e : ∀ q : Int, belowK (a :: K) q = (if a < q then 1 else 0) + belowK K q := fun q => by
      unfold belowK
      by_cases h : a < q
      · simp [List.filter_cons, h]; omega
      · simp [List.filter_cons, h]
    rw [e, e, ih]
    by_cases h : a = q
    · subst h
      rw [if_pos (show a < a + 1 by omega), if_neg (Int.lt_irrefl a), if_neg hn2.1, if_pos (show a ∈ a :: K by simp)]; omega
    · have h2 : (q ∈ a :: K) ↔ q ∈ K := by simp [Ne.symm h]
      by_cases h3 : a < q
      · rw [if_pos (by omega), if_pos h3]; simp [h2]; omega
      · rw [if_neg (by omega), if_neg h3]; simp [h2]
end Go.Proofs.YtpocihddecemfaaGreat

namespace Go.Proofs.YtpocihddecemfaaGreat
open Go.RowKit
set_option linter.unusedVariables false
set_option linter.unusedSimpArgs false
set_option maxRecDepth 100000
open Lay (plcc plc shOf packN nodesN OkC Cfg Norm firstV Rep lenL slotsOf kindV)

theorem len_7000 {c : Cfg} (hc : OkC c) : lenL (shOf c) ≤ 7000 := by have := Lay.lenL_eq hc; have := (Lay.bds hc).t55'; omega
theorem QI.at' {o : Option Nat} {w : World} {l : List Int} {b off n cap : Nat} (h : QI o w (.slice (some ⟨b, off, none⟩) n cap) l) {j : Nat} (hj : j < l.length) : w.cell? ⟨b, off + j, none⟩ = some (.int .i64 (l.getD j 0)) := by
  obtain ⟨b', off', cap', _, hv, _, _, hc⟩ := h.cell (by omega)
  simp only [Value.slice.injEq, Option.some.injEq, Addr.mk.injEq] at hv
  obtain ⟨⟨rfl, rfl, _⟩, _, _⟩ := hv
  exact hc j hj
def FoA (o o2 : Option Nat) (WB : Nat) : Nat → Prop := fun b => o = some b ∨ b = WB ∨ o2 = some b
/-- Three rows, apart. -/
structure RW3 (o : Option Nat) (WB : Nat) (v : Value) (l L0 : List Int) (w : World) (o2 : Option Nat) (v2 : Value) (G : List Int) : Prop where
  qw : QI o w v l
  qg : QI o2 w v2 G
  ro : Row w WB L0
  ap : ∀ b, o2 = some b → o ≠ some b ∧ b ≠ WB
section
variable {B S D N X WB : Nat} {c : Cfg} {k : Zk} {o o2 : Option Nat} {v v2 v2' : Value} {l L0 G G' L K : List Int} {w w' w0 : World} {i s rk cnt : Int} {A : Nat} {m : Zm}
theorem RW3.same (h : RW3 o WB v l L0 w o2 v2 G) (hk : ∀ b, FoA o o2 WB b → w'.heap[b]? = w.heap[b]?) : RW3 o WB v l L0 w' o2 v2 G :=
  ⟨h.qw.same fun b e => hk b (.inl e), h.qg.same fun b e => hk b (.inr (.inr e)), (hk WB (.inr (.inl rfl))).trans h.ro, h.ap⟩
theorem RW3.below (h : RW3 o WB v l L0 w o2 v2 G) (hb : Below w.heap.size w w') : RW3 o WB v l L0 w' o2 v2 G :=
  ⟨h.qw.below hb, h.qg.below hb, h.ro.below hb, h.ap⟩
theorem RW3.got (h : RW3 o WB v l L0 w o2 v2 G) (g : GrewI o2 w w' v2' G') : ∃ b, RW3 o WB v l L0 w' (some b) v2' G' ∧ Upd b b w w' ∧ (o2 = some b ∨ w.heap.size ≤ b) ∧ b < w'.heap.size := by
  obtain ⟨b, hor, hq, u⟩ := g
  have n1 : ∀ x, o = some x → x ≠ b := fun x e h2 => by
    subst h2
    rcases hor with h3 | h3
    · exact (h.ap x h3).1 e
    · have := h.qw.lt x e; omega
  have n2 : WB ≠ b := fun h2 => by
    subst h2
    rcases hor with h3 | h3
    · exact (h.ap _ h3).2 rfl
    · have := h.ro.lt; omega
  refine ⟨b, ⟨h.qw.same fun x e => u.block x (h.qw.lt x e) (n1 x e) (n1 x e), hq, (u.block WB h.ro.lt n2 n2).trans h.ro, fun x e => ?_⟩, u, hor, hq.lt b rfl⟩
  obtain rfl := Option.some.inj e
  exact ⟨fun e2 => n1 _ e2 rfl, Ne.symm n2⟩
/-- The machine and the rows. -/
structure YG (B S D N : Nat) (c : Cfg) (w0 : World) (k : Zk) (X : Nat) (o : Option Nat) (WB : Nat) (v : Value) (l L0 : List Int) (w : World) (L : List Int) (i : Int) (A : Nat) (m : Zm) (s : Int) (K : List Int) (rk cnt : Int) (o2 : Option Nat) (v2 : Value) (G : List Int) : Prop where
  sy : SY B S D N c w0 w X 0 k L i A m s K (fun _ => False) rk cnt (FoA o o2 WB)
  rw' : RW3 o WB v l L0 w o2 v2 G
/-- The memory and the rows. -/
structure YE (B S D N : Nat) (c : Cfg) (w0 : World) (o : Option Nat) (WB : Nat) (v : Value) (l L0 : List Int) (w : World) (L : List Int) (cnt : Int) (o2 : Option Nat) (v2 : Value) (G : List Int) : Prop where
  po : PO B S D N c w0 w L cnt
  rw' : RW3 o WB v l L0 w o2 v2 G
  fo : ∀ b, FoA o o2 WB b → b ≠ S ∧ b ≠ D
theorem YG.below (h : YG B S D N c w0 k X o WB v l L0 w L i A m s K rk cnt o2 v2 G) (hb : Below w.heap.size w w') : YG B S D N c w0 k X o WB v l L0 w' L i A m s K rk cnt o2 v2 G := ⟨h.sy.below hb, h.rw'.below hb⟩
theorem YG.more {rk' cnt' : Int} (h : YG B S D N c w0 k X o WB v l L0 w L i A m s K rk cnt o2 v2 G) (h1 : rk ≤ rk') (h2 : cnt ≤ cnt') : YG B S D N c w0 k X o WB v l L0 w L i A m s K rk' cnt' o2 v2 G := ⟨h.sy.more h1 h2, h.rw'⟩
theorem YG.step (h : YG B S D N c w0 k X o WB v l L0 w L i A m s K rk cnt o2 v2 G) (hp : m.pc ≠ 0) (h1 : 0 < c.mr) (hi : i ≤ 90000) (hc : cnt ≤ 800000000) :
    Calls Tryz.prog 17 #[ptr X, ptr S] w fun e w' => ∃ L' A' m' s' K', e = .returned (.bool (decide (m'.pc = 0))) ∧ YG B S D N c w0 k X o WB v l L0 w' L' (i + 1) A' m' s' K' (rk - 1) (cnt + 1) o2 v2 G ∧ ScEv k s s' K K' m m' := by
  refine (h.sy.step hp (Int.le_refl _) h1 hi hc).mono ?_
  rintro e w1 ⟨L', A', m', s', K', rfl, hs, hev, hk⟩
  exact ⟨L', A', m', s', K', rfl, ⟨hs, h.rw'.same hk⟩, hev⟩
theorem YG.event (h : YG B S D N c w0 k X o WB v l L0 w L i A m s K rk cnt o2 v2 G) : Calls Tryz.prog 19 #[ptr X] w fun a w' => a = .returned (evV m.ek m.ea m.eb) ∧ YG B S D N c w0 k X o WB v l L0 w' L i A m s K rk cnt o2 v2 G := by
  refine h.sy.event.mono ?_
  rintro e w1 ⟨rfl, hs, hb⟩
  exact ⟨rfl, hs, h.rw'.below hb⟩
theorem YG.got (h : YG B S D N c w0 k X o WB v l L0 w L i A m s K rk cnt o2 v2 G) (g : GrewI o2 w w' v2' G') : ∃ b, YG B S D N c w0 k X o WB v l L0 w' L i A m s K rk cnt (some b) v2' G' := by
  obtain ⟨b, hr, u, hor, hlt⟩ := h.rw'.got g
  refine ⟨b, h.sy.grow u (hor.imp (fun e => .inr (.inr e)) id) (fun x hx => ?_) hlt, hr⟩
  rcases hx with hx | hx | hx
  · exact .inl (.inl hx)
  · exact .inl (.inr (.inl hx))
  · exact .inr (Option.some.inj hx).symm
theorem YG.again (h : YG B S D N c w0 k X o WB v l L0 w L i A m s K rk cnt o2 v2 G) (hp : m.pc = 0) (h1 : 0 < c.mr) (hi : i ≤ 90000) (hc : cnt ≤ 800000000) :
    Calls Tryz.prog 17 #[ptr X, ptr S] w fun e w' => e = .returned (.bool true) ∧ YE B S D N c w0 o WB v l L0 w' L (cnt + 1) o2 v2 G := by
  refine (h.sy.again hp (Int.le_refl _) h1 hi hc).mono ?_
  rintro e w1 ⟨rfl, hs, hk⟩
  exact ⟨rfl, hs, h.rw'.same hk, fun b hb => ⟨(h.sy.fo b hb).2.1, (h.sy.fo b hb).2.2.1⟩⟩
theorem YE.below (h : YE B S D N c w0 o WB v l L0 w L cnt o2 v2 G) (hb : Below w.heap.size w w') : YE B S D N c w0 o WB v l L0 w' L cnt o2 v2 G := ⟨h.po.step hb, h.rw'.below hb, h.fo⟩
theorem YE.more {cnt' : Int} (h : YE B S D N c w0 o WB v l L0 w L cnt o2 v2 G) (h2 : cnt ≤ cnt') : YE B S D N c w0 o WB v l L0 w L cnt' o2 v2 G := ⟨h.po.more h2, h.rw', h.fo⟩
theorem YE.lt (h : YE B S D N c w0 o WB v l L0 w L cnt o2 v2 G) : ∀ b, FoA o o2 WB b → b < w.heap.size := fun b hb => by
  rcases hb with e | rfl | e
  · exact h.rw'.qw.lt b e
  · exact h.rw'.ro.lt
  · exact h.rw'.qg.lt b e
theorem YE.load (h : YE B S D N c w0 o WB v l L0 w L cnt o2 v2 G) (at' : Int) (hk : cnt ≤ 900000000) : Calls Tryz.prog 27 #[ptr S, .int .i64 at'] w fun a w' => a = .returned (.int .u64 (ldq L at')) ∧ YE B S D N c w0 o WB v l L0 w' L (cnt + 1) o2 v2 G := by
  refine (load_po h.po at' hk).mono ?_
  rintro a w1 ⟨rfl, hp, uf⟩
  exact ⟨rfl, hp, h.rw'.same fun b hb => uf.block b (h.lt b hb) (fun e => by have := h.fo b hb; omega), h.fo⟩
theorem new_yg {tk cy : Int} (hq : QI o w v l) (hr : Row w WB L0) (hf : ∀ b, (o = some b ∨ b = WB) → B ≤ b ∧ b ≠ S ∧ b ≠ D ∧ b ≠ N) (hpo : PO B S D N c w0 w L cnt) (hn : N < B)
    (zw : ZW c 0 (zNew (tk / 4294967296) (tk % 4294967296) cy cp00 aIdle)) (sc : SC k L 0 0 (zNew (tk / 4294967296) (tk % 4294967296) cy cp00 aIdle) s [] (fun _ => False) rk) (kz : k.z = zgOf c ∧ k.g = gOf c ∧ k.e = eOf c 0) (ln : L.length = lenL (shOf c)) (h0 : 0 ≤ tk) (h1 : tk ≤ 18446744073709551615) :
    Calls Tryz.prog 14 #[Lay.mapP N, .int .i64 0, .int .u64 tk, .int .u64 cy] w fun e w' => ∃ X, e = .returned (ptr X) ∧ YG B S D N c w0 k X o WB v l L0 w' L 0 0 (zNew (tk / 4294967296) (tk % 4294967296) cy cp00 aIdle) s [] rk cnt none (.slice none 0 0) [] ∧ Below w.heap.size w w' := by
  refine (new_zy hpo 0 tk cy h0 h1 cp00 aIdle).mono ?_
  rintro e w1 ⟨X, rfl, ⟨O, Dp, hz, hD⟩, hp, hb⟩
  have hl := hpo.lt
  have hsz := hpo.bel.size
  have hlo := hpo.lo.2.2
  have lt : ∀ b, FoA o none WB b → b < w.heap.size := fun b hb => by
    rcases hb with e | rfl | e
    · exact hq.lt b e
    · exact hr.lt
    · cases e
  have ff : ∀ b, FoA o none WB b → B ≤ b ∧ b ≠ S ∧ b ≠ D ∧ b ≠ N := fun b hb => by
    rcases hb with e | e | e
    · exact hf b (.inl e)
    · exact hf b (.inr e)
    · cases e
  refine ⟨X, rfl, ⟨⟨hp, ⟨O, Dp, hz, fun b e => ?_, fun e => ?_, fun e => ?_, fun b hb e => ?_⟩, fun b hb2 => ?_, hn, zw, sc, kz, ln⟩, hq.below hb, QI.nil _, hr.below hb, fun b e => by cases e⟩, hb⟩
  · have := hD b (hz.ins.2.1 b e); omega
  · have := hD _ e; omega
  · have := hD _ e; omega
  · have := hD _ e; have := lt b hb; omega
  · obtain ⟨a, b', d, e⟩ := ff b hb2
    exact ⟨a, b', d, e, Nat.lt_of_lt_of_le (lt b hb2) hb.size⟩
end
/-- When a task that nobody disturbed has ended. -/
theorem SC.done {k : Zk} {L : List Int} {i rk : Int} {A : Nat} {m : Zm} {s : Int} {K : List Int} (h : SC k L i A m s K (fun _ => False) rk) (hp : m.pc = 0) :
    s = k.T ∧ K = wlist k (k.T - k.b).toNat ∧ K.Nodup ∧ (∀ u ∈ K, k.nd u ∧ ldq L (k.z.ma u) = k.cy ∧ k.M0 u < k.cy) ∧ (∀ u, k.nd u → u ∉ K → ldq L (k.z.ma u) = k.M0 u) ∧ ldq L k.z.wk = (k.w0 + K.length + k.more + 18446744073709551615) % 18446744073709551616 := by
  have hs := h.s6 (.inr hp)
  have hsd : sdone m s = k.T := by unfold sdone; rw [if_neg (by omega)]; exact hs
  have kw := h.kw (fun _ hh => hh)
  rw [hsd] at kw
  have ld : ∀ u, k.nd u → ldq L (k.z.ma u) = L.getD (k.z.ma u).toNat 0 := fun u hn => by
    obtain ⟨m0, m1, _⟩ := h.ok.ma _ hn.1 hn.2
    rw [ld_in ⟨m0, m1⟩]
  refine ⟨hs, kw, h.kn.1, fun u hu => ?_, fun u hn hu => ?_, (h.fin hp).2⟩
  · obtain ⟨a, b, d⟩ := h.kn.2 u hu
    exact ⟨⟨a, b⟩, by rw [ld u ⟨a, b⟩]; exact (h.wds.ma u ⟨a, b⟩).1 (.inl hu), d⟩
  · rw [ld u hn]
    exact (h.wds.ma u hn).2 (fun e => e.elim hu id)
end Go.Proofs.YtpocihddecemfaaGreat
