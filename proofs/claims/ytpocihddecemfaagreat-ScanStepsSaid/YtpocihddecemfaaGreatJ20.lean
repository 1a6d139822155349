/-  -/
import Derived.Test.YtpocihddecemfaaGreatAdK
import Derived.Test.YtpocihddecemfaaGreatJ7
import Derived.Test.YtpocihddecemfaaGreatJ16
import Derived.Test.YtpocihddecemfaaGreatJ18
import Derived.Test.YtpocihddecemfaaGreatJ14
import Derived.Test.YtpocihddecemfaaGreatJ1
import Derived.Test.YtpocihddecemfaaGreatRefAn
import Derived.Test.YtpocihddecemfaaGreatJ22
import Derived.Test.YtpocihddecemfaaGreatRefCl
import Derived.Test.YtpocihddecemfaaGreatJ27
namespace Go.Proofs.YtpocihddecemfaaGreat
open Go.RowKit
set_option linter.unusedVariables false
set_option linter.unusedSimpArgs false
set_option maxRecDepth 100000
open Lay (plcc plc shOf packN nodesN OkC Cfg Norm firstV Rep lenL things)
section
variable {B S D N : Nat} {c : Cfg} {w0 w w' w1 : World} {L : List Int} {k mk i : Int} {l Q : List Int}
theorem astp_len (g : Pg) (L : List Int) (m : Am) : (astp g L m).1.length = L.length := by
  have hs : ∀ m : Sm, (sstp L m).1.length = L.length := fun m => by
    unfold sstp swapS
    repeat' (first | rfl | exact pt_len _ _ _ | refine ite_ind (P := fun z : List Int × Sm => z.1.length = L.length) ?_ ?_)
  have hp : ∀ m : Pm, (pstp g L m).1.length = L.length := fun m => by
    unfold pstp
    repeat' (first | rfl | exact hs _ | exact pt_len _ _ _ | refine ite_ind (P := fun z : List Int × Pm => z.1.length = L.length) ?_ ?_)
  have hd : ∀ m : Dg.Mc, (Dg.stp L m).1.length = L.length := fun m => by
    unfold Dg.stp Dg.pushS Dg.popS Dg.stealS
    repeat' (first | rfl | exact pt_len _ _ _ | refine ite_ind (P := fun z : List Int × Dg.Mc => z.1.length = L.length) ?_ ?_)
  unfold astp
  repeat' (first | rfl | exact hd _ | exact hp _ | refine ite_ind (P := fun z : List Int × Am => z.1.length = L.length) ?_ ?_)
end
end Go.Proofs.YtpocihddecemfaaGreat

namespace Go.Proofs.YtpocihddecemfaaGreat
open Go.RowKit
set_option linter.unusedVariables false
def SomeSame (xs ys : List Int) (w : World) (e : Ending) (w' : World) : Prop := ∃ b : Bool, (b = true ↔ xs = ys) ∧ e = .returned (.bool b) ∧ Below w.heap.size w w'
set_option maxHeartbeats 2000000 in
theorem same_any (A A' : Option Addr) (cap cap' n m : Nat) (xs ys : List Int) (w : World) (hn : n = xs.length) (hm : m = ys.length) (h : Reads .u64 w A xs) (h' : Reads .u64 w A' ys) (hb : n ≤ 1000000) (hb' : m ≤ 1000000) :
    Calls Tryz.prog 20 #[.slice A n cap, .slice A' m cap'] w (SomeSame xs ys w) := by
  have HN := Lib.hid hn; clear hn
  have HM := Lib.hid hm; clear hm
  by_cases hnm : n = m
  · subst hnm
    have HR := Lib.hid h; clear h
    have HR' := Lib.hid h'; clear h'
    go_enter Tryz.func20, Tryz.ntmps20
    go_wp2
    go_loopw [5] (fun i wr => ∃ k : Nat, k ≤ n ∧ i = .int .i64 k ∧ (∀ j, j < k → xs.getD j 0 = ys.getD j 0) ∧ Below w.heap.size w wr) (fun i _ => n - (intOf i).toNat)
    case atStart => exact ⟨0, Nat.zero_le _, rfl, fun j h => by omega, Below.refl _ _⟩
    case round =>
      obtain ⟨k, hk, rfl, hs, hbe⟩ := hrel
      have HS := Lib.hid hs; clear hs
      by_cases hlt : k < n
      · obtain ⟨b, off, rfl, hbl, hc⟩ := HR.out (by have := HN.out; omega)
        obtain ⟨b', off', rfl, hbl', hc'⟩ := HR'.out (by have := HM.out; omega)
        have c1 := (hbe.cell (p := ⟨b, off + k, none⟩) hbl).trans (hc k (by have := HN.out; omega))
        have d1 := (hbe.cell (p := ⟨b', off' + k, none⟩) hbl').trans (hc' k (by have := HM.out; omega))
        obtain ⟨p, hp⟩ : ∃ p, p = xs.getD k 0 := ⟨_, rfl⟩
        obtain ⟨q, hq⟩ : ∃ q, q = ys.getD k 0 := ⟨_, rfl⟩
        rw [← hp] at c1
        rw [← hq] at d1
        have HP := Lib.hid hp; clear hp hc
        have HQ := Lib.hid hq; clear hq hc'
        have HB := Lib.hid hbe; clear hbe
        have hk0 : (0 : Int) ≤ (k : Int) := by omega
        have hk1 : (k : Int) < (n : Int) := by omega
        by_cases e : p = q
        · have ht : (p != q) = false := by simp [e]
          have HE := Lib.hid e; clear e
          go_wp2
          go_quiet (fail)
          go_wp2
          go_roundw
          case rel =>
            refine ⟨k + 1, by omega, by go_num, fun j hj => ?_, below_drewN HB.out _⟩
            by_cases e2 : j = k
            · subst e2; rw [← HP.out, ← HQ.out, HE.out]
            · exact HS.out j (by omega)
          case measure => simp [intOf]; omega
        · have ht : (p != q) = true := by simp [e]
          have HE := Lib.hid e; clear e
          go_wp2
          go_quiet (fail)
          go_wp2
          go_ret
          exact ⟨false, ⟨fun h => by simp at h, fun h => absurd (by rw [HP.out, HQ.out, h]) HE.out⟩, rfl, below_drewN HB.out _⟩
      · obtain rfl : k = n := by omega
        go_wp2
        go_ret
        exact ⟨true, ⟨fun _ => ints_ext _ _ (by rw [← HN.out, ← HM.out]) (by rw [← HN.out]; exact HS.out), fun _ => rfl⟩, rfl, hbe⟩
  · have hne : ((n : Int) != (m : Int)) = true := by simp; omega
    have hne2 : (n != m) = true := by simp; omega
    have HE := Lib.hid hnm; clear hnm
    go_enter Tryz.func20, Tryz.ntmps20
    go_wp2
    go_ret
    exact ⟨false, ⟨fun h => by simp at h, fun h => absurd (by rw [HN.out, HM.out, h]) HE.out⟩, rfl, Below.refl _ _⟩
theorem same_yes (A A' : Option Addr) (cap cap' n m : Nat) (l : List Int) (w : World) (hn : n = l.length) (hm : m = l.length) (h : Reads .u64 w A l) (h' : Reads .u64 w A' l) (hb : n ≤ 1000000) :
    Calls Tryz.prog 20 #[.slice A n cap, .slice A' m cap'] w fun e w' => e = .returned (.bool true) ∧ Below w.heap.size w w' :=
  (same_any A A' cap cap' n m l l w hn hm h h' hb (by omega)).mono fun e w' ⟨b, hbt, he, hw⟩ => ⟨by rw [he, hbt.2 rfl], hw⟩
end Go.Proofs.YtpocihddecemfaaGreat

namespace Go.Proofs.YtpocihddecemfaaGreat
open Go.RowKit
set_option linter.unusedVariables false
set_option linter.unusedSimpArgs false
set_option maxRecDepth 100000
set_option linter.unnecessarySimpa false
open Lay (plcc plc shOf packN nodesN OkC Cfg Norm firstV Rep lenL things)
theorem RPm.uf {P Q : Nat → Prop} {F : Nat → Prop} {w w' : World} {m : Pm} {v : Value} (h : RPm P w m v) (u : UF F w w') (hP : ∀ b, P b → b < w.heap.size → ¬ F b ∧ Q b) : RPm Q w' m v := by
  obtain ⟨T, tn, tc, A, n, cap, e, h1, h2, h3, h4, h5, h6⟩ := h
  have key : ∀ {k : IntKind} {A : Option Addr} {zs : List Int}, Reads k w A zs → (0 < zs.length → ∀ a, A = some a → P a.block) → Reads k w' A zs ∧ (0 < zs.length → ∀ a, A = some a → Q a.block) := fun {k A zs} r p => by
    refine ⟨fun h0 => ?_, fun h0 a ea => ?_⟩
    · obtain ⟨b, off, e, hlt, hc⟩ := r h0
      have := hP b (p h0 _ e) hlt
      exact ⟨b, off, e, Nat.lt_of_lt_of_le hlt u.size, fun j hj => (World.cell?_of_block (w := w) (a := ⟨b, off + j, none⟩) (u.block b hlt this.1)).trans (hc j hj)⟩
    · obtain ⟨b, off, e, hlt, hc⟩ := r h0
      have := hP b (p h0 _ e) hlt
      rw [e] at ea; cases ea; exact this.2
  exact ⟨T, tn, tc, A, n, cap, e, h1, (key h2 h5).1, h3, (key h4 h6).1, (key h2 h5).2, (key h4 h6).2⟩
theorem RAm.uf {P Q : Nat → Prop} {F : Nat → Prop} {w w' : World} {m : Am} {v : Value} (h : RAm P w m v) (u : UF F w w') (hP : ∀ b, P b → b < w.heap.size → ¬ F b ∧ Q b) : RAm Q w' m v := by
  obtain ⟨d0, d1, d2, d3, d4, d5, d6, d7, d8, d10, d9, p0, p1, p3, p4, p5, p6, p7, p9, p10, p11, p12, T, tn, tc, LA, ln, lc, e, h1, h2⟩ := h
  exact ⟨d0, d1, d2, d3, d4, d5, d6, d7, d8, d10, d9, p0, p1, p3, p4, p5, p6, p7, p9, p10, p11, p12, T, tn, tc, LA, ln, lc, e, h1, fun k => (h2 k).uf u hP⟩
structure V27 (m : Am) (V : Array Value) : Prop where
  size : V.size = 27
  one : V.all (·.oneCell') = true
  c0 : V[0]? = some (.int .i64 m.pc)
  c26 : V[26]? = some (.bool m.sp)
theorem RAm.cells {Q : Nat → Prop} {w : World} {m : Am} {v : Value} (h : RAm Q w m v) : ∃ V, v = .agg V ∧ V27 m V := by
  obtain ⟨d0, d1, d2, d3, d4, d5, d6, d7, d8, d10, d9, p0, p1, p3, p4, p5, p6, p7, p9, p10, p11, p12, T, tn, tc, LA, ln, lc, rfl, h1, h2⟩ := h
  exact ⟨_, rfl, rfl, by simp only [List.all_toArray, List.all_cons, List.all_nil, Value.oneCell', Bool.and_self], rfl, rfl⟩
theorem rng27 {w : World} {B : Nat} {V : Array Value} {T : TypeId} (h : w.heap[B]? = some (.cells V T (0, 0))) : w.rangeAt B 0 V.toList := fun j v hv => by
  rw [cell_of_row w B (0 + j) V T _ h, Nat.zero_add]
  simpa using hv
theorem there27 {w : World} {B : Nat} {V : Array Value} {T : TypeId} (h : w.heap[B]? = some (.cells V T (0, 0))) (hs : V.size = 27) : w.there B 0 27 := fun j hj => by
  refine ⟨?_, frozen_of_row w B _ _ _ h⟩
  rw [cell_of_row w B (0 + j) V T _ h, Array.getElem?_eq_getElem (by omega)]; rfl
theorem row_set {w : World} {B : Nat} {V U : Array Value} {T : TypeId} (h : w.heap[B]? = some (.cells V T (0, 0))) (hs : V.size = U.size) : (w.setCells B 0 U.toList).heap[B]? = some (.cells U T (0, 0)) ∧ Upd B B w (w.setCells B 0 U.toList) := by
  have key : ∀ (l : List Value) (o : Nat) (w : World) (V : Array Value), w.heap[B]? = some (.cells V T (0, 0)) → o + l.length = V.size →
      ∃ V', (w.setCells B o l).heap[B]? = some (.cells V' T (0, 0)) ∧ V'.size = V.size ∧ (∀ j, j < o → V'[j]? = V[j]?) ∧ (∀ j, j < l.length → V'[o + j]? = l[j]?) ∧ Upd B B w (w.setCells B o l) := by
    intro l
    induction l with
    | nil =>
      intro o w V h hl
      exact ⟨V, h, rfl, fun _ _ => rfl, fun j hj => by simp at hj, ⟨rfl, rfl, rfl, Nat.le_refl _, fun _ _ _ _ => rfl⟩⟩
    | cons v l ih =>
      intro o w V h hl
      simp only [List.length_cons] at hl
      have h1 := heap_setCell_same w B o _ T v h
      obtain ⟨V', g1, g2, g3, g4, g5⟩ := ih (o + 1) (w.setCell ⟨B, o, none⟩ v) (V.setIfInBounds o v) h1 (by simp; omega)
      refine ⟨V', g1, by rw [g2]; simp, fun j hj => ?_, fun j hj => ?_, ?_⟩
      · rw [g3 j (by omega), Array.getElem?_setIfInBounds_ne (by omega)]
      · cases j with
        | zero =>
          have ho : o < V.size := by omega
          rw [Nat.add_zero, g3 o (by omega)]; simp [ho]
        | succ j =>
          have := g4 j (by simp at hj; omega)
          rw [show o + (j + 1) = o + 1 + j by omega, this]; simp
      · have u1 : Upd B B w (w.setCell ⟨B, o, none⟩ v) := ⟨rfl, rfl, rfl, by simp, fun k hk h1 _ => heap_setCell_other w ⟨B, o, none⟩ k v h1⟩
        exact ⟨g5.os.trans u1.os, g5.tape.trans u1.tape, g5.output.trans u1.output, Nat.le_trans u1.size g5.size, fun k hk a b => (g5.block k (Nat.lt_of_lt_of_le hk u1.size) a b).trans (u1.block k hk a b)⟩
  obtain ⟨V', g1, g2, _, g4, g5⟩ := key U.toList 0 w V h (by simp [hs])
  refine ⟨?_, g5⟩
  rw [g1]
  have e : V' = U := by
    apply Array.ext_getElem?
    intro j
    by_cases hj : j < U.size
    · have := g4 j (by simpa using hj)
      rw [Nat.zero_add] at this
      rw [this]; simp
    · rw [Array.getElem?_eq_none (by omega), Array.getElem?_eq_none (by omega)]
  rw [e]
def Frx (S D YB : Nat) (O : Nat → Prop) (b : Nat) : Prop := b ≠ S ∧ b ≠ D ∧ b ≠ YB ∧ ¬ O b
theorem row_uf2 {P Q : Nat → Prop} {F : Nat → Prop} {w w' : World} {A : Option Addr} {zs : List Int} (h : ReadsW P w A zs) (u : UF F w w') (hP : ∀ b, P b → b < w.heap.size → ¬ F b ∧ Q b) : ReadsW Q w' A zs := fun h0 => by
  obtain ⟨b, off, e, hlt, hp, hc⟩ := h h0
  have := hP b hp hlt
  exact ⟨b, off, e, Nat.lt_of_lt_of_le hlt u.size, this.2, fun j hj => (World.cell?_of_block (w := w) (a := ⟨b, off + j, none⟩) (u.block b hlt this.1)).trans (hc j hj)⟩
section
variable {S D N X YB : Nat} {c : Cfg} {w7 wr w' : World} {O Dp : Nat → Prop} {V : Array Value} {m mx : Am} {L LR : List Int} {R : Option Addr} {cc t : Int}
def Fry (S D : Nat) (O : Nat → Prop) (b : Nat) : Prop := b ≠ S ∧ b ≠ D ∧ ¬ O b
end
abbrev zero27 : Array Value := #[.int .i64 0, .int .u64 0, .int .i64 0, .int .i64 0, .int .i64 0, .int .i64 0, .int .i64 0, .int .i64 0, .int .u64 0, .int .u64 0, .int .u64 0, .bool false, .int .i64 0, .int .i64 0, .int .i64 0, .slice none 0 0, .int .i64 0, .int .i64 0, .int .i64 0, .int .i64 0, .int .i64 0, .slice none 0 0, .int .u32 0, .int .u64 0, .int .u32 0, .int .i64 0, .bool false]
def Ok27 (V : Array Value) : Prop := V.size = 27 ∧ V.all (·.oneCell') = true
theorem V27.ok {m : Am} {V : Array Value} (h : V27 m V) : Ok27 V := ⟨h.size, h.one⟩
def new27w (w : World) (V : Array Value) : World := (w.alloc (.cells zero27 60)).setCells w.heap.size 0 V.toList
theorem new27_below {w : World} {V : Array Value} (h : Ok27 V) : Below w.heap.size w (new27w w V) := by
  have h0 := Go.heap_alloc_new w (.cells zero27 60)
  obtain ⟨g, u⟩ := row_set (U := V) h0 (by rw [h.1]; rfl)
  exact below_uf (below_alloc0 (Below.refl _ _) _) (Nat.le_refl _) (UF.of_upd u) (fun k e => by rcases e with e | e <;> exact Nat.le_of_eq e.symm)
theorem new27_row {w : World} {V : Array Value} (h : Ok27 V) : (new27w w V).heap[w.heap.size]? = some (.cells V 60 (0, 0)) := by
  have h0 := Go.heap_alloc_new w (.cells zero27 60)
  exact (row_set (U := V) h0 (by rw [h.1]; rfl)).1
theorem reads_fry {S D : Nat} {O : Nat → Prop} {wr w10 w11 : World} {L : List Int} (hr : Reads .u64 w10 (some ⟨wr.heap.size, 0, none⟩) L) (hb : Below w10.heap.size w10 w11) (hS : S < wr.heap.size) (hD : D < wr.heap.size) (hO : ∀ b, O b → w10.heap.size ≤ b) :
    ReadsW (Fry S D O) w11 (some ⟨wr.heap.size, 0, none⟩) L := fun h0 => by
  obtain ⟨b, off, e, hlt, hc⟩ := hr h0
  injection e with e; injection e with e1 e2 _
  subst e1; subst e2
  exact ⟨wr.heap.size, 0, rfl, Nat.lt_of_lt_of_le hlt hb.size, ⟨by omega, by omega, fun ho => by have := hO _ ho; omega⟩, fun j hj => (World.cell?_of_block (w := w10) (a := ⟨wr.heap.size, 0 + j, none⟩) (hb.block _ hlt)).trans (hc j hj)⟩
theorem wpList_load27 {m : Am} {ops : Array Oper} {rest : List Oper} {op : Oper} {a : Act} {w : World} {Q : Exit → Act → World → Prop} (hgd : op.guard = none) (x : Operand) (ho : op.op = .load 60 x) (B : Nat) (V : Array Value)
    (hx : a.eval x = .pointer (some ⟨B, 0, none⟩)) (hb : w.heap[B]? = some (.cells V 60 (0, 0))) (hv : V27 m V)
    (h : wpList Tryz.prog ops Q rest (a.put op.dst (.agg V)) w) : wpList Tryz.prog ops Q (op :: rest) a w := by
  refine wpList_load_mid hgd 60 x ho B 0 hx V.toList _ (rng27 hb) row59.choose_spec.1 row59.choose_spec.2 (by rw [show V.toList.length = 27 from by simpa using hv.size]; kernel_rfl) ?_
  simpa using h
section
variable {S D N X YB : Nat} {c : Cfg} {w7 wr w' : World} {O Dp : Nat → Prop} {V : Array Value} {m mx : Am} {L LR : List Int} {R : Option Addr} {cc t : Int}
end
theorem RAm.newZ {Q : Nat → Prop} {w : World} {m : Am} {v : Value} {V : Array Value} (h : RAm Q w m v) (hv : Ok27 V) : RAm Q (new27w w V) m v :=
  h.uf (UF.of_below (F := fun _ => False) (new27_below hv)) (fun b hb _ => ⟨fun f => f, hb⟩)
end Go.Proofs.YtpocihddecemfaaGreat

namespace Go.Proofs.YtpocihddecemfaaGreat
open Go.RowKit
set_option linter.unusedVariables false
set_option linter.unusedSimpArgs false
set_option maxRecDepth 100000
open Lay (plcc plc shOf packN nodesN OkC Cfg Norm firstV Rep lenL things)
abbrev rcV (V : Int) (m : Cm) : Value := rmV m.pc V m.cy m.k m.won
set_option maxHeartbeats 1000000 in
theorem rnew_cl (V cy : Int) (w : World) : Calls Tryz.prog 56 #[.int .i64 V, .int .u64 cy] w fun e w' => e = .returned (rmV 1 V cy 0 false) ∧ Below w.heap.size w w' := by
  go_enter Tryz.func56, Tryz.ntmps56
  go_wp2
  exact bodyPost_ret (v := rmV 1 V cy 0 false) (by simp [results, Tryz.results56, go_sem]) rfl ⟨rfl, below_alloc0 (Below.refl _ _) _⟩
theorem rstep_cl {c : Cfg} (Q : Nat → Prop) (A : Option Addr) (n cap : Nat) (P : Int) (R : Option Addr) (n' capR : Nat) (L : List Int) (V : Int) (m : Cm) (w : World)
    (hA : IsA w c A n) (hn : n' = L.length) (hn2 : n' ≤ 1000000) (hR : ReadsW Q w R L) (hQ : ∀ b, w.heap.size ≤ b → Q b) (hp : m.p = plcc c 16 V 0) (h4 : m.pc ≤ 4) (hw : m.pc ≠ 0 → m.won = false) :
    Calls Tryz.prog 57 #[aVal A n cap P, .slice R n' capR, rcV V m] w (SomeV Q w n' (cstp 1 L m).1 (rcV V (cstp 1 L m).2)) := by
  obtain ⟨pc, p, cy, k, won⟩ := m
  dsimp only at hp h4 hw
  subst hp
  have hp : pc = 0 ∨ pc = 1 ∨ pc = 2 ∨ pc = 3 ∨ pc = 4 := by omega
  rcases hp with rfl | rfl | rfl | rfl | rfl
  · have e : cstp 1 L ⟨0, plcc c 16 V 0, cy, k, won⟩ = (L, ⟨0, plcc c 16 V 0, cy, k, won⟩) := by simp [cstp]
    rw [e]
    exact rs0 (c := c) Q A n cap P R n' capR L V cy k won w hA hn hn2 hR hQ
  · have e : cstp 1 L ⟨1, plcc c 16 V 0, cy, k, won⟩ = (L, if cy ≤ ldc L (plcc c 16 V 0) then ⟨0, plcc c 16 V 0, cy, ldc L (plcc c 16 V 0), won⟩ else ⟨2, plcc c 16 V 0, cy, ldc L (plcc c 16 V 0), won⟩) := by simp [cstp]
    rw [e, ← ldv_cl]
    by_cases hc : cy ≤ ldv L (plcc c 16 V 0)
    · simp only [if_pos hc]
      exact rs1y (c := c) Q A n cap P R n' capR L V cy k won w hA hn hn2 hR hQ hc
    · simp only [if_neg hc]
      exact rs1n (c := c) Q A n cap P R n' capR L V cy k won w hA hn hn2 hR hQ hc
  · have e : cstp 1 L ⟨2, plcc c 16 V 0, cy, k, won⟩ = (adc L 1 1, ⟨3, plcc c 16 V 0, cy, k, won⟩) := by simp [cstp]
    rw [e, ← adv_eq]
    exact rs2 (c := c) Q A n cap P R n' capR L V cy k won w hA hn hn2 hR hQ
  · have hwf := hw (by simp)
    subst hwf
    by_cases hc : (0 ≤ plcc c 16 V 0 ∧ plcc c 16 V 0 < L.length) ∧ L.getD (plcc c 16 V 0).toNat 0 = k
    · have e : cstp 1 L ⟨3, plcc c 16 V 0, cy, k, false⟩ = (ptc L (plcc c 16 V 0) cy, ⟨0, plcc c 16 V 0, cy, k, true⟩) := by
        simp only [cstp]; rw [if_neg (by decide), if_neg (by decide), if_pos trivial, if_pos hc]
      rw [e]
      obtain ⟨e1, e2⟩ := sw_yes (v := cy) hc
      exact rs3y (c := c) Q A n cap P R n' capR L V cy k false w hA hn hn2 hR hQ _ e1 e2
    · have e : cstp 1 L ⟨3, plcc c 16 V 0, cy, k, false⟩ = (L, ⟨4, plcc c 16 V 0, cy, k, false⟩) := by
        simp only [cstp]; rw [if_neg (by decide), if_neg (by decide), if_pos trivial, if_neg hc]
      rw [e]
      obtain ⟨e1, e2⟩ := sw_no (v := cy) hc
      exact rs3n (c := c) Q A n cap P R n' capR L V cy k false w hA hn hn2 hR hQ _ e1 e2
  · have e : cstp 1 L ⟨4, plcc c 16 V 0, cy, k, won⟩ = (adc L 1 18446744073709551615, ⟨0, plcc c 16 V 0, cy, k, won⟩) := by simp [cstp]
    rw [e, ← adv_eq]
    exact rs4 (c := c) Q A n cap P R n' capR L V cy k won w hA hn hn2 hR hQ
section
variable {S D N X YB : Nat} {c : Cfg} {V : Int} {w7 wr w' : World} {m mx : Cm} {L LR : List Int} {R : Option Addr} {cc : Int}
end
end Go.Proofs.YtpocihddecemfaaGreat

namespace Go.Proofs.YtpocihddecemfaaGreat
set_option linter.unusedVariables false
set_option linter.unusedSimpArgs false
structure A1 (n r : Nat) (g : Pg) (e : Dg.En) (L : List Int) (i : Int) (A : Nat) (a : Am) (rk : Int) : Prop where
  ex : ∃ Ts Qs Tp Qp α Q h w, Stk n g.sp L Ts Qs ∧ Stk n g.po L Tp Qp ∧ Dg.Dq r e L 0 α α Q ∧ Ts ≤ i ∧ Tp ≤ i ∧
    At n r g e L Ts Qs Tp Qp α Q a h w ∧ (Qs ++ (Qp ++ h)).Perm (En n) ∧ Q.length + Qp.length + w.length = A ∧ adue Ts Tp a ≤ rk
  G : Gp n L.length g
  d2 : ∀ q, InE r e q → ¬ InP n g q
  An : A ≤ n
  A9 : A ≤ 100
section
variable {n r : Nat} {g : Pg} {e : Dg.En} {L L' : List Int} {i j rk rk' : Int} {A : Nat} {a : Am}
end
end Go.Proofs.YtpocihddecemfaaGreat

namespace Go.Proofs.YtpocihddecemfaaGreat
set_option linter.unusedVariables false
set_option linter.unusedSimpArgs false
structure Zk where
  n : Nat
  r : Nat
  z : Zg
  g : Pg
  e : Dg.En
  v : Int
  b : Int
  T : Int
  cy : Int
  w0 : Int
  W : Int → Int
  M0 : Int → Int
  more : Int
  A0 : Nat
  q : Nat
def aIdle : Am := ⟨0, 0, Dg.mPush ⟨0, 0, 0, 0⟩ 0, pnone, false⟩
section
variable {k : Zk} {L : List Int} {i rk : Int} {A : Nat} {m : Zm} {s : Int} {K : List Int} {P : Int → Prop}
end
end Go.Proofs.YtpocihddecemfaaGreat

namespace Go.Proofs.YtpocihddecemfaaGreat
set_option linter.unusedVariables false
set_option linter.unusedSimpArgs false
section
variable {k : Zk} {L : List Int} {i rk : Int} {A : Nat} {m : Zm} {s : Int} {K : List Int} {P : Int → Prop}
theorem adc_len (L : List Int) (p d : Int) : (adc L p d).length = L.length := pc_len ..
end
end Go.Proofs.YtpocihddecemfaaGreat

namespace Go.Proofs.YtpocihddecemfaaGreat
open Go.RowKit
set_option linter.unusedVariables false
set_option linter.unusedSimpArgs false
set_option maxRecDepth 100000
open Lay (plcc plc shOf packN nodesN OkC Cfg Norm firstV Rep lenL slotsOf kindV)
section
variable {c : Cfg} {mk : Int}
theorem n1 : Norm ⟨1, 0, 0⟩ := nrm 1 0 0 (by omega) (by omega) (fun _ => rfl) (fun _ _ _ => rfl)
end
theorem zstp_len (z : Zg) (g : Pg) (nw : Int → Am) (L : List Int) (m : Zm) : (zstp z g nw L m).1.length = L.length := by
  have hc : ∀ (wk : Int) (m : Cm), (cstp wk L m).1.length = L.length := fun wk m => by
    unfold cstp
    repeat' (first | rfl | exact adc_len _ _ _ | exact pc_len _ _ _ | refine ite_ind (P := fun z : List Int × Cm => z.1.length = L.length) ?_ ?_)
  unfold zstp
  simp only
  repeat' (first | rfl | exact adc_len _ _ _ | exact astp_len _ _ _ | exact hc _ _ | refine ite_ind (P := fun z : List Int × Zm => z.1.length = L.length) ?_ ?_)
section
variable {B S D N : Nat} {c : Cfg} {w0 w w' : World} {lo X : Nat} {mk : Int} {k : Zk} {L : List Int} {i : Int} {A : Nat} {m : Zm} {s : Int} {K : List Int} {P : Int → Prop} {rk cnt : Int}
end
end Go.Proofs.YtpocihddecemfaaGreat
