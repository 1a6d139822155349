/- Three packets' machines: how all begins. -/
import Derived.Test.YtbpfkhpnfkbacaaPkOh
import Derived.Test.YtbpfkhpnfkbacaaJ23
import Derived.Laws.CopyOwn
namespace Go.Proofs.Ytbpfkhpnfkbacaa
open Go.RowKit
set_option linter.unusedVariables false
set_option linter.unusedSimpArgs false
set_option maxRecDepth 100000
open Lay (plcc plc shOf packN nodesN OkC Cfg Norm firstV Rep lenL things)
attribute [local irreducible] pruns

theorem infoP : (Try.prog.info? 37).map (fun i => (i.zero, i.size, i.bytes)) = some (some (.pointer none), 1, 8) := by kernel_rfl
theorem infoI : (Try.prog.info? 3).map (fun i => (i.zero, i.size, i.bytes)) = some (some (.int .i64 0), 1, 8) := by kernel_rfl
theorem made_any (x : Value) (hx : x.cells = #[x]) (n : Nat) : madeCells x.cells n = (List.replicate n x).toArray := by
  apply Array.ext'
  apply List.ext_getElem?
  intro j
  rw [hx]
  by_cases hj : j < n
  · simp [madeCells, hj, Nat.mod_one]
  · simp [madeCells, hj]
theorem make_ptrs3 (w : World) : (Instr.makeSlice 65 (.int .i64 3) (.int .i64 3)).run Try.prog w = .ok (.slice (some ⟨w.heap.size, 0, none⟩) 3 3) (w.alloc (.cells #[.pointer none, .pointer none, .pointer none] 37)) := by
  obtain ⟨i0, hi, hz0, hz1, hz2⟩ := info_parts infoP
  have := run_make w 65 37 i0 (.pointer none) Try.underlying65 hi hz0 .i64 .i64 3 3 (by omega) (Int.le_refl _) (by rw [hz2]; omega) (by omega)
  rw [made_any _ rfl] at this
  simpa [hz1, List.replicate] using this
theorem make_ints3 (w : World) : (Instr.makeSlice 55 (.int .i64 3) (.int .i64 3)).run Try.prog w = .ok (.slice (some ⟨w.heap.size, 0, none⟩) 3 3) (w.alloc (.cells #[.int .i64 0, .int .i64 0, .int .i64 0] 3)) := by
  obtain ⟨i0, hi, hz0, hz1, hz2⟩ := info_parts infoI
  have := run_make w 55 3 i0 (.int .i64 0) Try.underlying55 hi hz0 .i64 .i64 3 3 (by omega) (Int.le_refl _) (by rw [hz2]; omega) (by omega)
  rw [made_any _ rfl] at this
  simpa [hz1, List.replicate] using this
theorem make_ints400 (w : World) : (Instr.makeSlice 55 (.int .i64 400) (.int .i64 400)).run Try.prog w = .ok (.slice (some ⟨w.heap.size, 0, none⟩) 400 400) (w.alloc (.cells (ints .i64 (List.replicate 400 0)).toArray 3)) := by
  obtain ⟨i0, hi, hz0, hz1, hz2⟩ := info_parts infoI
  have := run_make w 55 3 i0 (.int .i64 0) Try.underlying55 hi hz0 .i64 .i64 400 400 (by omega) (Int.le_refl _) (by rw [hz2]; omega) (by omega)
  rw [made_any _ rfl] at this
  have e : ints .i64 (List.replicate 400 0) = List.replicate 400 (.int .i64 0) := by unfold ints; rw [List.map_replicate]
  rw [e]
  simpa [hz1] using this
theorem al_new (w : World) (o : Obj) : (w.alloc o).heap[w.heap.size]? = some o := Array.getElem?_push_size
theorem al_old {w : World} {b : Nat} {o' : Obj} (o : Obj) (h : w.heap[b]? = some o') : (w.alloc o).heap[b]? = some o' := by
  have hl := (Array.getElem?_eq_some_iff.1 h).1
  exact ((below_alloc0 (Below.refl _ _) o).block b hl).trans h
theorem al_next {w : World} {N : Nat} (hN : w.heap.size = N) (o : Obj) : (w.alloc o).heap[N]? = some o ∧ (w.alloc o).heap.size = N + 1 := by
  subst hN; exact ⟨al_new w o, by simp⟩
def q0 (S D N M : Nat) : Cq := ⟨S, D, N, M, M + 1, M + 1 + 1, M + 1 + 1 + 1⟩
def mI : Pm := ⟨1, 0, [], 0, 0, mnone⟩
def x0 (L : List Int) : Vq := ⟨L, fun _ => mI, fun _ => 0, fun _ _ => False, fun _ _ => False, fun _ => false, fun _ => .pointer none, fun _ => 0, fun _ => 0, List.replicate 400 0⟩
def y0 : Wq := ⟨0, [], fun _ => [], fun _ => [], fun _ => 22⟩
theorem rep0 (n t : Nat) (h : t < n) : (List.replicate n (0 : Int)).getD t 0 = 0 := by simp [List.getD, List.getElem?_replicate, h]
theorem HQ.first {S D N : Nat} {c : Cfg} {B : Nat} {w0 w5 : World} {L : List Int} {len : Nat} (h : PO B S D N c w0 w5 L 0) (hrep : Rep (shOf c) L (firstV c)) (hlen : len ≤ 400) :
    HQ (q0 S D N w5.heap.size) c B w0 ((((w5.alloc (.cells #[.pointer none, .pointer none, .pointer none] 37)).alloc (.cells #[.int .i64 0, .int .i64 0, .int .i64 0] 3)).alloc (.cells #[.int .i64 0, .int .i64 0, .int .i64 0] 3)).alloc (.cells (ints .i64 (List.replicate 400 0)).toArray 3)) len 0 (x0 L) y0 := by
  have hlt := h.lt
  have hB := h.lo.2.2
  have hbs := h.bel.size
  obtain ⟨M, hM⟩ : ∃ M, w5.heap.size = M := ⟨_, rfl⟩
  rw [hM]
  obtain ⟨o0, e0⟩ : ∃ o, o = Obj.cells #[.pointer none, .pointer none, .pointer none] 37 := ⟨_, rfl⟩
  obtain ⟨o1, e1⟩ : ∃ o, o = Obj.cells #[.int .i64 0, .int .i64 0, .int .i64 0] 3 := ⟨_, rfl⟩
  obtain ⟨o3, e3⟩ : ∃ o, o = Obj.cells (ints .i64 (List.replicate 400 0)).toArray 3 := ⟨_, rfl⟩
  rw [← e0, ← e1, ← e3]
  obtain ⟨n0, s0⟩ := al_next hM o0
  obtain ⟨n1, s1⟩ := al_next s0 o1
  obtain ⟨n2, s2⟩ := al_next s1 o1
  obtain ⟨n3, s3⟩ := al_next s2 o3
  have p0 := al_old o3 (al_old o1 (al_old o1 n0))
  have p1 := al_old o3 (al_old o1 n1)
  have p2 := al_old o3 n2
  have hb : Below w5.heap.size w5 ((((w5.alloc o0).alloc o1).alloc o1).alloc o3) := below_alloc0 (below_alloc0 (below_alloc0 (below_alloc0 (Below.refl _ _) _) _) _) _
  generalize ((((w5.alloc o0).alloc o1).alloc o1).alloc o3) = W at p0 p1 p2 n3 s3 hb ⊢
  subst e0 e1 e3
  obtain ⟨Hs, Hp⟩ := stk_first h.ok hrep
  have G : Gp (pkn c) L.length (gOf c) := by rw [hrep.1]; exact gp_of h.ok
  refine ⟨⟨(show PO B S D N c w0 W L (4 * ((0 : Nat) : Int)) from by simpa using h.step hb), p0, p1, p2, n3, ?_, (fun j hj hl => by cases hl), (fun j hj => show PW c (4 * ((0 : Nat) : Int)) mI from by simpa [mI] using pw_idle c 1 (.inl rfl)), (fun j hj hl => by cases hl), (fun i j hi hj hij hl => by cases hl)⟩, ?_, (fun j hj => ⟨rfl, rfl, (fun hl => by cases hl), (fun hl => by cases hl), (fun _ => rfl)⟩), (fun j hj hp => absurd rfl hp), List.length_replicate, (fun t ht => ?_), ⟨by omega, hlen⟩, first_len h.ok hrep⟩
  · exact ⟨⟨by simp only [q0]; omega, by simp only [q0]; omega, by simp only [q0]; omega, by simp only [q0]; omega⟩, by simp only [q0]; omega, by simp only [q0]; omega, by simp only [q0]; omega, by simp only [q0]; omega⟩
  · have := Pw.begin G Hs Hp (a := mI) (b := mI) (c := mI) rfl rfl rfl
    exact this
  · show (List.replicate 400 (0 : Int)).getD t 0 = ((List.count (t : Int) [] : Nat) : Int)
    rw [rep0 _ _ ht]; rfl
end Go.Proofs.Ytbpfkhpnfkbacaa
