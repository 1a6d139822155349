/- What the document's own pool holds, walked. Packets' machines: what they know, and what stays while one of them goes on. Packets' machines in memory: what they hold, and each of their steps, walked. What a pool holds; a packet of two, alone: step by step. -/
import Derived.Test.YtnfbjebhpljikaaGreatJ12
import Derived.Test.YtnfbjebhpljikaaGreatJ2
import Derived.Handy
import Derived.Lib.SliceRun
namespace Go.Proofs.YtnfbjebhpljikaaGreat
open Go.RowKit
set_option linter.unusedVariables false
open Lay (plcc plc shOf packN nodesN OkC Cfg Norm firstV Rep lenL things)

/-- How many tasks of a packet count. -/
def cnt4 (n : Int) : Nat := if 4 ≤ n then 4 else n.toNat
theorem cnt4_le (n : Int) : cnt4 n ≤ 4 := by unfold cnt4; split <;> omega
theorem cnt4_lt (n : Int) : (∀ i : Nat, i < cnt4 n → (i : Int) < n) ∧ (cnt4 n < 4 → n ≤ (cnt4 n : Int)) := by
  unfold cnt4
  by_cases h : 4 ≤ n
  · rw [if_pos h]; exact ⟨fun i hi => by omega, fun h => by omega⟩
  · rw [if_neg h]; exact ⟨fun i hi => by omega, fun _ => by omega⟩
/-- A packet's tasks, as memory tells; and those of many. -/
def pkT (c : Cfg) (L : List Int) (p : Int) (j : Nat) : List Int := (List.range j).map fun (i : Nat) => ldq L (plcc c 13 p (i : Int))
def heldT (c : Cfg) (L : List Int) (Q : List Int) : List Int := Q.flatMap fun p => pkT c L p (cnt4 (ldq L (plcc c 11 p 0)))
theorem pkT_len (c : Cfg) (L : List Int) (p : Int) (j : Nat) : (pkT c L p j).length = j := by simp [pkT]
theorem pkT_succ (c : Cfg) (L : List Int) (p : Int) (j : Nat) : pkT c L p (j + 1) = pkT c L p j ++ [ldq L (plcc c 13 p (j : Int))] := by simp [pkT, List.range_succ]
theorem heldT_len (c : Cfg) (L : List Int) : ∀ Q : List Int, (heldT c L Q).length ≤ 4 * Q.length
  | [] => by simp [heldT]
  | q :: Q => by
    have ih := heldT_len c L Q
    have := cnt4_le (ldq L (plcc c 11 q 0))
    simp only [heldT, List.flatMap_cons, List.length_append, pkT_len, List.length_cons] at ih ⊢
    omega
theorem heldT_succ (c : Cfg) (L Q : List Int) (i : Nat) (hi : i < Q.length) : heldT c L (Q.take (i + 1)) = heldT c L (Q.take i) ++ pkT c L (Q.getD i 0) (cnt4 (ldq L (plcc c 11 (Q.getD i 0) 0))) := by
  have e : Q.take (i + 1) = Q.take i ++ [Q.getD i 0] := by
    rw [List.take_add_one]; simp [List.getD, List.getElem?_eq_getElem hi]
  rw [e]; simp [heldT, List.flatMap_append]
/-- All tasks in the pool, as memory tells. -/
def heldL (c : Cfg) (L : List Int) : List Int := heldT c L (walkQ L (poK c) (packN c).toNat (plcc c 4 0 0))
theorem walkQ_len (L : List Int) (k : Sk) : ∀ (f : Nat) (p : Int), (walkQ L k f p).length ≤ f
  | 0, _ => by simp [walkQ]
  | f + 1, p => by
    unfold walkQ; split
    · have := walkQ_len L k f (atOf k.links (low (L.getD p.toNat 0))); simp only [List.length_cons]; omega
    · simp

theorem walkQ_rng (L : List Int) (k : Sk) : ∀ (f : Nat) (p : Int), ∀ q ∈ walkQ L k f p, 0 ≤ q ∧ q ≤ 4294967295
  | 0, _, q, h => by simp [walkQ] at h
  | f + 1, p, q, h => by
    unfold walkQ at h
    split at h
    · rcases List.mem_cons.1 h with rfl | h2
      · exact low_rng _
      · exact walkQ_rng L k f _ q h2
    · simp at h

/-- An append to a row of the call's own at a step of a region that draws its order. -/
theorem step_append_int {k : IntKind} {wr : World} {T : TypeId} {x : Int} {ops : Array Oper} {o : Oper} {a : Act} {K : Act → World → Prop} {Q : Exit → Act → World → Prop} {E : Prop} (hg : o.guard = none) (s c : Operand) (t e : TypeId)
    (ho : o.op = .call { callee := .builtin .append, args := #[s, c], argTypes := #[t, t] }) (ht : Tryz.prog.underlying t = some (.slice e))
    (hi : (Tryz.prog.info? e).map (fun i => (i.zero, i.size, i.bytes)) = some (some (.int k 0), 1, 8))
    (B : Nat) (w0 : World) (v : Value) (l : List Int) (hs : a.eval s = v) (hown : OwnI k e B w0 wr v l) (hx : a.eval c = .slice (some ⟨wr.heap.size, 0, none⟩) 1 1) (hl : l.length ≤ 100000) (hB : B ≤ w0.heap.size)
    (h : ∀ v' w', OwnI k e B w0 w' v' (l ++ [x]) → K (a.put o.dst v') w') :
    if Region.wanted o (yielded ops a.tmps) = true then Oper.wp Tryz.prog o a (wr.alloc (.cells #[.int k x] T)) K Q else E := by
  have hsz := hown.2.size
  refine step_append_row hg s c t e ho ht hi B v l hs hown.1 hx hl (by omega) ?_
  intro g cap w' h1 h2 _
  have hn := hown.alloc hB (.cells #[.int k x] T)
  exact h _ w' ⟨by rw [List.length_append]; exact h1, hn.2.grown h2 (by simp; omega) (fun b hb => (hn.1.lt b hb).1)⟩

/-- The map's box. -/
structure KH (w : World) (c : Cfg) (A : Option Addr) (n cap : Nat) (P : Int) (w' : World) : Prop where
  a0 : w'.cell? ⟨w.heap.size, 0, none⟩ = some (.slice A n cap)
  a1 : w'.cell? ⟨w.heap.size, 1, none⟩ = some (.int .i64 P)
  lt : w.heap.size < w'.heap.size
  bel : Below w.heap.size w w'
  isA : IsA w' c A n
section
variable {w w' w2 : World} {c : Cfg} {A : Option Addr} {n cap : Nat} {P : Int}
theorem KH.step (h : KH w c A n cap P w') (hb : Below w'.heap.size w' w2) : KH w c A n cap P w2 :=
  ⟨(hb.cell (p := ⟨w.heap.size, 0, none⟩) h.lt).trans h.a0, (hb.cell (p := ⟨w.heap.size, 1, none⟩) h.lt).trans h.a1, Nat.lt_of_lt_of_le h.lt hb.size, below_then h.bel hb, h.isA.below hb⟩
theorem KH.drew (h : KH w c A n cap P w') : KH w c A n cap P w'.drew := h.step (Below.refl _ _).drew
theorem KH.start (h : IsA w c A n) (cap : Nat) (P : Int) (T : TypeId) : KH w c A n cap P (w.alloc (.cells #[.slice A n cap, .int .i64 P] T)) :=
  ⟨by rw [World.cell?_alloc_at _ _ _ _ rfl]; rfl, by rw [World.cell?_alloc_at _ _ _ _ rfl]; rfl, by simp, below_alloc0 (Below.refl _ _) _, h.below (below_alloc0 (Below.refl _ _) _)⟩
abbrev KHc (w : World) (A : Option Addr) (n cap : Nat) (P : Int) (w' : World) : Prop := w'.cell? ⟨w.heap.size, 0, none⟩ = some (.slice A n cap) ∧ w'.cell? ⟨w.heap.size, 1, none⟩ = some (.int .i64 P)
theorem KH.cells (h : KH w c A n cap P w') : KHc w A n cap P w' := ⟨h.a0, h.a1⟩
end

end Go.Proofs.YtnfbjebhpljikaaGreat

namespace Go.Proofs.YtnfbjebhpljikaaGreat
open Go.RowKit
set_option linter.unusedVariables false
set_option linter.unusedSimpArgs false
open Lay (plcc plc shOf packN nodesN OkC Cfg Norm firstV Rep lenL things)

theorem UF.of_u3 {M S D : Nat} {w w' : World} (h : U3 M S D w w') : UF (fun k => k = M ∨ k = S ∨ k = D) w w' := ⟨h.os, h.tape, h.output, h.size, fun k hk hn => h.block k hk (fun e => hn (.inl e)) (fun e => hn (.inr (.inl e))) (fun e => hn (.inr (.inr e)))⟩

/-- What a packet's machine knows are words; t: how often its part has begun at most. -/
structure PW (c : Cfg) (t : Int) (m : Pm) : Prop where
  kd : m.kind = 1 ∨ m.kind = 2 ∨ m.kind = 3
  pc : m.pc ≤ 4
  one : m.kind ≠ 1 → m.pc = 0 ∨ m.pc = 4
  x1 : m.pc = 1 → Wm t m.x ∧ m.x.k = spK c ∧ m.x.kind = 2 ∧ m.x.pc ≠ 0
  x4 : m.pc = 4 → Wm t m.x ∧ m.x.k.links = lnkL c ∧ m.x.pc ≠ 0
  p : 0 ≤ m.p ∧ m.p ≤ 4294967295
  ts : ∀ z ∈ m.ts, 0 ≤ z ∧ z ≤ 18446744073709551615
  tl : m.ts.length ≤ 4
  j : 0 ≤ m.j ∧ m.j ≤ 4 ∧ (m.pc = 2 → m.j < m.ts.length)
  ne : m.pc = 1 ∨ m.pc = 2 → m.ts ≠ [] ∧ (m.pc = 1 → m.j = 0)
  t0 : 0 ≤ t
theorem wm_part (k : Sk) (kd : Nat) : Wm 0 (mPop k) := wm_pop k
theorem PW.mono {c : Cfg} {t u : Int} {m : Pm} (h : PW c t m) (k : t ≤ u) : PW c u m :=
  ⟨h.kd, h.pc, h.one, fun e => ⟨(h.x1 e).1.mono k, (h.x1 e).2⟩, fun e => ⟨(h.x4 e).1.mono k, (h.x4 e).2⟩, h.p, h.ts, h.tl, h.j, h.ne, by have := h.t0; omega⟩
theorem sstp_kd (L : List Int) (m : Sm) : (sstp L m).2.kind = m.kind := by
  unfold sstp swapS
  repeat' (first | rfl | refine ite_ind (P := fun z : List Int × Sm => z.2.kind = m.kind) ?_ ?_)
theorem getD_mem {l : List Int} {j : Int} (h : 0 ≤ j) (h2 : j < l.length) : l.getD j.toNat 0 ∈ l := by
  have : j.toNat < l.length := by omega
  rw [List.getD, List.getElem?_eq_getElem this]; exact List.getElem_mem this
theorem PW.step {c : Cfg} {t : Int} {m : Pm} {L : List Int} (h : PW c t m) (ww : WW L) : PW c (t + 1) (pstp (gOf c) L m).2 ∧ WW (pstp (gOf c) L m).1 := by
  have t0 := h.t0
  have hj := h.j
  unfold pstp
  by_cases p1 : m.pc = 1
  · obtain ⟨wx, kx, kd, px⟩ := h.x1 p1
    have k1 : m.kind = 1 := by
      by_cases e : m.kind = 1
      · exact e
      · rcases h.one e with e2 | e2 <;> omega
    rw [if_pos p1]
    refine ⟨?_, ww.step wx⟩
    have wx' := wx.step ww
    have hk' : (sstp L m.x).2.k = spK c := by rw [sstp_k]; exact kx
    have hne := h.ne (.inl p1)
    by_cases e1 : (sstp L m.x).2.pc = 0
    · rw [if_pos e1]
      by_cases e2 : (sstp L m.x).2.item = 0
      · rw [if_pos e2]
        exact ⟨h.kd, h.pc, h.one, fun _ => ⟨(wm_pop _).mono (by omega), rfl, rfl, by simp [mPop]⟩, fun e => by simp only at e; omega, ⟨by simp, by simp⟩, h.ts, h.tl, ⟨hj.1, hj.2.1, fun e => by simp only at e; omega⟩, h.ne, by omega⟩
      · rw [if_neg e2]
        refine ⟨h.kd, by simp, fun e => absurd k1 e, fun e => by simp at e, fun e => by simp at e, wx'.i, h.ts, h.tl, ⟨hj.1, hj.2.1, fun _ => ?_⟩, fun _ => ⟨hne.1, fun e => by simp at e⟩, by omega⟩
        have := hne.2 p1
        have := List.length_pos_iff.2 hne.1
        simp only
        omega
    · rw [if_neg e1]
      exact ⟨h.kd, h.pc, h.one, fun _ => ⟨wx', hk', by rw [sstp_kd]; exact kd, e1⟩, fun e => by simp only at e; omega, h.p, h.ts, h.tl, ⟨hj.1, hj.2.1, fun e => by simp only at e; omega⟩, h.ne, by omega⟩
  · rw [if_neg p1]
    by_cases p2 : m.pc = 2
    · rw [if_pos p2]
      have k1 : m.kind = 1 := by
        by_cases e : m.kind = 1
        · exact e
        · rcases h.one e with e2 | e2 <;> omega
      have hlt := hj.2.2 p2
      have hl := h.tl
      refine ⟨⟨h.kd, by simp only; split <;> simp, fun e => absurd k1 e, fun e => by simp only at e; split at e <;> simp at e, fun e => by simp only at e; split at e <;> simp at e, h.p, h.ts, h.tl, ⟨by simp only; omega, by simp only; omega, fun e => ?_⟩, fun e => ⟨(h.ne (.inr p2)).1, fun e2 => by simp only at e2; split at e2 <;> simp at e2⟩, by omega⟩, ww.put _ (h.ts _ (getD_mem hj.1 hlt))⟩
      simp only at e ⊢
      split at e
      · simp at e
      · rename_i hne; omega
    · rw [if_neg p2]
      by_cases p3 : m.pc = 3
      · rw [if_pos p3]
        have hl := h.tl
        have k1 : m.kind = 1 := by
          by_cases e : m.kind = 1
          · exact e
          · rcases h.one e with e2 | e2 <;> omega
        refine ⟨⟨h.kd, by simp, fun e => absurd k1 e, fun e => by simp at e, fun _ => ⟨(wm_push _ _).mono (by omega), rfl, by simp [mPush]⟩, h.p, h.ts, h.tl, ⟨hj.1, hj.2.1, fun e => by simp at e⟩, fun e => by simp at e, by omega⟩, ww.put _ (by omega)⟩
      · rw [if_neg p3]
        by_cases p4 : m.pc = 4
        · obtain ⟨wx, kx, px⟩ := h.x4 p4
          rw [if_pos p4]
          refine ⟨?_, ww.step wx⟩
          have wx' := wx.step ww
          by_cases e1 : (sstp L m.x).2.pc = 0
          · rw [if_pos e1]
            exact ⟨h.kd, by simp, fun _ => .inl rfl, fun e => by simp at e, fun e => by simp at e, wx'.i, h.ts, h.tl, ⟨hj.1, hj.2.1, fun e => by simp at e⟩, fun e => by simp at e, by omega⟩
          · rw [if_neg e1]
            exact ⟨h.kd, h.pc, h.one, fun e => absurd e p1, fun _ => ⟨wx', by rw [sstp_k]; exact kx, e1⟩, h.p, h.ts, h.tl, ⟨hj.1, hj.2.1, fun e => absurd e p2⟩, fun e => by rcases e with e | e <;> simp only at e <;> omega, by omega⟩
        · rw [if_neg p4]
          exact ⟨h.mono (by omega), ww⟩
end Go.Proofs.YtnfbjebhpljikaaGreat

namespace Go.Proofs.YtnfbjebhpljikaaGreat
open Go.RowKit
set_option linter.unusedVariables false
set_option linter.unusedSimpArgs false
open Lay (plcc plc shOf packN nodesN OkC Cfg Norm firstV Rep lenL things)

abbrev lnkV (N : Nat) : Value := .func (.func 39) #[Lay.mapP N] #[]
abbrev subV (M : Nat) : Value := .iface 91 (ptr M)
theorem lk_of {c : Cfg} (hc : OkC c) {w : World} {N : Nat} (hm : Lay.IsMap w N c) : Lk w (lnkV N) N (lnkL c) := ⟨c, hc, hm, .inl ⟨rfl, rfl⟩⟩

theorem popSp {c : Cfg} (N : Nat) (w : World) (hl : Lk w (lnkV N) N (lnkL c)) : Calls Tryz.prog 61 #[.int .i64 (plcc c 5 0 0), lnkV N] w (NewM w (lnkV N) (mPop (spK c))) := pop_any (spK c) w hl
theorem popPo {c : Cfg} (N : Nat) (w : World) (hl : Lk w (lnkV N) N (lnkL c)) : Calls Tryz.prog 61 #[.int .i64 (plcc c 4 0 0), lnkV N] w (NewM w (lnkV N) (mPop (poK c))) := pop_any (poK c) w hl
theorem pushSp {c : Cfg} (N : Nat) (x : Int) (w : World) (hl : Lk w (lnkV N) N (lnkL c)) (hx : -9223372036854775808 ≤ x ∧ x ≤ 9223372036854775807) : Calls Tryz.prog 113 #[.int .i64 (plcc c 5 0 0), lnkV N, .int .i64 x] w (NewM w (lnkV N) (mPush (spK c) x)) := push_any (spK c) x w hl hx
theorem pushPo {c : Cfg} (N : Nat) (x : Int) (w : World) (hl : Lk w (lnkV N) N (lnkL c)) (hx : -9223372036854775808 ≤ x ∧ x ≤ 9223372036854775807) : Calls Tryz.prog 113 #[.int .i64 (plcc c 4 0 0), lnkV N, .int .i64 x] w (NewM w (lnkV N) (mPush (poK c) x)) := push_any (poK c) x w hl hx

/-- A machine's block. -/
def Pmem (w : World) (X N : Nat) (T : Value) (pu tk : Int) (ot nx : Value) (pk : Int) : Prop :=
  w.heap[X]? = some (.cells #[Lay.mapP N, T, .int .i64 pu, .int .i64 tk, ot, nx, .int .i64 pk] 75 (0, 0))
/-- A machine and its map. -/
structure Pxt (w0 w : World) (X N : Nat) (c : Cfg) (F : Nat → Prop) (T : Value) (pu tk : Int) (ot nx : Value) (pk : Int) : Prop where
  mem : Pmem w X N T pu tk ot nx pk
  mp : Lay.IsMap w N c
  ne : N ≠ X
  fx : F X
  u : UF F w0 w
section
variable {w0 w w' : World} {X N : Nat} {c : Cfg} {F : Nat → Prop} {T : Value} {pu tk : Int} {ot nx : Value} {pk : Int}
theorem Pmem.lt (h : Pmem w X N T pu tk ot nx pk) : X < w.heap.size := (Array.getElem?_eq_some_iff.1 h).1
theorem Pmem.keep (h : Pmem w X N T pu tk ot nx pk) (hb : w'.heap[X]? = w.heap[X]?) : Pmem w' X N T pu tk ot nx pk := hb.trans h
theorem Pxt.lt (h : Pxt w0 w X N c F T pu tk ot nx pk) : X < w.heap.size := h.mem.lt
theorem Pxt.f (h : Pxt w0 w X N c F T pu tk ot nx pk) (j : Nat) : w.frozen? ⟨X, j, none⟩ = false := frozen_of_row w X j _ _ h.mem
theorem Pxt.c0 (h : Pxt w0 w X N c F T pu tk ot nx pk) : w.cell? ⟨X, 0, none⟩ = some (Lay.mapP N) := by have := h.mem; unfold Pmem at this; simp [World.cell?, this]
theorem Pxt.c1 (h : Pxt w0 w X N c F T pu tk ot nx pk) : w.cell? ⟨X, 1, none⟩ = some T := by have := h.mem; unfold Pmem at this; simp [World.cell?, this]
theorem Pxt.c2 (h : Pxt w0 w X N c F T pu tk ot nx pk) : w.cell? ⟨X, 2, none⟩ = some (.int .i64 pu) := by have := h.mem; unfold Pmem at this; simp [World.cell?, this]
theorem Pxt.c3 (h : Pxt w0 w X N c F T pu tk ot nx pk) : w.cell? ⟨X, 3, none⟩ = some (.int .i64 tk) := by have := h.mem; unfold Pmem at this; simp [World.cell?, this]
theorem Pxt.c4 (h : Pxt w0 w X N c F T pu tk ot nx pk) : w.cell? ⟨X, 4, none⟩ = some ot := by have := h.mem; unfold Pmem at this; simp [World.cell?, this]
theorem Pxt.c5 (h : Pxt w0 w X N c F T pu tk ot nx pk) : w.cell? ⟨X, 5, none⟩ = some nx := by have := h.mem; unfold Pmem at this; simp [World.cell?, this]
theorem Pxt.c6 (h : Pxt w0 w X N c F T pu tk ot nx pk) : w.cell? ⟨X, 6, none⟩ = some (.int .i64 pk) := by have := h.mem; unfold Pmem at this; simp [World.cell?, this]
theorem Pxt.cs (h : Pxt w0 w X N c F T pu tk ot nx pk) : w.cell? ⟨X, 0, none⟩ = some (Lay.mapP N) ∧ w.cell? ⟨X, 1, none⟩ = some T ∧ w.cell? ⟨X, 2, none⟩ = some (.int .i64 pu) ∧ w.cell? ⟨X, 3, none⟩ = some (.int .i64 tk) := ⟨h.c0, h.c1, h.c2, h.c3⟩
theorem Pxt.c03 (h : Pxt w0 w X N c F T pu tk ot nx pk) : w.cell? ⟨X, 0, none⟩ = some (Lay.mapP N) ∧ w.cell? ⟨X, 2, none⟩ = some (.int .i64 pu) ∧ w.cell? ⟨X, 3, none⟩ = some (.int .i64 tk) := ⟨h.c0, h.c2, h.c3⟩
theorem Pxt.step (h : Pxt w0 w X N c F T pu tk ot nx pk) (k : Below w.heap.size w w') : Pxt w0 w' X N c F T pu tk ot nx pk :=
  ⟨(k.block X h.lt).trans h.mem, h.mp.below k, h.ne, h.fx, h.u.trans (.of_below (F := F) k) (fun _ x => x) (fun _ _ x => x)⟩
theorem Pxt.drew (h : Pxt w0 w X N c F T pu tk ot nx pk) : Pxt w0 w.drew X N c F T pu tk ot nx pk := h.step (Below.refl _ _).drew
theorem Pxt.uf {G : Nat → Prop} (h : Pxt w0 w X N c F T pu tk ot nx pk) (k : UF G w w') (g1 : ¬ G X) (g2 : ¬ G N) (g3 : ∀ b, b < w0.heap.size → G b → F b) : Pxt w0 w' X N c F T pu tk ot nx pk :=
  ⟨(k.block X h.lt g1).trans h.mem, IsMap_same h.mp k.size (k.block N h.mp.1 g2), h.ne, h.fx, h.u.trans k (fun _ x => x) g3⟩
theorem Pxt.put (h : Pxt w0 w X N c F T pu tk ot nx pk) (i : Nat) (y : Value) {T' : Value} {pu' tk' : Int} {ot' nx' : Value} {pk' : Int}
    (hh : (#[Lay.mapP N, T, .int .i64 pu, .int .i64 tk, ot, nx, .int .i64 pk] : Array Value).setIfInBounds i y = #[Lay.mapP N, T', .int .i64 pu', .int .i64 tk', ot', nx', .int .i64 pk']) :
    Pxt w0 (w.setCell ⟨X, i, none⟩ y) X N c F T' pu' tk' ot' nx' pk' := by
  refine ⟨?_, IsMap_same h.mp (by simp) (heap_setCell_other w ⟨X, i, none⟩ N y h.ne), h.ne, h.fx, h.u.trans (UF.set w X i y) (fun _ x => x) (fun b _ e => e ▸ h.fx)⟩
  unfold Pmem
  rw [heap_setCell_same w X i _ 75 _ h.mem, hh]
theorem Pxt.p2 (h : Pxt w0 w X N c F T pu tk ot nx pk) (y : Int) : Pxt w0 (w.setCell ⟨X, 2, none⟩ (.int .i64 y)) X N c F T y tk ot nx pk := h.put 2 _ rfl
theorem Pxt.p3 (h : Pxt w0 w X N c F T pu tk ot nx pk) (y : Int) : Pxt w0 (w.setCell ⟨X, 3, none⟩ (.int .i64 y)) X N c F T pu y ot nx pk := h.put 3 _ rfl
theorem Pxt.p4 (h : Pxt w0 w X N c F T pu tk ot nx pk) (y : Value) : Pxt w0 (w.setCell ⟨X, 4, none⟩ y) X N c F T pu tk y nx pk := h.put 4 _ rfl
theorem Pxt.p5 (h : Pxt w0 w X N c F T pu tk ot nx pk) (y : Value) : Pxt w0 (w.setCell ⟨X, 5, none⟩ y) X N c F T pu tk ot y pk := h.put 5 _ rfl
theorem Pxt.p6 (h : Pxt w0 w X N c F T pu tk ot nx pk) (y : Int) : Pxt w0 (w.setCell ⟨X, 6, none⟩ (.int .i64 y)) X N c F T pu tk ot nx y := h.put 6 _ rfl
end

/-- A machine, its map and a store, apart. -/
structure Pxs (w0 w : World) (X S D N : Nat) (c : Cfg) (F : Nat → Prop) (T : Value) (pu tk : Int) (ot nx : Value) (pk : Int) (L : List Int) (cc : Int) : Prop where
  x : Pxt w0 w X N c F T pu tk ot nx pk
  st : St w S D L cc
  n : X ≠ S ∧ X ≠ D ∧ N ≠ S ∧ N ≠ D
  fs : F S ∧ F D
section
variable {w0 w w' : World} {X S D N : Nat} {c : Cfg} {F : Nat → Prop} {T : Value} {pu tk : Int} {ot nx : Value} {pk : Int} {L : List Int} {cc : Int}
theorem Pxs.step (h : Pxs w0 w X S D N c F T pu tk ot nx pk L cc) (k : Below w.heap.size w w') : Pxs w0 w' X S D N c F T pu tk ot nx pk L cc := ⟨h.x.step k, h.st.below k, h.n, h.fs⟩
theorem Pxs.drew (h : Pxs w0 w X S D N c F T pu tk ot nx pk L cc) : Pxs w0 w.drew X S D N c F T pu tk ot nx pk L cc := h.step (Below.refl _ _).drew
theorem Pxs.left (h : Pxs w0 w X S D N c F T pu tk ot nx pk L cc) {L' : List Int} {c' : Int} (k : Left S D L' c' w w') : Pxs w0 w' X S D N c F T pu tk ot nx pk L' c' :=
  ⟨h.x.uf (.of_upd k.2) (fun e => by have := h.n; omega) (fun e => by have := h.n; omega) (fun b _ e => by rcases e with rfl | rfl; exact h.fs.1; exact h.fs.2), k.1, h.n, h.fs⟩
theorem Pxs.of (h : Pxs w0 w X S D N c F T pu tk ot nx pk L cc) {T' : Value} {pu' tk' : Int} {ot' nx' : Value} {pk' : Int} (i : Nat) (y : Value) (k : Pxt w0 (w.setCell ⟨X, i, none⟩ y) X N c F T' pu' tk' ot' nx' pk') : Pxs w0 (w.setCell ⟨X, i, none⟩ y) X S D N c F T' pu' tk' ot' nx' pk' L cc :=
  ⟨k, St_same h.st (heap_setCell_other w ⟨X, i, none⟩ S y (Ne.symm h.n.1)) (heap_setCell_other w ⟨X, i, none⟩ D y (Ne.symm h.n.2.1)), h.n, h.fs⟩
theorem Pxs.p2 (h : Pxs w0 w X S D N c F T pu tk ot nx pk L cc) (y : Int) : Pxs w0 (w.setCell ⟨X, 2, none⟩ (.int .i64 y)) X S D N c F T y tk ot nx pk L cc := h.of _ _ (h.x.p2 y)
theorem Pxs.p3 (h : Pxs w0 w X S D N c F T pu tk ot nx pk L cc) (y : Int) : Pxs w0 (w.setCell ⟨X, 3, none⟩ (.int .i64 y)) X S D N c F T pu y ot nx pk L cc := h.of _ _ (h.x.p3 y)
theorem Pxs.p5 (h : Pxs w0 w X S D N c F T pu tk ot nx pk L cc) (y : Value) : Pxs w0 (w.setCell ⟨X, 5, none⟩ y) X S D N c F T pu tk ot y pk L cc := h.of _ _ (h.x.p5 y)
theorem Pxs.p6 (h : Pxs w0 w X S D N c F T pu tk ot nx pk L cc) (y : Int) : Pxs w0 (w.setCell ⟨X, 6, none⟩ (.int .i64 y)) X S D N c F T pu tk ot nx y L cc := h.of _ _ (h.x.p6 y)
/-- What only changes the machine's block and makes new ones. -/
theorem Pxs.more (h : Pxs w0 w X S D N c F T pu tk ot nx pk L cc) {T' : Value} {pu' tk' : Int} {ot' nx' : Value} {pk' : Int} (k : Pxt w w' X N c (fun b => b = X) T' pu' tk' ot' nx' pk') : Pxs w0 w' X S D N c F T' pu' tk' ot' nx' pk' L cc :=
  ⟨⟨k.mem, k.mp, k.ne, h.x.fx, h.x.u.trans k.u (fun _ x => x) (fun b _ e => e ▸ h.x.fx)⟩, St_same h.st (k.u.block S h.st.ltS (Ne.symm h.n.1)) (k.u.block D h.st.row.lt (Ne.symm h.n.2.1)), h.n, h.fs⟩
theorem Pxs.self (h : Pxs w0 w X S D N c F T pu tk ot nx pk L cc) : Pxt w w X N c (fun b => b = X) T pu tk ot nx pk := ⟨h.x.mem, h.x.mp, h.x.ne, rfl, .refl _ _⟩
/-- A step of the machine that it has. -/
theorem sub_step {M : Nat} {m : Sm} {t : Int} (h : Pxs w0 w X S D N c F T pu tk ot nx pk L cc) (hm : MM w M (lnkV N) m) (hl : m.k.links = lnkL c) (hM : M ≠ X ∧ M ≠ S ∧ M ≠ D ∧ M ≠ N) (fM : F M) (hc : OkC c) (wm : Wm t m) (ww : WW L) (h0 : 0 ≤ cc) (h1 : cc ≤ 1000000000) (ht : t ≤ 1000000000) :
    Calls Tryz.prog 166 #[ptr M, ptr S] w fun e w' => e = .returned (.bool (decide ((sstp L m).2.pc = 0))) ∧ Pxs w0 w' X S D N c F T pu tk ot nx pk (sstp L m).1 (cst m cc) ∧ MM w' M (lnkV N) (sstp L m).2 ∧ w.heap.size ≤ w'.heap.size := by
  refine (step_any w (hm.mi h.st (by rw [hl]; exact lk_of hc h.x.mp) hM.2.1 hM.2.2.1 ⟨Ne.symm hM.2.2.2, h.n.2.2.1, h.n.2.2.2⟩) wm ww h0 h1 ht).mono ?_
  rintro e w' ⟨rfl, mi⟩
  have u := UF.of_u3 mi.u'
  exact ⟨rfl, ⟨h.x.uf u (fun e => by have := h.n; omega) (fun e => by have := h.n; omega) (fun b _ e => by rcases e with rfl | rfl | rfl; exact fM; exact h.fs.1; exact h.fs.2), mi.st', h.n, h.fs⟩, mi.mm, mi.u'.size⟩
end

set_option maxHeartbeats 1000000 in
theorem endWith_any {w0 w : World} {X N : Nat} {c : Cfg} {F : Nat → Prop} {T : Value} {pu tk : Int} {ot nx : Value} {pk : Int} (M : Nat) (h : Pxt w0 w X N c F T pu tk ot nx pk) :
    Calls Tryz.prog 112 #[ptr X, subV M] w fun e w' => e = .returned (.tuple #[]) ∧ Pxt w0 w' X N c F T pu tk (subV M) (fnv 126 X) pk := by
  have hmf : ∀ (fn : Fn) (first cap : Array Value) (w : World), (Instr.makeFunc fn first cap).run Tryz.prog w = .ok (.func fn first cap) w := fun _ _ _ _ => rfl
  have h1 := h.p4 (subV M)
  have h2 := h1.p5 (fnv 126 X)
  have q4 := h.c4; have f4 := h.f 4
  have q5 := h1.c5; have f5 := h1.f 5
  have H2 := Lib.hid h2
  clear h h1 h2
  go_enter Tryz.func112, Tryz.ntmps112
  go_wp2
  go_returns
  exact ⟨rfl, H2.out⟩

set_option maxHeartbeats 1000000 in
theorem look_any {w0 w : World} {X N : Nat} {c : Cfg} {F : Nat → Prop} {T : Value} {pu tk : Int} {ot nx : Value} {pk : Int} (hc : OkC c) (h : Pxt w0 w X N c F T pu tk ot nx pk) :
    Calls Tryz.prog 42 #[ptr X] w fun e w' => e = .returned (.tuple #[]) ∧ ∃ M, w.heap.size ≤ M ∧ MM w' M (lnkV N) (mPop (spK c)) ∧ Pxt w0 w' X N c F T pu tk (subV M) (fnv 62 X) pk := by
  have hmf : ∀ (fn : Fn) (first cap : Array Value) (w : World), (Instr.makeFunc fn first cap).run Tryz.prog w = .ok (.func fn first cap) w := fun _ _ _ _ => rfl
  have q0 := h.c0
  have HMD := Lib.hid h.drew; clear h
  have HC := Lib.hid hc; clear hc
  go_enter Tryz.func42, Tryz.ntmps42
  go_wp2
  go_region_held3 (fun w' => w'.cell? ⟨X, 0, none⟩ = some (Lay.mapP N))
    (first | exact HL.out.c0 | exact HQ.out.c0 | exact HN.out.c0 | exact HMD.out.c0 | go_keep)
    (first
      | (go_at_call 38; (with_reducible refine (Lay.spare_m HC.out N _ HMD.out.mp).mono ?_); rintro r w3 ⟨rfl, hb⟩; have HN := Lib.hid (HMD.out.step hb); have HS := Lib.hid hb.size; clear hb)
      | (go_at_call 61; (with_reducible refine (popSp N _ (lk_of HC.out HN.out.mp)).mono ?_); rintro r w4 ⟨M, rfl, hM, hmm, hb⟩; have HQ := Lib.hid (HN.out.step hb); have HMM := Lib.hid hmm; have HLT := Lib.hid hM; clear hb hmm hM; have q4 := HQ.out.c4; have f4 := HQ.out.f 4; have q5 := HQ.out.c5; have f5 := HQ.out.f 5; have HL := Lib.hid (HQ.out.p4 (subV M)))
      | fail)
  all_goals
    have HF := Lib.hid (HL.out.p5 (fnv 62 X))
    have hne : M ≠ X := by have := HN.out.lt; have := HLT.out; omega
    go_wp2
    go_returns
    exact ⟨rfl, M, Nat.le_trans (by simpa using HS.out) HLT.out, (heap_setCell_other _ ⟨X, 5, none⟩ M _ hne).trans ((heap_setCell_other w4 ⟨X, 4, none⟩ M _ hne).trans HMM.out), HF.out⟩
end Go.Proofs.YtnfbjebhpljikaaGreat

namespace Go.Proofs.YtnfbjebhpljikaaGreat
open Go.RowKit
set_option linter.unusedVariables false
set_option linter.unusedSimpArgs false
open Lay (plcc plc shOf packN nodesN OkC Cfg Norm firstV Rep lenL things)

theorem nodup_le : ∀ (n : Nat) (Q : List Int), Q.Nodup → (∀ q ∈ Q, 1 ≤ q ∧ q ≤ (n : Int)) → Q.length ≤ n
  | 0, Q, _, h => by
    cases Q with
    | nil => simp
    | cons q Q => have := h q (by simp); omega
  | n + 1, Q, hd, h => by
    have h2 := nodup_le n (Q.erase ((n + 1 : Nat) : Int)) (hd.erase _) (fun q hq => by
      have hm := (hd.mem_erase_iff).1 hq
      have := h q hm.2
      have hne := hm.1
      omega)
    rw [List.length_erase] at h2
    split at h2 <;> omega
section
variable {c : Cfg} {L : List Int}
theorem pkT_cont (G : Gp (pkn c) L.length (gOf c)) {q : Int} {ts : List Int} (hq : 1 ≤ q ∧ q ≤ pkn c) (h : Cont (gOf c) L q ts) : pkT c L q (cnt4 (ldq L (plcc c 11 q 0))) = ts := by
  have m := G.m q hq.1 hq.2
  have e1 : ldq L (plcc c 11 q 0) = ts.length := by
    have h1 : 0 ≤ plcc c 11 q 0 ∧ plcc c 11 q 0 < L.length := ⟨m.1, m.2.1⟩
    rw [ld_in h1]; exact h.many
  have hf := h.few
  have e2 : cnt4 (ts.length : Int) = ts.length := by unfold cnt4; split <;> omega
  rw [e1, e2]
  apply List.ext_getElem?
  intro i
  unfold pkT
  by_cases hi : i < ts.length
  · have t := G.t q i hq.1 hq.2 (by omega) (by omega)
    have h1 : 0 ≤ plcc c 13 q i ∧ plcc c 13 q i < L.length := ⟨t.1, t.2.1⟩
    have h2 := h.task i hi
    have h3 : L.getD (plcc c 13 q i).toNat 0 = ts.getD i 0 := h2
    simp only [List.getElem?_map, List.getElem?_range hi, Option.map_some]
    rw [ld_in h1, h3, List.getD, List.getElem?_eq_getElem hi]; simp
  · rw [List.getElem?_eq_none (by simpa using hi), List.getElem?_eq_none (by simpa using hi)]
theorem heldT_cts (G : Gp (pkn c) L.length (gOf c)) : ∀ {Q : List Int} {l : List (List Int)}, Cts (gOf c) L Q l → (∀ q ∈ Q, 1 ≤ q ∧ q ≤ (pkn c : Int)) → heldT c L Q = l.flatten
  | [], [], _, _ => rfl
  | q :: Q, t :: l, h, hr => by
    have ih := heldT_cts G h.2 (fun y hy => hr y (by simp [hy]))
    have e := pkT_cont G (hr q (by simp)) h.1
    unfold heldT at ih ⊢
    rw [List.flatMap_cons, e, ih, List.flatten_cons]
  | [], _ :: _, h, _ => h.elim
  | _ :: _, [], h, _ => h.elim
theorem heldL_stk {T : Int} {Q : List Int} (hc : OkC c) (H : Stk (pkn c) (poK c) L T Q) : heldL c L = heldT c L Q := by
  have hn := pkn_is hc
  have hl := nodup_le _ _ H.nd H.rng
  unfold heldL
  have e : walkQ L (poK c) (packN c).toNat (plcc c 4 0 0) = Q := walk_stk H _ (by show Q.length ≤ _; omega)
  rw [e]
theorem heldL_pa {i : Int} {l : List (List Int)} {out : List Int} (hc : OkC c) (H : PA (pkn c) (gOf c) L i l out) : heldL c L = l.flatten := by
  obtain ⟨Ts, Qs, Tp, Qp, G, Hs, Hp, t1, t2, p1, hct⟩ := H
  rw [heldL_stk hc Hp]
  exact heldT_cts G hct Hp.rng
end

section
variable {n : Nat} {g : Pg} {L : List Int} {Ts Tp : Int} {Qs Qp : List Int}
/-- A packet of two: nine steps; taken: three. -/
theorem put_two {p a b : Int} (G : Gp n L.length g) (Hs : Stk n g.sp L Ts (p :: Qs)) (Hp : Stk n g.po L Tp Qp) (h9 : Ts + 1 < 100000) (h8 : Tp + 1 < 100000) (hnp : p ∉ Qp) :
    (pruns g 8 L (pPut g [a, b])).2.pc = 4 ∧ (pruns g 9 L (pPut g [a, b])).2.pc = 0 ∧ (pruns g 9 L (pPut g [a, b])).2.p = p ∧ Stk n g.po (pruns g 9 L (pPut g [a, b])).1 (Tp + 1) (p :: Qp) := by
  have hr := Hs.rng p (by simp)
  obtain ⟨y1, r1⟩ := first_pop (g := g) Hs h9 [a, b] 0 0
  obtain ⟨L1, hL1⟩ : ∃ x, x = ptq L g.sp.head ((Ts + 1) * 4294967296 + Qs.headD 0) := ⟨_, rfl⟩
  rw [← hL1] at r1
  have len1 : L1.length = L.length := by rw [hL1]; exact pt_len ..
  have Hp1 : Stk n g.po L1 Tp Qp := by
    rw [hL1]
    exact Hp.word G.hne fun q hq e => by
      have b := Hp.rng q hq
      rw [G.links] at e
      exact (G.s.lk q b.1 b.2).2.2 e.symm
  have r2 := tasks_run (g := g) p y1 [a, b] [a, b] L1 0 (by simp) (by simp) (by simp)
  obtain ⟨L2, hL2⟩ : ∃ x, x = tput g p L1 0 [a, b] := ⟨_, rfl⟩
  simp only [Int.natCast_zero] at r2
  rw [← hL2] at r2
  have r2' : pruns g 2 L1 ⟨1, 2, [a, b], 0, p, y1⟩ = (L2, ⟨1, 3, [a, b], 2, p, y1⟩) := r2
  have len2 : L2.length = L.length := by rw [hL2, tput_len]; exact len1
  have oth2 : ∀ q : Int, 0 ≤ q → (∀ i : Int, 0 ≤ i → i < 4 → q ≠ g.tk p i) → L2.getD q.toNat 0 = L1.getD q.toNat 0 := fun q h0 h => by
    rw [hL2]; exact tput_other p h0 [a, b] L1 0 (fun i a b => h i a (by simp at b; omega))
  have Hp2 : Stk n g.po L2 Tp Qp := Hp1.same (by omega) (oth2 _ G.p.hd.1 (fun i a b => (G.t p i hr.1 hr.2 a b).2.2.2.symm))
    (fun q hq => by have b := Hp1.rng q hq; unfold lkw; rw [G.links]; exact oth2 _ (G.s.lk q b.1 b.2).1 (fun i a c => (G.tl p i q hr.1 hr.2 a c b.1 b.2).symm))
  obtain ⟨L3, hL3⟩ : ∃ x, x = ptq L2 (g.mn p) 2 := ⟨_, rfl⟩
  have r3 : pruns g 1 L2 ⟨1, 3, [a, b], 2, p, y1⟩ = (L3, ⟨1, 4, [a, b], 2, p, mPush g.po p⟩) := by
    rw [hL3]; simp [pruns, pstp]
  have hm := G.m p hr.1 hr.2
  have Hp3 : Stk n g.po L3 Tp Qp := by
    rw [hL3]; exact Hp2.word hm.2.2.2 (fun q hq => by rw [G.links]; exact G.ml p q hr.1 hr.2 (Hp2.rng q hq).1 (Hp2.rng q hq).2)
  obtain ⟨y4, r4⟩ := last_push (g := g) Hp3 h8 hr.1 hr.2 1 [a, b] 2 p
  have e0 : pPut g [a, b] = ⟨1, 1, [a, b], 0, 0, mPop g.sp⟩ := by unfold pPut; rw [if_neg (by simp)]; rfl
  have r6 : pruns g 6 L (pPut g [a, b]) = (L3, ⟨1, 4, [a, b], 2, p, mPush g.po p⟩) := by
    rw [e0, show 6 = 3 + (2 + 1) from rfl, pruns_add, r1]
    simp only
    rw [pruns_add, r2']
    simp only
    exact r3
  have hs := Hp3.g.small
  have ei : mPush g.po p = ⟨1, 1, g.po, p, 0, 0, 0⟩ := by unfold mPush; rw [itemOf_is ⟨hr.1, by omega⟩]
  obtain ⟨pa, pb, pc⟩ := push_run Hp3 h8 hr.1 hr.2 0
  have pt := Hp3.put (v := Qp.headD 0) hr.1 hr.2 hnp
  have Hp4 := pt.1.push h8 hr.1 hr.2 hnp pt.2
  refine ⟨?_, ?_, ?_, ?_⟩
  · rw [show 8 = 6 + 2 from rfl, pruns_add, r6, ei]
    simp only [pruns]
    rw [last_on pa (by simp)]
    simp only
    rw [last_on pb (by simp)]
  · rw [show 9 = 6 + 3 from rfl, pruns_add, r6]
    simp only
    rw [r4]
  · rw [show 9 = 6 + 3 from rfl, pruns_add, r6]
    simp only
    rw [r4]
  · rw [show 9 = 6 + 3 from rfl, pruns_add, r6]
    simp only
    rw [r4]
    exact Hp4
theorem take_one {p : Int} (Hp : Stk n g.po L Tp (p :: Qp)) (h8 : Tp + 1 < 100000) :
    (pruns g 2 L (pTake g)).2.pc = 4 ∧ (pruns g 3 L (pTake g)).2.pc = 0 ∧ (pruns g 3 L (pTake g)).2.p = p := by
  obtain ⟨y, r⟩ := last_pop (g := g) Hp h8 2 [] 0 0
  obtain ⟨pa, pb, pc⟩ := pop_run Hp h8 0
  refine ⟨?_, ?_, ?_⟩
  · show (pruns g 2 L ⟨2, 4, [], 0, 0, ⟨2, 1, g.po, 0, 0, 0, 0⟩⟩).2.pc = 4
    simp only [pruns]
    rw [last_on pa (by simp)]
    simp only
    rw [last_on pb (by simp)]
  · rw [show pTake g = ⟨2, 4, [], 0, 0, mPop g.po⟩ from rfl, r]
  · rw [show pTake g = ⟨2, 4, [], 0, 0, mPop g.po⟩ from rfl, r]
/-- Not finished ahead of where it is not. -/
theorem not_yet {i j : Nat} {m : Pm} (h : i ≤ j) (hj : (pruns g j L m).2.pc ≠ 0) : (pruns g i L m).2.pc ≠ 0 := fun e => by
  apply hj
  obtain ⟨d, rfl⟩ : ∃ d, j = i + d := ⟨j - i, by omega⟩
  rw [pruns_add]
  rw [pruns_done e]
  exact e
theorem done_still {i j : Nat} {m : Pm} (h : i ≤ j) (hi : (pruns g i L m).2.pc = 0) : pruns g j L m = pruns g i L m := by
  obtain ⟨d, rfl⟩ : ∃ d, j = i + d := ⟨j - i, by omega⟩
  rw [pruns_add, pruns_done hi]
end
end Go.Proofs.YtnfbjebhpljikaaGreat
