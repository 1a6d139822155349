
import Derived.Test.YthoiaffeenhfgaaGreatJ15
import Derived.Test.YthoiaffeenhfgaaGreatJ14
namespace Go.Proofs.YthoiaffeenhfgaaGreat
open Go.RowKit
set_option linter.unusedVariables false
set_option linter.unusedSimpArgs false
open Lay (plcc plc shOf packN nodesN OkC Cfg Norm firstV Rep lenL things)
def RowT (w : World) (T : Value) (O D : Nat → Prop) (ts : List Int) : Prop :=
  ∃ b off n cap, T = .slice (some ⟨b, off, none⟩) n cap ∧ n = ts.length ∧ b < w.heap.size ∧ D b ∧ ¬ O b ∧ ∀ j, j < ts.length → w.cell? ⟨b, off + j, none⟩ = some (.int .u64 (ts.getD j 0))
def SubT (w : World) (ot : Value) (O : Nat → Prop) (X N : Nat) (m : Sm) : Prop := ∃ M, ot = subV M ∧ MM w M (lnkV N) m ∧ O M ∧ M ≠ X ∧ M ≠ N
def CellsT (w : World) (X N : Nat) (O D : Nat → Prop) (m : Pm) (T : Value) (pu tk : Int) (ot nx : Value) (pk : Int) : Prop :=
  (m.pc = 0 ∧ nx = .nilFunc ∧ pk = m.p) ∨
  (m.pc = 1 ∧ nx = fnv 102 X ∧ pk = 0 ∧ pu = m.j ∧ SubT w ot O X N m.x ∧ RowT w T O D m.ts) ∨
  (m.pc = 2 ∧ nx = fnv 116 X ∧ pk = 0 ∧ pu = m.j ∧ tk = m.p ∧ RowT w T O D m.ts) ∨
  (m.pc = 3 ∧ nx = fnv 133 X ∧ pk = 0 ∧ pu = m.j ∧ tk = m.p ∧ m.j = m.ts.length) ∨
  (m.pc = 4 ∧ nx = fnv 168 X ∧ pk = 0 ∧ SubT w ot O X N m.x)
def PKM (w : World) (X : Nat) (O D : Nat → Prop) (c : Cfg) (N : Nat) (m : Pm) : Prop :=
  X ≠ N ∧ O X ∧ (∀ k, O k → D k) ∧ (∀ k, D k → k < w.heap.size) ∧ ∃ T pu tk ot nx pk, Pmem w X N T pu tk ot nx pk ∧ CellsT w X N O D m T pu tk ot nx pk
theorem RowT.keep {w w' : World} {T : Value} {O D : Nat → Prop} {ts : List Int} (h : RowT w T O D ts) (hs : w.heap.size ≤ w'.heap.size) (hb : ∀ k, D k → w'.heap[k]? = w.heap[k]?) : RowT w' T O D ts := by
  obtain ⟨b, off, n, cap, h1, h2, h3, h4, h5, h6⟩ := h
  exact ⟨b, off, n, cap, h1, h2, Nat.lt_of_lt_of_le h3 hs, h4, h5, fun j hj => (World.cell?_of_block (w := w) (a := ⟨b, off + j, none⟩) (hb b h4)).trans (h6 j hj)⟩
theorem SubT.keep {w w' : World} {ot : Value} {O D : Nat → Prop} {X N : Nat} {m : Sm} (h : SubT w ot O X N m) (hO : ∀ k, O k → D k) (hb : ∀ k, D k → w'.heap[k]? = w.heap[k]?) : SubT w' ot O X N m := by
  obtain ⟨M, h1, h2, h3, h4⟩ := h
  exact ⟨M, h1, (hb M (hO M h3)).trans h2, h3, h4⟩
theorem PKM.ins {w : World} {X : Nat} {O D : Nat → Prop} {c : Cfg} {N : Nat} {m : Pm} (h : PKM w X O D c N m) : O X ∧ (∀ k, O k → D k) ∧ ∀ k, D k → k < w.heap.size := ⟨h.2.1, h.2.2.1, h.2.2.2.1⟩
theorem PKM.keep {w w' : World} {X : Nat} {O D : Nat → Prop} {c : Cfg} {N : Nat} {m : Pm} (h : PKM w X O D c N m) (hs : w.heap.size ≤ w'.heap.size) (hb : ∀ k, D k → w'.heap[k]? = w.heap[k]?) : PKM w' X O D c N m := by
  obtain ⟨h1, h2, h3, h4, T, pu, tk, ot, nx, pk, h5, h6⟩ := h
  refine ⟨h1, h2, h3, fun k hk => Nat.lt_of_lt_of_le (h4 k hk) hs, T, pu, tk, ot, nx, pk, (hb X (h3 X h2)).trans h5, ?_⟩
  rcases h6 with ⟨a, b, c⟩ | ⟨a, b, c, d, e, f⟩ | ⟨a, b, c, d, e, f⟩ | ⟨a, b, c, d, e, f⟩ | ⟨a, b, c, d⟩
  · exact .inl ⟨a, b, c⟩
  · exact .inr (.inl ⟨a, b, c, d, e.keep h3 hb, f.keep hs hb⟩)
  · exact .inr (.inr (.inl ⟨a, b, c, d, e, f.keep hs hb⟩))
  · exact .inr (.inr (.inr (.inl ⟨a, b, c, d, e, f⟩)))
  · exact .inr (.inr (.inr (.inr ⟨a, b, c, d.keep h3 hb⟩)))
def NewP (w : World) (c : Cfg) (N : Nat) (E : Nat → Prop) (m : Pm) (e : Ending) (w' : World) : Prop :=
  ∃ X O D, e = .returned (ptr X) ∧ PKM w' X O D c N m ∧ (∀ k, O k → w.heap.size ≤ k) ∧ (∀ k, D k → w.heap.size ≤ k ∨ E k) ∧ Below w.heap.size w w'
def AtB (A : Option Addr) (k : Nat) : Prop := ∃ off, A = some ⟨k, off, none⟩
theorem pxt_new {w : World} {N : Nat} {c : Cfg} (hm : Lay.IsMap w N c) (T : Value) (pu tk : Int) (ot nx : Value) (pk : Int) :
    Pxt (w.alloc (.cells #[Lay.mapP N, T, .int .i64 pu, .int .i64 tk, ot, nx, .int .i64 pk] 117)) (w.alloc (.cells #[Lay.mapP N, T, .int .i64 pu, .int .i64 tk, ot, nx, .int .i64 pk] 117)) w.heap.size N c (fun b => b = w.heap.size) T pu tk ot nx pk :=
  ⟨by unfold Pmem; show (w.heap.push _)[w.heap.size]? = _; simp, hm.below (below_alloc0 (Below.refl _ _) _), by have := hm.1; omega, rfl, .refl _ _⟩
theorem newP_idle {w w1 : World} {N : Nat} {c : Cfg} {E : Nat → Prop} (kd : Nat) (hm : Lay.IsMap w1 N c) (hb : Below w.heap.size w w1) (T : Value) :
    NewP w c N E ⟨kd, 0, [], 0, 0, mnone⟩ (.returned (ptr w1.heap.size)) (w1.alloc (.cells #[Lay.mapP N, T, .int .i64 0, .int .i64 0, .nilIface, .nilFunc, .int .i64 0] 117)) := by
  have p := pxt_new hm T 0 0 .nilIface .nilFunc 0
  refine ⟨w1.heap.size, fun k => k = w1.heap.size, fun k => k = w1.heap.size, rfl, ⟨Ne.symm p.ne, rfl, fun k h => h, fun k h => by subst h; exact p.lt, T, 0, 0, _, _, 0, p.mem, .inl ⟨rfl, rfl, rfl⟩⟩, fun k h => by subst h; exact hb.size, fun k h => .inl (by subst h; exact hb.size), below_step hb hb.size (below_alloc0 (Below.refl _ _) _)⟩
theorem newP_idle2 {w w1 : World} {N : Nat} {c : Cfg} {E : Nat → Prop} {T ot : Value} {o : Obj} (kd : Nat) (p : Pxt (w.alloc o) w1 w.heap.size N c (fun b => b = w.heap.size) T 0 0 ot .nilFunc 0) :
    NewP w c N E ⟨kd, 0, [], 0, 0, mnone⟩ (.returned (ptr w.heap.size)) w1 :=
  ⟨w.heap.size, fun k => k = w.heap.size, fun k => k = w.heap.size, rfl, ⟨Ne.symm p.ne, rfl, fun k h => h, fun k h => by subst h; exact p.lt, T, 0, 0, _, _, 0, p.mem, .inl ⟨rfl, rfl, rfl⟩⟩, fun k h => by subst h; exact Nat.le_refl _, fun k h => .inl (by subst h; exact Nat.le_refl _), below_uf (below_alloc0 (Below.refl _ _) o) (Nat.le_refl _) p.u (fun k e => by subst e; exact Nat.le_refl _)⟩
theorem newP_sub {w w1 w2 : World} {N M f : Nat} {c : Cfg} {E : Nat → Prop} {m : Pm} {T : Value} {o : Obj} (hb : Below w.heap.size w w1) (hx : Pxt (w1.alloc o) w2 w1.heap.size N c (fun b => b = w1.heap.size) T 0 0 (subV M) (fnv f w1.heap.size) 0)
    (hM : (w1.alloc o).heap.size ≤ M) (hmm : MM w2 M (lnkV N) m.x) (hN : N < w1.heap.size)
    (hf : m.pc = 4 ∧ f = 168 ∨ m.pc = 1 ∧ f = 102 ∧ m.j = 0 ∧ ∃ b off cap, T = .slice (some ⟨b, off, none⟩) m.ts.length cap ∧ w.heap.size ≤ b ∧ b < w1.heap.size ∧ ∀ j, j < m.ts.length → w1.cell? ⟨b, off + j, none⟩ = some (.int .u64 (m.ts.getD j 0))) :
    NewP w c N E m (.returned (ptr w1.heap.size)) w2 := by
  have hs := hb.size
  have hMlt := hmm.lt
  have hal : w1.heap.size < (w1.alloc o).heap.size := by simp
  have hbe : Below w.heap.size w w2 := below_uf (below_step hb hb.size (below_alloc0 (Below.refl _ _) o)) (Nat.le_refl _) hx.u (fun k e => e ▸ hs)
  have sub : ∀ O : Nat → Prop, O M → SubT w2 (subV M) O w1.heap.size N m.x := fun O h => ⟨M, rfl, hmm, h, by omega, by omega⟩
  rcases hf with ⟨hp, rfl⟩ | ⟨hp, rfl, hj, b, off, cap, rfl, hb0, hb1, hcell⟩
  · exact ⟨w1.heap.size, fun k => k = w1.heap.size ∨ k = M, fun k => k = w1.heap.size ∨ k = M, rfl, ⟨Ne.symm hx.ne, .inl rfl, fun k h => h, fun k h => by rcases h with rfl | rfl; exact hx.lt; exact hMlt, T, 0, 0, _, _, 0, hx.mem, .inr (.inr (.inr (.inr ⟨hp, rfl, rfl, sub _ (.inr rfl)⟩)))⟩,
      fun k h => by rcases h with rfl | rfl <;> omega, fun k h => .inl (by rcases h with rfl | rfl <;> omega), hbe⟩
  · have hcell2 : ∀ j, j < m.ts.length → w2.cell? ⟨b, off + j, none⟩ = some (.int .u64 (m.ts.getD j 0)) := fun j hj' =>
      (World.cell?_of_block (w := w1.alloc o) (a := ⟨b, off + j, none⟩) (hx.u.block b (by omega) (by omega))).trans (((below_alloc0 (Below.refl w1.heap.size w1) o).cell (p := ⟨b, off + j, none⟩) hb1).trans (hcell j hj'))
    have hsz := hx.u.size
    refine ⟨w1.heap.size, fun k => k = w1.heap.size ∨ k = M, fun k => k = w1.heap.size ∨ k = M ∨ k = b, rfl, ⟨Ne.symm hx.ne, .inl rfl, fun k h => ?_, fun k h => ?_, _, 0, 0, _, _, 0, hx.mem, .inr (.inl ⟨hp, rfl, rfl, hj.symm, sub _ (.inr rfl), b, off, m.ts.length, cap, rfl, rfl, by omega, .inr (.inr rfl), ?_, hcell2⟩)⟩, fun k h => ?_, fun k h => .inl ?_, hbe⟩
    · rcases h with h | h
      · exact .inl h
      · exact .inr (.inl h)
    · rcases h with rfl | rfl | rfl
      · exact hx.lt
      · exact hMlt
      · omega
    · show ¬ (b = w1.heap.size ∨ b = M); omega
    · rcases h with rfl | rfl <;> omega
    · rcases h with rfl | rfl | rfl <;> omega
set_option maxRecDepth 100000 in
set_option maxHeartbeats 4000000 in
theorem put_pkE {E : Nat → Prop} {c : Cfg} (hc : OkC c) (N : Nat) (A : Option Addr) (n cap : Nat) (ts : List Int) (w : World) (hm : Lay.IsMap w N c) (hn : n = ts.length) (hr : Reads .u64 w A ts) (hw : ∀ z ∈ ts, 0 ≤ z ∧ z ≤ 18446744073709551615) (hl : n ≤ 1000) (hcap : n ≤ cap) :
    Calls Tryz.prog 59 #[Lay.mapP N, .slice A n cap] w (NewP w c N E (pPut (gOf c) ts)) := by
  obtain ⟨k, hk⟩ : ∃ k : Nat, Lay.imin (n : Int) 4 = (k : Int) := ⟨(Lay.imin (n : Int) 4).toNat, by unfold Lay.imin; split <;> omega⟩
  have hk1 : k ≤ n ∧ k ≤ 4 ∧ (0 < n → 0 < k) ∧ k = (ts.take 4).length := by rw [List.length_take]; unfold Lay.imin at hk; split at hk <;> omega
  have e4 := slice_front A n cap k (by omega)
  have hr4 : Reads .u64 w A (ts.take 4) := fun h0 => by
    obtain ⟨b, off, e, hb, hcell⟩ := hr (by simp at h0; omega)
    refine ⟨b, off, e, hb, fun j hj => ?_⟩
    have hj4 : j < 4 := by simp at hj; omega
    rw [hcell j (by simp at hj; omega)]; simp [List.getD, List.getElem?_take, hj4]
  have HR := Lib.hid hr4; have HK := Lib.hid hk1; have HM := Lib.hid hm; have HC := Lib.hid hc
  by_cases h0 : n = 0
  · have hz : ts = [] := List.eq_nil_of_length_eq_zero (by omega)
    have hk0 : k = 0 := by omega
    subst hk0 h0
    have hk' : Lay.imin (0 : Int) 4 = 0 := by decide
    have e4' : ∀ w, (Instr.slice 33 (.slice A 0 cap) none (some (.int .i64 0)) none).run Tryz.prog w = .ok (.slice A 0 cap) w := e4
    clear e4
    have ep : pPut (gOf c) ts = ⟨1, 0, [], 0, 0, mnone⟩ := by unfold pPut; rw [if_pos hz]
    rw [ep]
    clear hn hr hw hl hcap hk hk1 hr4 hm hc hz ep
    go_enter Tryz.func59, Tryz.ntmps59
    go_wp2_with (first
      | (go_at_call 81; (with_reducible refine (clone_any A 0 cap (ts.take 4) _ HK.out.2.2.2 HR.out (by decide)).mono ?_); rintro r w1 ⟨v, rfl, ho⟩; obtain ⟨A1, c1, hv, _⟩ := ho.blk; rw [← HK.out.2.2.2] at hv; subst hv; have HB := Lib.hid ho.2; have HM1 := Lib.hid (HM.out.below ho.2); clear ho)
      | fail)
    go_ret
    exact newP_idle 1 HM1.out HB.out _
  · have hA : ∃ b off, A = some ⟨b, off, none⟩ := by obtain ⟨b, off, e, _⟩ := hr (by omega); exact ⟨b, off, e⟩
    have hk0 : 0 < k := by omega
    have d1 : ((k : Int) == 0) = false := by simp; omega
    have ep : pPut (gOf c) ts = ⟨1, 1, ts.take 4, 0, 0, mPop (spK c)⟩ := by unfold pPut; rw [if_neg (fun h => by rw [h] at hn; simp at hn; omega)]; rfl
    rw [ep]
    clear hn hr hw hcap hk1 hr4 hm hc ep
    go_enter Tryz.func59, Tryz.ntmps59
    go_wp2_with (first
      | (go_at_call 81; (with_reducible refine (clone_any A k cap (ts.take 4) _ HK.out.2.2.2 HR.out (by have := HK.out.1; omega)).mono ?_); rintro r w1 ⟨v, rfl, ho⟩; obtain ⟨A1, c1, hv, hrow⟩ := ho.blk; rw [← HK.out.2.2.2] at hv; subst hv; have HB := Lib.hid ho.2; have HM1 := Lib.hid (HM.out.below ho.2); have HROW := Lib.hid hrow; clear ho hrow)
      | (go_at_call 82; (with_reducible refine (look_any HC.out (pxt_new HM1.out _ _ _ _ _ _)).mono ?_); rintro r w2 ⟨rfl, M, hM, hmm, hx⟩; have HX := Lib.hid hx; have HMM := Lib.hid hmm; have HLT := Lib.hid hM; clear hx hmm hM)
      | fail)
    go_ret
    obtain ⟨b, off, rfl, hb0, hb1, hcell⟩ := HROW.out (by have := HK.out.2.2.2; omega)
    refine newP_sub HB.out HX.out HLT.out HMM.out HM1.out.1 (.inr ⟨rfl, rfl, rfl, b, off, c1, ?_, hb0, hb1, hcell⟩)
    rw [← HK.out.2.2.2]
theorem put_pk {c : Cfg} (hc : OkC c) (N : Nat) (A : Option Addr) (n cap : Nat) (ts : List Int) (w : World) (hm : Lay.IsMap w N c) (hn : n = ts.length) (hr : Reads .u64 w A ts) (hw : ∀ z ∈ ts, 0 ≤ z ∧ z ≤ 18446744073709551615) (hl : n ≤ 1000) (hcap : n ≤ cap) :
    Calls Tryz.prog 59 #[Lay.mapP N, .slice A n cap] w (NewP w c N (AtB A) (pPut (gOf c) ts)) := put_pkE hc N A n cap ts w hm hn hr hw hl hcap
theorem Pxt.more {w0 w1 w2 : World} {X N : Nat} {c : Cfg} {F : Nat → Prop} {T T' : Value} {pu tk pu' tk' : Int} {ot nx ot' nx' : Value} {pk pk' : Int} (h : Pxt w0 w1 X N c F T pu tk ot nx pk) (k : Pxt w1 w2 X N c (fun b => b = X) T' pu' tk' ot' nx' pk') : Pxt w0 w2 X N c F T' pu' tk' ot' nx' pk' :=
  ⟨k.mem, k.mp, k.ne, h.fx, h.u.trans k.u (fun _ x => x) (fun b _ e => e ▸ h.fx)⟩
theorem Pxt.self {w0 w1 : World} {X N : Nat} {c : Cfg} {F : Nat → Prop} {T : Value} {pu tk : Int} {ot nx : Value} {pk : Int} (h : Pxt w0 w1 X N c F T pu tk ot nx pk) : Pxt w1 w1 X N c (fun b => b = X) T pu tk ot nx pk := ⟨h.mem, h.mp, h.ne, rfl, .refl _ _⟩
theorem mm_kept {w w' : World} {M X : Nat} {lv : Value} {m : Sm} (h : MM w M lv m) (u : UF (fun b => b = X) w w') (hne : M ≠ X) : MM w' M lv m := (u.block M h.lt hne).trans h
set_option maxHeartbeats 4000000 in
theorem take_pk {c : Cfg} (hc : OkC c) (N : Nat) (w : World) (hm : Lay.IsMap w N c) :
    Calls Tryz.prog 157 #[Lay.mapP N] w (NewP w c N (fun _ => False) (pTake (gOf c))) := by
  have hmf : ∀ (fn : Fn) (first cap : Array Value) (w : World), (Instr.makeFunc fn first cap).run Tryz.prog w = .ok (.func fn first cap) w := fun _ _ _ _ => rfl
  have hp := pxt_new hm (.slice none 0 0) 0 0 .nilIface .nilFunc 0
  have HM := Lib.hid hm; have HC := Lib.hid hc
  have HP := Lib.hid hp
  clear hm hc hp
  go_enter Tryz.func157, Tryz.ntmps157
  go_wp2_with (first
    | (go_at_call 152; (with_reducible refine (Lay.pool_m HC.out N _ HP.out.mp).mono ?_); rintro r w3 ⟨rfl, hb⟩; have HP2 := Lib.hid (HP.out.step hb); clear hb)
    | (go_at_call 101; (with_reducible refine (popPo N _ (lk_of HC.out HP2.out.mp)).mono ?_); rintro r w4 ⟨M, rfl, hM, hmm, hb⟩; have HP3 := Lib.hid (HP2.out.step hb); have HMM := Lib.hid hmm; have HLT := Lib.hid (Nat.le_trans HP2.out.u.size hM); clear hb hmm hM)
    | (go_at_call 150; (with_reducible refine (endWith_any M HP3.out.self).mono ?_); rintro r w5 ⟨rfl, hx⟩; have HF := Lib.hid (HP3.out.more hx); have HMF := Lib.hid (mm_kept HMM.out hx.u (by have := HLT.out; simp at this; omega)); clear hx)
    | fail)
  go_ret
  exact newP_sub (m := pTake (gOf c)) (Below.refl _ _) HF.out HLT.out HMF.out HM.out.1 (.inl ⟨rfl, rfl⟩)
set_option maxHeartbeats 4000000 in
theorem back_pk {c : Cfg} (hc : OkC c) (N : Nat) (p : Int) (w : World) (hm : Lay.IsMap w N c) (hp : (Lit.int .i64 p).wf = true) :
    Calls Tryz.prog 159 #[Lay.mapP N, .int .i64 p] w (NewP w c N (fun _ => False) (pBack (pkn c) (gOf c) p)) := by
  have hmf : ∀ (fn : Fn) (first cap : Array Value) (w : World), (Instr.makeFunc fn first cap).run Tryz.prog w = .ok (.func fn first cap) w := fun _ _ _ _ => rfl
  obtain ⟨p0, p1⟩ : -9223372036854775808 ≤ p ∧ p ≤ 9223372036854775807 := by
    simp [Lit.wf, IntKind.min, IntKind.max, IntKind.bits, IntKind.signed] at hp
    omega
  have hn := pkn_is hc
  have hpp := pxt_new hm (.slice none 0 0) 0 0 .nilIface .nilFunc 0
  have HM := Lib.hid hm; have HC := Lib.hid hc
  have HP := Lib.hid hpp
  have HPR := Lib.hid (show -9223372036854775808 ≤ p ∧ p ≤ 9223372036854775807 from ⟨p0, p1⟩)
  clear hm hc hpp hp
  by_cases h1 : p < 1
  · have ep : pBack (pkn c) (gOf c) p = ⟨3, 0, [], 0, 0, mnone⟩ := by unfold pBack; rw [if_pos (.inl h1)]
    rw [ep]; clear ep hn
    go_enter Tryz.func159, Tryz.ntmps159
    go_wp2
    go_ret
    exact newP_idle 3 HM.out (Below.refl _ _) _
  · by_cases h2 : packN c < p
    · have ep : pBack (pkn c) (gOf c) p = ⟨3, 0, [], 0, 0, mnone⟩ := by unfold pBack; rw [if_pos (.inr (by omega))]
      rw [ep]; clear ep hn
      go_enter Tryz.func159, Tryz.ntmps159
      go_wp2_with (first
        | (go_at_call 54; (with_reducible refine (Lay.packets_m N _ HP.out.mp).mono ?_); rintro r w3 ⟨rfl, hb⟩; have HP2 := Lib.hid (HP.out.step hb); clear hb)
        | fail)
      go_ret
      exact newP_idle2 3 HP2.out
    · have ep : pBack (pkn c) (gOf c) p = ⟨3, 4, [], 0, 0, mPush (spK c) p⟩ := by unfold pBack; rw [if_neg (by omega)]; rfl
      rw [ep]; clear ep hn
      go_enter Tryz.func159, Tryz.ntmps159
      go_wp2_with (first
        | (go_at_call 54; (with_reducible refine (Lay.packets_m N _ HP.out.mp).mono ?_); rintro r w3 ⟨rfl, hb⟩; have HP2 := Lib.hid (HP.out.step hb); clear hb)
        | (go_at_call 52; (with_reducible refine (Lay.spare_m HC.out N _ HP2.out.mp).mono ?_); rintro r w3 ⟨rfl, hb⟩; have HP3 := Lib.hid (HP2.out.step hb); clear hb)
        | (go_at_call 151; (with_reducible refine (pushSp N p _ (lk_of HC.out HP3.out.mp) HPR.out).mono ?_); rintro r w4 ⟨M, rfl, hM, hmm, hb⟩; have HP4 := Lib.hid (HP3.out.step hb); have HMM := Lib.hid hmm; have HLT := Lib.hid (Nat.le_trans HP3.out.u.size hM); clear hb hmm hM)
        | (go_at_call 150; (with_reducible refine (endWith_any M HP4.out.self).mono ?_); rintro r w5 ⟨rfl, hx⟩; have HF := Lib.hid (HP4.out.more hx); have HMF := Lib.hid (mm_kept HMM.out hx.u (by have := HLT.out; simp at this; omega)); clear hx)
        | fail)
      go_ret
      exact newP_sub (m := ⟨3, 4, [], 0, 0, mPush (spK c) p⟩) (Below.refl _ _) HF.out HLT.out HMF.out HM.out.1 (.inl ⟨rfl, rfl⟩)
end Go.Proofs.YthoiaffeenhfgaaGreat
