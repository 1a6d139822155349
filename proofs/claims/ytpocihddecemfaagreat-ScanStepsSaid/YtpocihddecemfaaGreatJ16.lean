/-  -/
import Derived.Test.YtpocihddecemfaaGreatJ15
import Derived.Test.YtpocihddecemfaaGreatJ11
import Derived.Test.YtpocihddecemfaaGreatJ14
namespace Go.Proofs.YtpocihddecemfaaGreat
open Go.RowKit
set_option linter.unusedVariables false
set_option linter.unusedSimpArgs false
open Lay (plcc plc shOf packN nodesN OkC Cfg Norm firstV Rep lenL things)
variable {w0 : World} {X S D N M : Nat} {c : Cfg} {F : Nat → Prop} {T : Value} {pu tk : Int} {ot nx : Value} {pk : Int} {L L1 : List Int} {cc t : Int} {m m1 : Sm}
theorem Pxs.c03 {w w1 : World} (h : Pxs w w1 X S D N c F T pu tk ot nx pk L cc) : w1.cell? ⟨X, 0, none⟩ = some (Lay.mapP N) ∧ w1.cell? ⟨X, 2, none⟩ = some (.int .i64 pu) ∧ w1.cell? ⟨X, 3, none⟩ = some (.int .i64 tk) := h.x.c03
set_option maxHeartbeats 4000000 in
theorem putMany_any (w : World) (h : Pxs w w X S D N c F T pu tk ot nx pk L cc)
    (hc : OkC c) (h0 : 0 ≤ cc) (h1 : cc ≤ 1000000000) (ht : (Lit.int .i64 tk).wf = true) (p0 : 0 ≤ pu) (p1 : pu ≤ 4) :
    Calls Tryz.prog 171 #[ptr X, ptr S] w fun e w' => e = .returned (.tuple #[]) ∧ ∃ M', w.heap.size ≤ M' ∧ MM w' M' (lnkV N) (mPush (poK c) tk) ∧ Pxs w w' X S D N c F T pu tk (subV M') (fnv 181 X) pk (ptv L (plcc c 11 tk 0) pu) (cc + 1) := by
  have hmf : ∀ (fn : Fn) (first cap : Array Value) (w : World), (Instr.makeFunc fn first cap).run Tryz.prog w = .ok (.func fn first cap) w := fun _ _ _ _ => rfl
  obtain ⟨q0, q2, q3⟩ := h.c03
  have HMD := Lib.hid h.drew; clear h
  have HC := Lib.hid hc; clear hc
  have HT := Lib.hid ht
  have htk : -9223372036854775808 ≤ tk ∧ tk ≤ 9223372036854775807 := by
    simp [Lit.wf, IntKind.min, IntKind.max, IntKind.bits, IntKind.signed] at ht; omega
  have HTK := Lib.hid htk
  clear ht htk
  have ew : IntKind.u64.wrap pu = pu := by rw [IntKind.wrap_u64]; omega
  go_enter Tryz.func171, Tryz.ntmps171
  go_wp2
  go_region_held3 (fun w' => w'.cell? ⟨X, 0, none⟩ = some (Lay.mapP N) ∧ w'.cell? ⟨X, 2, none⟩ = some (.int .i64 pu) ∧ w'.cell? ⟨X, 3, none⟩ = some (.int .i64 tk))
    (first | exact HQ.out.c03 | exact HN.out.c03 | exact HMD.out.c03 | go_keep)
    (first
      | (go_at_call 175; (with_reducible refine (Lay.many_m HC.out N _ HT.out _ HMD.out.x.mp).mono ?_); rintro r w3 ⟨rfl, hb⟩; have HN := Lib.hid (HMD.out.step hb); clear hb)
      | (go_at_call 21; (with_reducible refine (put_any _ _ _ HN.out.st h0 h1).mono ?_); rintro r w4 ⟨rfl, hk⟩; have HQ := Lib.hid (HN.out.left hk); clear hk)
      | fail)
  have HMD2 := Lib.hid HQ.out.drew
  obtain ⟨r0, r2, r3⟩ := HQ.out.c03
  go_wp2
  go_region_held3 (fun w' => w'.cell? ⟨X, 0, none⟩ = some (Lay.mapP N) ∧ w'.cell? ⟨X, 2, none⟩ = some (.int .i64 pu) ∧ w'.cell? ⟨X, 3, none⟩ = some (.int .i64 tk))
    (first | exact HF.out.c03 | exact HQ2.out.c03 | exact HN2.out.c03 | exact HMD2.out.c03 | go_keep)
    (first
      | (go_at_call 178; (with_reducible refine (Lay.pool_m HC.out N _ HMD2.out.x.mp).mono ?_); rintro r w3 ⟨rfl, hb⟩; have HN2 := Lib.hid (HMD2.out.step hb); clear hb)
      | (go_at_call 177; (with_reducible refine (pushPo N _ _ (lk_of HC.out HN2.out.x.mp) HTK.out).mono ?_); rintro r w4 ⟨M, rfl, hM, hmm, hb⟩; have HQ2 := Lib.hid (HN2.out.step hb); have HMM := Lib.hid hmm; have HLT := Lib.hid hM; clear hb hmm hM)
      | (go_at_call 176; (with_reducible refine (endWith_any M HQ2.out.self).mono ?_); rintro r w5 ⟨rfl, hx⟩; have HF := Lib.hid (HQ2.out.more hx); have HU := Lib.hid hx.u; clear hx)
      | fail)
  all_goals
    have hx := HN2.out.x.lt
    have hl := HLT.out
    have hu := HN2.out.x.u.size
    have hne : M ≠ X := by omega
    go_returns
    exact ⟨rfl, M, by omega, (HU.out.block M HMM.out.lt hne).trans HMM.out, HF.out⟩
end Go.Proofs.YtpocihddecemfaaGreat

namespace Go.Proofs.YtpocihddecemfaaGreat
open Go.RowKit
set_option linter.unusedVariables false
set_option linter.unusedSimpArgs false
open Lay (plcc plc shOf packN nodesN OkC Cfg Norm firstV Rep lenL things)
theorem own_startU (w : World) (T : TypeId) : OwnI .u64 T w.heap.size w (w.alloc (.cells #[] T)) (.slice (some ⟨w.heap.size, 0, none⟩) 0 0) [] :=
  ⟨World.ownsRow_made w #[] 0 (Nat.le_refl _) (Nat.zero_le _) (by simp), below_alloc0 (Below.refl _ _) _⟩
theorem qnilU : ∀ (w : World) (a : Option Addr) (n c n' c' : Nat), (binOp .eql 26 (.slice a n c) (.slice none n' c')).run Tryz.prog w = .ok (.bool a.isNone) w := fun w a n c n' c' => Lib.run_eql_slice_nil w _ _ a n c n' c' Tryz.underlying26
theorem infoU : (Tryz.prog.info? 25).map (fun i => (i.zero, i.size, i.bytes)) = some (some (.int .u64 0), 1, 8) := by kernel_rfl
def NewU (zs : List Int) (w : World) (e : Ending) (w' : World) : Prop := ∃ v, e = .returned v ∧ OwnI .u64 25 w.heap.size w w' v zs
set_option maxRecDepth 100000 in
set_option maxHeartbeats 1600000 in
theorem clone_any (A : Option Addr) (n cap : Nat) (zs : List Int) (w : World) (hn : n = zs.length) (hr : Reads .u64 w A zs) (hl : n ≤ 1000) : Calls Tryz.prog 151 #[.slice A n cap] w (NewU zs w) := by
  cases A with
  | none =>
    have hz : zs = [] := by
      cases zs with
      | nil => rfl
      | cons a r => obtain ⟨b, off, e, _⟩ := hr (by simp); cases e
    subst hz
    clear hr
    have q := qnilU
    go_enter Tryz.func151, Tryz.ntmps151
    go_wp2
    go_ret
    exact ⟨_, rfl, OwnI.nil (Below.refl _ _)⟩
  | some a =>
    have HC : Hid (∀ j u, (zs.map (Value.int .u64))[j]? = some u → (w.alloc (.cells #[] 25)).cell? (a.add j) = some u) := Lib.hid fun j u hj => by
      have hlt : j < zs.length := by
        rcases Nat.lt_or_ge j zs.length with h | h
        · exact h
        · rw [List.getElem?_eq_none (by simpa using h)] at hj; cases hj
      obtain ⟨b, off, e, hb, hc⟩ := hr (by omega)
      cases e
      rw [map_get .u64 zs j hlt] at hj; cases hj
      rw [add_off]
      exact ((below_alloc0 (Below.refl _ _) (.cells #[] 25)).cell (p := ⟨b, off + j, none⟩) hb).trans (hc j hlt)
    have HN := Lib.hid hn; have HL := Lib.hid hl
    have HS := Lib.hid (own_startU w 25)
    clear hr hn hl
    have q := qnilU
    go_enter Tryz.func151, Tryz.ntmps151
    go_wp2_with (first
      | (at_builtin; obtain ⟨i0, hi0, hz0, hz1, hz2⟩ := info_parts infoU; refine wpList_append_own _ rfl _ _ 26 rfl w.heap.size 25 i0 _ 1 8 Tryz.underlying26 hi0 hz0 hz1 hz2 rfl (by decide) _ 0 [] rfl HS.out.1 a n cap (zs.map (Value.int .u64)) rfl (by rw [HN.out]; simp) HC.out (fun u hu => by obtain ⟨x, _, rfl⟩ := List.mem_map.1 hu; rfl) (by have := HL.out; unfold maxLen; omega) (by have := HL.out; omega) (by simp) ?_
         intro v' w1 h1 h2 _
         have HO : Hid (OwnI .u64 25 w.heap.size w w1 v' zs) := Lib.hid ⟨by simpa [HN.out] using h1, HS.out.2.grown h2 (by simp) (fun b hb => (HS.out.1.lt b hb).1)⟩
         clear h1 h2)
      | fail)
    go_ret
    exact ⟨_, rfl, HO.out⟩
set_option maxRecDepth 100000 in
theorem slice_front (A : Option Addr) (n cap k : Nat) (hc : k ≤ cap) (w : World) : (Instr.slice 26 (.slice A n cap) none (some (.int .i64 (k : Int))) none).run Tryz.prog w = .ok (.slice A k cap) w := by
  have e := run_slice_h (P := Tryz.prog) w 26 A n cap Tryz.underlying26 .i64 (k : Int) (by omega) (by omega)
  rw [e]
  cases A with
  | none => simp [sliced, go_sem]
  | some a => simp [sliced, go_sem, Addr.add]
end Go.Proofs.YtpocihddecemfaaGreat

namespace Go.Proofs.YtpocihddecemfaaGreat
open Go.RowKit
set_option linter.unusedVariables false
set_option linter.unusedSimpArgs false
open Lay (plcc plc shOf packN nodesN OkC Cfg Norm firstV Rep lenL things)
def RowT (w : World) (T : Value) (O D : Nat → Prop) (ts : List Int) : Prop :=
  ∃ b off n cap, T = .slice (some ⟨b, off, none⟩) n cap ∧ n = ts.length ∧ b < w.heap.size ∧ D b ∧ ¬ O b ∧ ∀ j, j < ts.length → w.cell? ⟨b, off + j, none⟩ = some (.int .u64 (ts.getD j 0))
def SubT (w : World) (ot : Value) (O : Nat → Prop) (X N : Nat) (m : Sm) : Prop := ∃ M, ot = subV M ∧ MM w M (lnkV N) m ∧ O M ∧ M ≠ X ∧ M ≠ N
def CellsT (w : World) (X N : Nat) (O D : Nat → Prop) (m : Pm) (T : Value) (pu tk : Int) (ot nx : Value) (pk : Int) : Prop :=
  (m.pc = 0 ∧ nx = .nilFunc ∧ pk = m.p) ∨
  (m.pc = 1 ∧ nx = fnv 161 X ∧ pk = 0 ∧ pu = m.j ∧ SubT w ot O X N m.x ∧ RowT w T O D m.ts) ∨
  (m.pc = 2 ∧ nx = fnv 166 X ∧ pk = 0 ∧ pu = m.j ∧ tk = m.p ∧ RowT w T O D m.ts) ∨
  (m.pc = 3 ∧ nx = fnv 171 X ∧ pk = 0 ∧ pu = m.j ∧ tk = m.p ∧ m.j = m.ts.length) ∨
  (m.pc = 4 ∧ nx = fnv 181 X ∧ pk = 0 ∧ SubT w ot O X N m.x)
def PKM (w : World) (X : Nat) (O D : Nat → Prop) (c : Cfg) (N : Nat) (m : Pm) : Prop :=
  X ≠ N ∧ O X ∧ (∀ k, O k → D k) ∧ (∀ k, D k → k < w.heap.size) ∧ ∃ T pu tk ot nx pk, Pmem w X N T pu tk ot nx pk ∧ CellsT w X N O D m T pu tk ot nx pk
theorem RowT.keep {w w' : World} {T : Value} {O D : Nat → Prop} {ts : List Int} (h : RowT w T O D ts) (hs : w.heap.size ≤ w'.heap.size) (hb : ∀ k, D k → w'.heap[k]? = w.heap[k]?) : RowT w' T O D ts := by
  obtain ⟨b, off, n, cap, h1, h2, h3, h4, h5, h6⟩ := h
  exact ⟨b, off, n, cap, h1, h2, Nat.lt_of_lt_of_le h3 hs, h4, h5, fun j hj => (World.cell?_of_block (w := w) (a := ⟨b, off + j, none⟩) (hb b h4)).trans (h6 j hj)⟩
theorem SubT.keep {w w' : World} {ot : Value} {O D : Nat → Prop} {X N : Nat} {m : Sm} (h : SubT w ot O X N m) (hO : ∀ k, O k → D k) (hb : ∀ k, D k → w'.heap[k]? = w.heap[k]?) : SubT w' ot O X N m := by
  obtain ⟨M, h1, h2, h3, h4⟩ := h
  exact ⟨M, h1, (hb M (hO M h3)).trans h2, h3, h4⟩
theorem PKM.ins {w : World} {X : Nat} {O D : Nat → Prop} {c : Cfg} {N : Nat} {m : Pm} (h : PKM w X O D c N m) : O X ∧ (∀ k, O k → D k) ∧ ∀ k, D k → k < w.heap.size := ⟨h.2.1, h.2.2.1, h.2.2.2.1⟩
theorem PKM.keep {w w' : World} {X : Nat} {O D : Nat → Prop} {c : Cfg} {N : Nat} {m : Pm} (h : PKM w X O D c N m) (hs : w.heap.size ≤ w'.heap.size) (hb : ∀ k, D k → w'.heap[k]? = w.heap[k]?) : PKM w' X O D c N m := by
  obtain ⟨h1, h2, h3, h4, T, pu, tk, ot, nx, pk, h5, h6⟩ := h
  refine ⟨h1, h2, h3, fun k hk => Nat.lt_of_lt_of_le (h4 k hk) hs, T, pu, tk, ot, nx, pk, (hb X (h3 X h2)).trans h5, ?_⟩
  rcases h6 with ⟨a, b, c⟩ | ⟨a, b, c, d, e, f⟩ | ⟨a, b, c, d, e, f⟩ | ⟨a, b, c, d, e, f⟩ | ⟨a, b, c, d⟩
  · exact .inl ⟨a, b, c⟩
  · exact .inr (.inl ⟨a, b, c, d, e.keep h3 hb, f.keep hs hb⟩)
  · exact .inr (.inr (.inl ⟨a, b, c, d, e, f.keep hs hb⟩))
  · exact .inr (.inr (.inr (.inl ⟨a, b, c, d, e, f⟩)))
  · exact .inr (.inr (.inr (.inr ⟨a, b, c, d.keep h3 hb⟩)))
def NewP (w : World) (c : Cfg) (N : Nat) (E : Nat → Prop) (m : Pm) (e : Ending) (w' : World) : Prop :=
  ∃ X O D, e = .returned (ptr X) ∧ PKM w' X O D c N m ∧ (∀ k, O k → w.heap.size ≤ k) ∧ (∀ k, D k → w.heap.size ≤ k ∨ E k) ∧ Below w.heap.size w w'
def AtB (A : Option Addr) (k : Nat) : Prop := ∃ off, A = some ⟨k, off, none⟩
theorem pxt_new {w : World} {N : Nat} {c : Cfg} (hm : Lay.IsMap w N c) (T : Value) (pu tk : Int) (ot nx : Value) (pk : Int) :
    Pxt (w.alloc (.cells #[Lay.mapP N, T, .int .i64 pu, .int .i64 tk, ot, nx, .int .i64 pk] 198)) (w.alloc (.cells #[Lay.mapP N, T, .int .i64 pu, .int .i64 tk, ot, nx, .int .i64 pk] 198)) w.heap.size N c (fun b => b = w.heap.size) T pu tk ot nx pk :=
  ⟨by unfold Pmem; show (w.heap.push _)[w.heap.size]? = _; simp, hm.below (below_alloc0 (Below.refl _ _) _), by have := hm.1; omega, rfl, .refl _ _⟩
theorem newP_idle {w w1 : World} {N : Nat} {c : Cfg} {E : Nat → Prop} (kd : Nat) (hm : Lay.IsMap w1 N c) (hb : Below w.heap.size w w1) (T : Value) :
    NewP w c N E ⟨kd, 0, [], 0, 0, mnone⟩ (.returned (ptr w1.heap.size)) (w1.alloc (.cells #[Lay.mapP N, T, .int .i64 0, .int .i64 0, .nilIface, .nilFunc, .int .i64 0] 198)) := by
  have p := pxt_new hm T 0 0 .nilIface .nilFunc 0
  refine ⟨w1.heap.size, fun k => k = w1.heap.size, fun k => k = w1.heap.size, rfl, ⟨Ne.symm p.ne, rfl, fun k h => h, fun k h => by subst h; exact p.lt, T, 0, 0, _, _, 0, p.mem, .inl ⟨rfl, rfl, rfl⟩⟩, fun k h => by subst h; exact hb.size, fun k h => .inl (by subst h; exact hb.size), below_step hb hb.size (below_alloc0 (Below.refl _ _) _)⟩
theorem newP_sub {w w1 w2 : World} {N M f : Nat} {c : Cfg} {E : Nat → Prop} {m : Pm} {T : Value} {o : Obj} (hb : Below w.heap.size w w1) (hx : Pxt (w1.alloc o) w2 w1.heap.size N c (fun b => b = w1.heap.size) T 0 0 (subV M) (fnv f w1.heap.size) 0)
    (hM : (w1.alloc o).heap.size ≤ M) (hmm : MM w2 M (lnkV N) m.x) (hN : N < w1.heap.size)
    (hf : m.pc = 4 ∧ f = 181 ∨ m.pc = 1 ∧ f = 161 ∧ m.j = 0 ∧ ∃ b off cap, T = .slice (some ⟨b, off, none⟩) m.ts.length cap ∧ w.heap.size ≤ b ∧ b < w1.heap.size ∧ ∀ j, j < m.ts.length → w1.cell? ⟨b, off + j, none⟩ = some (.int .u64 (m.ts.getD j 0))) :
    NewP w c N E m (.returned (ptr w1.heap.size)) w2 := by
  have hs := hb.size
  have hMlt := hmm.lt
  have hal : w1.heap.size < (w1.alloc o).heap.size := by simp
  have hbe : Below w.heap.size w w2 := below_uf (below_step hb hb.size (below_alloc0 (Below.refl _ _) o)) (Nat.le_refl _) hx.u (fun k e => e ▸ hs)
  have sub : ∀ O : Nat → Prop, O M → SubT w2 (subV M) O w1.heap.size N m.x := fun O h => ⟨M, rfl, hmm, h, by omega, by omega⟩
  rcases hf with ⟨hp, rfl⟩ | ⟨hp, rfl, hj, b, off, cap, rfl, hb0, hb1, hcell⟩
  · exact ⟨w1.heap.size, fun k => k = w1.heap.size ∨ k = M, fun k => k = w1.heap.size ∨ k = M, rfl, ⟨Ne.symm hx.ne, .inl rfl, fun k h => h, fun k h => by rcases h with rfl | rfl; exact hx.lt; exact hMlt, T, 0, 0, _, _, 0, hx.mem, .inr (.inr (.inr (.inr ⟨hp, rfl, rfl, sub _ (.inr rfl)⟩)))⟩,
      fun k h => by rcases h with rfl | rfl <;> omega, fun k h => .inl (by rcases h with rfl | rfl <;> omega), hbe⟩
  · have hcell2 : ∀ j, j < m.ts.length → w2.cell? ⟨b, off + j, none⟩ = some (.int .u64 (m.ts.getD j 0)) := fun j hj' =>
      (World.cell?_of_block (w := w1.alloc o) (a := ⟨b, off + j, none⟩) (hx.u.block b (by omega) (by omega))).trans (((below_alloc0 (Below.refl w1.heap.size w1) o).cell (p := ⟨b, off + j, none⟩) hb1).trans (hcell j hj'))
    have hsz := hx.u.size
    refine ⟨w1.heap.size, fun k => k = w1.heap.size ∨ k = M, fun k => k = w1.heap.size ∨ k = M ∨ k = b, rfl, ⟨Ne.symm hx.ne, .inl rfl, fun k h => ?_, fun k h => ?_, _, 0, 0, _, _, 0, hx.mem, .inr (.inl ⟨hp, rfl, rfl, hj.symm, sub _ (.inr rfl), b, off, m.ts.length, cap, rfl, rfl, by omega, .inr (.inr rfl), ?_, hcell2⟩)⟩, fun k h => ?_, fun k h => .inl ?_, hbe⟩
    · rcases h with h | h
      · exact .inl h
      · exact .inr (.inl h)
    · rcases h with rfl | rfl | rfl
      · exact hx.lt
      · exact hMlt
      · omega
    · show ¬ (b = w1.heap.size ∨ b = M); omega
    · rcases h with rfl | rfl <;> omega
    · rcases h with rfl | rfl | rfl <;> omega
set_option maxRecDepth 100000 in
set_option maxHeartbeats 4000000 in
theorem put_pkE {E : Nat → Prop} {c : Cfg} (hc : OkC c) (N : Nat) (A : Option Addr) (n cap : Nat) (ts : List Int) (w : World) (hm : Lay.IsMap w N c) (hn : n = ts.length) (hr : Reads .u64 w A ts) (hw : ∀ z ∈ ts, 0 ≤ z ∧ z ≤ 18446744073709551615) (hl : n ≤ 1000) (hcap : n ≤ cap) :
    Calls Tryz.prog 146 #[Lay.mapP N, .slice A n cap] w (NewP w c N E (pPut (gOf c) ts)) := by
  obtain ⟨k, hk⟩ : ∃ k : Nat, Lay.imin (n : Int) 4 = (k : Int) := ⟨(Lay.imin (n : Int) 4).toNat, by unfold Lay.imin; split <;> omega⟩
  have hk1 : k ≤ n ∧ k ≤ 4 ∧ (0 < n → 0 < k) ∧ k = (ts.take 4).length := by rw [List.length_take]; unfold Lay.imin at hk; split at hk <;> omega
  have e4 := slice_front A n cap k (by omega)
  have hr4 : Reads .u64 w A (ts.take 4) := fun h0 => by
    obtain ⟨b, off, e, hb, hcell⟩ := hr (by simp at h0; omega)
    refine ⟨b, off, e, hb, fun j hj => ?_⟩
    have hj4 : j < 4 := by simp at hj; omega
    rw [hcell j (by simp at hj; omega)]; simp [List.getD, List.getElem?_take, hj4]
  have HR := Lib.hid hr4; have HK := Lib.hid hk1; have HM := Lib.hid hm; have HC := Lib.hid hc
  by_cases h0 : n = 0
  · have hz : ts = [] := List.eq_nil_of_length_eq_zero (by omega)
    have hk0 : k = 0 := by omega
    subst hk0 h0
    have hk' : Lay.imin (0 : Int) 4 = 0 := by decide
    have e4' : ∀ w, (Instr.slice 26 (.slice A 0 cap) none (some (.int .i64 0)) none).run Tryz.prog w = .ok (.slice A 0 cap) w := e4
    clear e4
    have ep : pPut (gOf c) ts = ⟨1, 0, [], 0, 0, mnone⟩ := by unfold pPut; rw [if_pos hz]
    rw [ep]
    clear hn hr hw hl hcap hk hk1 hr4 hm hc hz ep
    go_enter Tryz.func146, Tryz.ntmps146
    go_wp2_with (first
      | (go_at_call 151; (with_reducible refine (clone_any A 0 cap (ts.take 4) _ HK.out.2.2.2 HR.out (by decide)).mono ?_); rintro r w1 ⟨v, rfl, ho⟩; obtain ⟨A1, c1, hv, _⟩ := ho.blk; rw [← HK.out.2.2.2] at hv; subst hv; have HB := Lib.hid ho.2; have HM1 := Lib.hid (HM.out.below ho.2); clear ho)
      | fail)
    go_ret
    exact newP_idle 1 HM1.out HB.out _
  · have hA : ∃ b off, A = some ⟨b, off, none⟩ := by obtain ⟨b, off, e, _⟩ := hr (by omega); exact ⟨b, off, e⟩
    have hk0 : 0 < k := by omega
    have d1 : ((k : Int) == 0) = false := by simp; omega
    have ep : pPut (gOf c) ts = ⟨1, 1, ts.take 4, 0, 0, mPop (spK c)⟩ := by unfold pPut; rw [if_neg (fun h => by rw [h] at hn; simp at hn; omega)]; rfl
    rw [ep]
    clear hn hr hw hcap hk1 hr4 hm hc ep
    go_enter Tryz.func146, Tryz.ntmps146
    go_wp2_with (first
      | (go_at_call 151; (with_reducible refine (clone_any A k cap (ts.take 4) _ HK.out.2.2.2 HR.out (by have := HK.out.1; omega)).mono ?_); rintro r w1 ⟨v, rfl, ho⟩; obtain ⟨A1, c1, hv, hrow⟩ := ho.blk; rw [← HK.out.2.2.2] at hv; subst hv; have HB := Lib.hid ho.2; have HM1 := Lib.hid (HM.out.below ho.2); have HROW := Lib.hid hrow; clear ho hrow)
      | (go_at_call 152; (with_reducible refine (look_any HC.out (pxt_new HM1.out _ _ _ _ _ _)).mono ?_); rintro r w2 ⟨rfl, M, hM, hmm, hx⟩; have HX := Lib.hid hx; have HMM := Lib.hid hmm; have HLT := Lib.hid hM; clear hx hmm hM)
      | fail)
    go_ret
    obtain ⟨b, off, rfl, hb0, hb1, hcell⟩ := HROW.out (by have := HK.out.2.2.2; omega)
    refine newP_sub HB.out HX.out HLT.out HMM.out HM1.out.1 (.inr ⟨rfl, rfl, rfl, b, off, c1, ?_, hb0, hb1, hcell⟩)
    rw [← HK.out.2.2.2]
theorem put_pk {c : Cfg} (hc : OkC c) (N : Nat) (A : Option Addr) (n cap : Nat) (ts : List Int) (w : World) (hm : Lay.IsMap w N c) (hn : n = ts.length) (hr : Reads .u64 w A ts) (hw : ∀ z ∈ ts, 0 ≤ z ∧ z ≤ 18446744073709551615) (hl : n ≤ 1000) (hcap : n ≤ cap) :
    Calls Tryz.prog 146 #[Lay.mapP N, .slice A n cap] w (NewP w c N (AtB A) (pPut (gOf c) ts)) := put_pkE hc N A n cap ts w hm hn hr hw hl hcap
end Go.Proofs.YtpocihddecemfaaGreat

namespace Go.Proofs.YtpocihddecemfaaGreat
open Go.RowKit
set_option linter.unusedVariables false
set_option linter.unusedSimpArgs false
open Lay (plcc plc shOf packN nodesN OkC Cfg Norm firstV Rep lenL things)
set_option maxHeartbeats 1000000 in
theorem pstep_raw (w : World) (X S f : Nat) (c5 : w.cell? ⟨X, 5, none⟩ = some (fnv f X)) (hen : ∀ a w, (callFunc f a).run Tryz.prog w = .ok (.enter f a) w) (b : Bool) (Q : World → Prop)
    (HN : Calls Tryz.prog f #[ptr X, ptr S] w fun e w' => e = .returned (.tuple #[]) ∧ Q w') (hQ : ∀ w', Q w' → (b = true ∧ w'.cell? ⟨X, 5, none⟩ = some .nilFunc) ∨ (b = false ∧ ∃ f', w'.cell? ⟨X, 5, none⟩ = some (fnv f' X))) :
    Calls Tryz.prog 154 #[ptr X, ptr S] w fun e w' => e = .returned (.bool b) ∧ Q w' := by
  cases b
  · have HNN := Lib.hid HN; have HQ := Lib.hid hQ; clear HN hQ
    go_enter Tryz.func154, Tryz.ntmps154
    go_wp2_with (first
      | ((with_reducible refine HNN.out.mono ?_); rintro r w1 ⟨rfl, hk⟩; have HK := Lib.hid hk; obtain ⟨f', d4⟩ : ∃ f', w1.cell? ⟨X, 5, none⟩ = some (fnv f' X) := (by rcases HQ.out w1 hk with ⟨h, _⟩ | ⟨_, h⟩; cases h; exact h); clear hk)
      | fail)
    go_ret
    exact ⟨rfl, HK.out⟩
  · have HNN := Lib.hid HN; have HQ := Lib.hid hQ; clear HN hQ
    go_enter Tryz.func154, Tryz.ntmps154
    go_wp2_with (first
      | ((with_reducible refine HNN.out.mono ?_); rintro r w1 ⟨rfl, hk⟩; have HK := Lib.hid hk; have d4 : w1.cell? ⟨X, 5, none⟩ = some .nilFunc := (by rcases HQ.out w1 hk with ⟨_, h⟩ | ⟨h, _⟩; exact h; cases h); clear hk)
      | fail)
    go_ret
    exact ⟨rfl, HK.out⟩
set_option maxHeartbeats 1000000 in
theorem pstep_off (w : World) (X : Nat) (v : Value) (c5 : w.cell? ⟨X, 5, none⟩ = some .nilFunc) :
    Calls Tryz.prog 154 #[ptr X, v] w fun e w' => e = .returned (.bool true) ∧ w = w' := by
  go_enter Tryz.func154, Tryz.ntmps154
  go_wp2
  go_ret
  exact ⟨rfl, rfl⟩
def pcost (m : Pm) (cc : Int) : Int := if m.pc = 0 then cc else cc + 1
def Behind (w : World) (S D : Nat) (c : Cfg) (N X : Nat) (O Dp : Nat → Prop) (L : List Int) (cc : Int) (m : Pm) (w' : World) : Prop :=
  (∃ O' D', PKM w' X O' D' c N m ∧ (∀ k, O' k → O k ∨ w.heap.size ≤ k) ∧ (∀ k, D' k → Dp k ∨ w.heap.size ≤ k)) ∧ St w' S D L cc ∧ UF (fun k => k = S ∨ k = D ∨ O k) w w'
theorem Pxs.start {w : World} {X S D N : Nat} {c : Cfg} {O Dp : Nat → Prop} {m : Pm} {T : Value} {pu tk : Int} {ot nx : Value} {pk : Int} {L : List Int} {cc : Int} (h0 : X ≠ N) (h1 : O X) (h2 : ∀ k, O k → Dp k) (h5 : Pmem w X N T pu tk ot nx pk) (hs : St w S D L cc) (hm : Lay.IsMap w N c) (a1 : ¬ Dp S) (a2 : ¬ Dp D) (a4 : N ≠ S) (a5 : N ≠ D) :
    Pxs w w X S D N c (fun k => k = S ∨ k = D ∨ O k) T pu tk ot nx pk L cc :=
  ⟨⟨h5, hm, Ne.symm h0, .inr (.inr h1), .refl _ _⟩, hs, ⟨fun e => a1 (e ▸ h2 X h1), fun e => a2 (e ▸ h2 X h1), a4, a5⟩, .inl rfl, .inr (.inl rfl)⟩
theorem Pxs.toB0 {w w' : World} {X S D N : Nat} {c : Cfg} {O Dp : Nat → Prop} {m : Pm} {T : Value} {pu tk : Int} {ot nx : Value} {pk : Int} {L : List Int} {cc : Int} (h : Pxs w w' X S D N c (fun k => k = S ∨ k = D ∨ O k) T pu tk ot nx pk L cc) (h1 : O X) (h2 : ∀ k, O k → Dp k) (h4 : ∀ k, Dp k → k < w.heap.size)
    (O' : Nat → Prop) (hO : O' X) (hO2 : ∀ k, O' k → (O k ∨ w.heap.size ≤ k) ∧ k < w'.heap.size) (hc : CellsT w' X N O' (fun k => Dp k ∨ O' k) m T pu tk ot nx pk) : Behind w S D c N X O Dp L cc m w' := by
  have hu := h.x.u.size
  refine ⟨⟨O', fun k => Dp k ∨ O' k, ⟨Ne.symm h.x.ne, hO, fun k hk => .inr hk, fun k hk => ?_, T, pu, tk, ot, nx, pk, h.x.mem, hc⟩, fun k hk => (hO2 k hk).1, fun k hk => ?_⟩, h.st, h.x.u⟩
  · rcases hk with hk | hk
    · have := h4 k hk; omega
    · exact (hO2 k hk).2
  · rcases hk with hk | hk
    · exact .inl hk
    · rcases (hO2 k hk).1 with a | a
      · exact .inl (h2 k a)
      · exact .inr a
end Go.Proofs.YtpocihddecemfaaGreat

namespace Go.Proofs.YtpocihddecemfaaGreat
open Go.RowKit
set_option linter.unusedVariables false
set_option linter.unusedSimpArgs false
open Lay (plcc plc shOf packN nodesN OkC Cfg Norm firstV Rep lenL things)
theorem RowT.uf {w w' : World} {T : Value} {O Dp O' D' : Nat → Prop} {S D : Nat} {ts : List Int} (h : RowT w T O Dp ts) (u : UF (fun k => k = S ∨ k = D ∨ O k) w w') (a1 : ¬ Dp S) (a2 : ¬ Dp D) (hD : ∀ k, Dp k → D' k) (hO : ∀ k, O' k → O k ∨ w.heap.size ≤ k) : RowT w' T O' D' ts := by
  obtain ⟨b, off, n, cap, h1, h2, h3, h4, h5, h6⟩ := h
  refine ⟨b, off, n, cap, h1, h2, Nat.lt_of_lt_of_le h3 u.size, hD b h4, fun hh => ?_, fun j hj => (World.cell?_of_block (w := w) (a := ⟨b, off + j, none⟩) (u.block b h3 ?_)).trans (h6 j hj)⟩
  · rcases hO b hh with x | x
    · exact h5 x
    · omega
  · intro hh
    rcases hh with rfl | rfl | hh
    · exact a1 h4
    · exact a2 h4
    · exact h5 hh
section
variable {w : World} {X S D N : Nat} {c : Cfg} {O Dp : Nat → Prop} {m : Pm} {L : List Int} {cc t : Int}
theorem pmem5 {T : Value} {pu tk : Int} {ot nx : Value} {pk : Int} (h : Pmem w X N T pu tk ot nx pk) : w.cell? ⟨X, 5, none⟩ = some nx := by unfold Pmem at h; simp [World.cell?, h]
theorem Behind.nx {w' : World} (h : Behind w S D c N X O Dp L cc m w') : (decide (m.pc = 0) = true ∧ w'.cell? ⟨X, 5, none⟩ = some .nilFunc) ∨ (decide (m.pc = 0) = false ∧ ∃ f', w'.cell? ⟨X, 5, none⟩ = some (fnv f' X)) := by
  obtain ⟨⟨O', D', ⟨_, _, _, _, T, pu, tk, ot, nx, pk, h5, h6⟩, _⟩, _⟩ := h
  have c5 := pmem5 h5
  rcases h6 with ⟨a, b, _⟩ | ⟨a, b, _⟩ | ⟨a, b, _⟩ | ⟨a, b, _⟩ | ⟨a, b, _⟩
  · exact .inl ⟨by simpa using a, by rw [c5, b]⟩
  all_goals exact .inr ⟨by simp [a], _, by rw [c5, b]⟩
theorem of_part {f : Nat} {T : Value} {pu tk : Int} {ot : Value} {pk : Int} {L' : List Int} {cc' : Int} {m' : Pm} (h5 : Pmem w X N T pu tk ot (fnv f X) pk) (hen : ∀ a w, (callFunc f a).run Tryz.prog w = .ok (.enter f a) w)
    (H : Calls Tryz.prog f #[ptr X, ptr S] w fun e w' => e = .returned (.tuple #[]) ∧ Behind w S D c N X O Dp L' cc' m' w') :
    Calls Tryz.prog 154 #[ptr X, ptr S] w fun e w' => e = .returned (.bool (decide (m'.pc = 0))) ∧ Behind w S D c N X O Dp L' cc' m' w' :=
  pstep_raw w X S f (pmem5 h5) hen _ _ H fun w' h => h.nx
theorem step_pk' (hc : OkC c) (h : PKM w X O Dp c N m) (hs : St w S D L cc) (hm : Lay.IsMap w N c) (a1 : ¬ Dp S) (a2 : ¬ Dp D) (a3 : ¬ O N) (a4 : N ≠ S) (a5 : N ≠ D)
    (wm : PW c t m) (ww : WW L) (h0 : 0 ≤ cc) (h1 : cc ≤ 900000000) (ht : t ≤ 900000000) :
    Calls Tryz.prog 154 #[ptr X, ptr S] w fun e w' => e = .returned (.bool (decide ((pstp (gOf c) L m).2.pc = 0))) ∧ Behind w S D c N X O Dp (pstp (gOf c) L m).1 (pcost m cc) (pstp (gOf c) L m).2 w' := by
  obtain ⟨g1, g2, g3, g4, T, pu, tk, ot, nx, pk, h5, h6⟩ := id h
  have wfp : (Lit.int .i64 m.p).wf = true := Lay.wf_i64 (by have := wm.p; omega) (by have := wm.p; omega)
  rcases h6 with ⟨p0, rfl, _⟩ | ⟨p1, rfl, rfl, rfl, sub, row⟩ | ⟨p2, rfl, rfl, rfl, rfl, row⟩ | ⟨p3, rfl, rfl, rfl, rfl, hj⟩ | ⟨p4, rfl, rfl, sub⟩
  · have e : pstp (gOf c) L m = (L, m) := by simp [pstp, p0]
    rw [e]
    refine (pstep_off w X (ptr S) (pmem5 h5)).mono ?_
    rintro e w' ⟨rfl, rfl⟩
    refine ⟨by simp [p0], ⟨O, Dp, h, fun k hk => .inl hk, fun k hk => .inl hk⟩, ?_, .refl _ _⟩
    unfold pcost; rw [if_pos p0]; exact hs
  · obtain ⟨M, rfl, hmm, oM, hMX, hMN⟩ := sub
    obtain ⟨wx, kx, kd, px⟩ := wm.x1 p1
    have hX := Pxs.start (m := m) g1 g2 g3 h5 hs hm a1 a2 a4 a5
    have hMS : M ≠ S := fun e => a1 (e ▸ g3 M oM)
    have hMD : M ≠ D := fun e => a2 (e ▸ g3 M oM)
    have hl : m.x.k.links = lnkL c := by rw [kx]; rfl
    have hcs : cst m.x cc = pcost m cc := by unfold cst pcost; rw [if_neg px, if_neg (by omega)]
    obtain ⟨⟨L1, m1⟩, hz⟩ : ∃ z : List Int × Sm, sstp L m.x = z := ⟨_, rfl⟩
    by_cases e1 : m1.pc = 0
    · by_cases e2 : m1.item = 0
      · have e : pstp (gOf c) L m = (L1, { m with x := mPop (spK c), p := 0 }) := by simp [pstp, p1, hz, e1, e2]; rfl
        rw [e]
        refine of_part h5 (by simp [go_sem]) ((take_again w hX hmm hl ⟨hMX, hMS, hMD, hMN⟩ (.inr (.inr oM)) hc wx ww h0 (by omega) (by omega) hz e1 e2).mono ?_)
        rintro r w' ⟨rfl, M', hM', mm', hx⟩
        have hXl := hX.x.lt
        refine ⟨rfl, ?_⟩
        rw [← hcs]
        refine hx.toB0 g2 g3 g4 (fun k => O k ∨ k = M') (.inl g2) (fun k hk => ?_) (.inr (.inl ⟨p1, rfl, rfl, rfl, ⟨M', rfl, mm', .inr rfl, by omega, by have := hm.1; omega⟩, row.uf hx.x.u a1 a2 (fun k hk => .inl hk) (fun k hk => ?_)⟩))
        · rcases hk with hk | rfl
          · exact ⟨.inl hk, by have := g4 k (g3 k hk); have := hx.x.u.size; omega⟩
          · exact ⟨.inr hM', mm'.lt⟩
        · rcases hk with hk | rfl
          · exact .inl hk
          · exact .inr hM'
      · have e : pstp (gOf c) L m = (L1, { m with x := m1, p := m1.item, pc := 2 }) := by simp [pstp, p1, hz, e1, e2]
        rw [e]
        refine of_part h5 (by simp [go_sem]) ((take_got w hX hmm hl ⟨hMX, hMS, hMD, hMN⟩ (.inr (.inr oM)) hc wx ww h0 (by omega) (by omega) hz e1 e2).mono ?_)
        rintro r w' ⟨rfl, hx⟩
        refine ⟨rfl, ?_⟩
        rw [← hcs]
        exact hx.toB0 g2 g3 g4 O g2 (fun k hk => ⟨.inl hk, by have := g4 k (g3 k hk); have := hx.x.u.size; omega⟩) (.inr (.inr (.inl ⟨rfl, rfl, rfl, rfl, rfl, row.uf hx.x.u a1 a2 (fun k hk => .inl hk) (fun k hk => .inl hk)⟩)))
    · have e : pstp (gOf c) L m = (L1, { m with x := m1 }) := by simp [pstp, p1, hz, e1]
      rw [e]
      refine of_part h5 (by simp [go_sem]) ((take_on w hX hmm hl ⟨hMX, hMS, hMD, hMN⟩ (.inr (.inr oM)) hc wx ww h0 (by omega) (by omega) hz e1).mono ?_)
      rintro r w' ⟨rfl, hx, mm'⟩
      refine ⟨rfl, ?_⟩
      rw [← hcs]
      exact hx.toB0 g2 g3 g4 O g2 (fun k hk => ⟨.inl hk, by have := g4 k (g3 k hk); have := hx.x.u.size; omega⟩) (.inr (.inl ⟨p1, rfl, rfl, rfl, ⟨M, rfl, mm', oM, hMX, hMN⟩, row.uf hx.x.u a1 a2 (fun k hk => .inl hk) (fun k hk => .inl hk)⟩))
  · have hX := Pxs.start (m := m) g1 g2 g3 h5 hs hm a1 a2 a4 a5
    have row' := row
    obtain ⟨b, off, n, cap, rfl, hn, hb, db, ob, hcell⟩ := row
    obtain ⟨j, hj⟩ : ∃ j : Nat, m.j = (j : Int) := ⟨m.j.toNat, by have := wm.j; omega⟩
    have hjl : j < m.ts.length := by have := wm.j.2.2 p2; omega
    have htl := wm.tl
    rw [hj] at h5 hX
    have e : pstp (gOf c) L m = (ptq L (plcc c 13 m.p j) (m.ts.getD j 0), { m with j := (j : Int) + 1, pc := if j + 1 = n then 3 else 2 }) := by
      have e2 : ((j : Int) + 1 = m.ts.length) = (j + 1 = n) := by rw [eq_iff_iff]; omega
      simp [pstp, p2, hj, e2]; rfl
    rw [e]
    have hco : pcost m cc = cc + 1 := by unfold pcost; rw [if_neg (by omega)]
    refine of_part h5 (by simp [go_sem]) ((putTask_any w hX hb (fun hh => by rcases hh with rfl | rfl | hh; exact a1 db; exact a2 db; exact ob hh) (hcell j hjl) (by omega) (by omega) hc h0 (by omega) wfp).mono ?_)
    rintro r w' ⟨rfl, hx⟩
    refine ⟨rfl, ?_⟩
    rw [ptv_eq] at hx
    rw [hco]
    have row2 := row'.uf (O' := O) (D' := fun k => Dp k ∨ O k) hx.x.u a1 a2 (fun k hk => .inl hk) (fun k hk => .inl hk)
    refine hx.toB0 g2 g3 g4 O g2 (fun k hk => ⟨.inl hk, by have := g4 k (g3 k hk); have := hx.x.u.size; omega⟩) ?_
    by_cases hl : j + 1 = n
    · rw [if_pos hl, if_pos hl]
      exact .inr (.inr (.inr (.inl ⟨rfl, rfl, rfl, rfl, rfl, by show (j : Int) + 1 = _; simp only; omega⟩)))
    · rw [if_neg hl, if_neg hl]
      exact .inr (.inr (.inl ⟨rfl, rfl, rfl, rfl, rfl, row2⟩))
  · have hX := Pxs.start (m := m) g1 g2 g3 h5 hs hm a1 a2 a4 a5
    have e : pstp (gOf c) L m = (ptq L (plcc c 11 m.p 0) m.j, { m with x := mPush (poK c) m.p, pc := 4 }) := by
      simp [pstp, p3, hj]; exact ⟨rfl, rfl⟩
    rw [e]
    have hco : pcost m cc = cc + 1 := by unfold pcost; rw [if_neg (by omega)]
    refine of_part h5 (by simp [go_sem]) ((putMany_any w hX hc h0 (by omega) wfp wm.j.1 wm.j.2.1).mono ?_)
    rintro r w' ⟨rfl, M', hM', mm', hx⟩
    refine ⟨rfl, ?_⟩
    rw [ptv_eq] at hx
    rw [hco]
    have hXl := hX.x.lt
    refine hx.toB0 g2 g3 g4 (fun k => O k ∨ k = M') (.inl g2) (fun k hk => ?_) (.inr (.inr (.inr (.inr ⟨rfl, rfl, rfl, M', rfl, mm', .inr rfl, by omega, by have := hm.1; omega⟩))))
    rcases hk with hk | rfl
    · exact ⟨.inl hk, by have := g4 k (g3 k hk); have := hx.x.u.size; omega⟩
    · exact ⟨.inr hM', mm'.lt⟩
  · obtain ⟨M, rfl, hmm, oM, hMX, hMN⟩ := sub
    obtain ⟨wx, hl, px⟩ := wm.x4 p4
    have hX := Pxs.start (m := m) g1 g2 g3 h5 hs hm a1 a2 a4 a5
    have hMS : M ≠ S := fun e => a1 (e ▸ g3 M oM)
    have hMD : M ≠ D := fun e => a2 (e ▸ g3 M oM)
    have hcs : cst m.x cc = pcost m cc := by unfold cst pcost; rw [if_neg px, if_neg (by omega)]
    obtain ⟨⟨L1, m1⟩, hz⟩ : ∃ z : List Int × Sm, sstp L m.x = z := ⟨_, rfl⟩
    by_cases e1 : m1.pc = 0
    · have e : pstp (gOf c) L m = (L1, { m with x := m1, p := m1.item, pc := 0 }) := by simp [pstp, p4, hz, e1]
      rw [e]
      refine of_part h5 (by simp [go_sem]) ((end_done w hX hmm hl ⟨hMX, hMS, hMD, hMN⟩ (.inr (.inr oM)) hc wx ww h0 (by omega) (by omega) hz e1).mono ?_)
      rintro r w' ⟨rfl, hx⟩
      refine ⟨rfl, ?_⟩
      rw [← hcs]
      exact hx.toB0 g2 g3 g4 O g2 (fun k hk => ⟨.inl hk, by have := g4 k (g3 k hk); have := hx.x.u.size; omega⟩) (.inl ⟨rfl, rfl, rfl⟩)
    · have e : pstp (gOf c) L m = (L1, { m with x := m1 }) := by simp [pstp, p4, hz, e1]
      rw [e]
      refine of_part h5 (by simp [go_sem]) ((end_on w hX hmm hl ⟨hMX, hMS, hMD, hMN⟩ (.inr (.inr oM)) hc wx ww h0 (by omega) (by omega) hz e1).mono ?_)
      rintro r w' ⟨rfl, hx, mm'⟩
      refine ⟨rfl, ?_⟩
      rw [← hcs]
      exact hx.toB0 g2 g3 g4 O g2 (fun k hk => ⟨.inl hk, by have := g4 k (g3 k hk); have := hx.x.u.size; omega⟩) (.inr (.inr (.inr (.inr ⟨p4, rfl, rfl, M, rfl, mm', oM, hMX, hMN⟩))))
theorem step_pk {c : Cfg} (hc : OkC c) {w : World} {X S D N : Nat} {O Dp : Nat → Prop} {m : Pm} {L : List Int} {cc t : Int} (h : PKM w X O Dp c N m) (hs : St w S D L cc) (hm : Lay.IsMap w N c) (a1 : ¬ Dp S) (a2 : ¬ Dp D) (a3 : ¬ O N) (a4 : N ≠ S) (a5 : N ≠ D)
    (wm : PW c t m) (ww : WW L) (h0 : 0 ≤ cc) (h1 : cc ≤ 900000000) (ht : t ≤ 900000000) :
    Calls Tryz.prog 154 #[ptr X, ptr S] w fun e w' => e = .returned (.bool (decide ((pstp (gOf c) L m).2.pc = 0))) ∧
      (∃ O' D', PKM w' X O' D' c N (pstp (gOf c) L m).2 ∧ (∀ k, O' k → O k ∨ w.heap.size ≤ k) ∧ (∀ k, D' k → Dp k ∨ w.heap.size ≤ k)) ∧ St w' S D (pstp (gOf c) L m).1 (pcost m cc) ∧ UF (fun k => k = S ∨ k = D ∨ O k) w w' :=
  (step_pk' hc h hs hm a1 a2 a3 a4 a5 wm ww h0 h1 ht).mono fun _ _ ⟨a, b, c, d⟩ => ⟨a, b, c, d⟩
end
end Go.Proofs.YtpocihddecemfaaGreat
