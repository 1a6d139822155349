/- The document's own packet machines, begun, and what they tell; walked. -/
import Derived.Test.YtbpfkhpnfkbacaaGreatJ16
import Derived.Test.YtbpfkhpnfkbacaaGreatRefSt
import Derived.Test.YtbpfkhpnfkbacaaGreatPut13
namespace Go.Proofs.YtbpfkhpnfkbacaaGreat
open Go.RowKit
set_option linter.unusedVariables false
set_option linter.unusedSimpArgs false
open Lay (plcc plc shOf packN nodesN OkC Cfg Norm firstV Rep lenL things)

/-- The document's own machine, as a value. -/
abbrev pmV (kd pc : Int) (T : Option Addr) (tn tc : Nat) (j p : Int) (kx px hd : Int) (A : Option Addr) (n cap : Nat) (it h li tr : Int) : Value := .agg #[.int .i64 kd, .int .i64 pc, .slice T tn tc, .int .i64 j, .int .i64 p, .int .i64 kx, .int .i64 px, .int .i64 hd, .slice A n cap, .int .u32 it, .int .u64 h, .int .u32 li, .int .i64 tr]
abbrev pmVm (m : Pm) (T : Option Addr) (tn tc : Nat) (A : Option Addr) (n cap : Nat) : Value := pmV m.kind m.pc T tn tc m.j m.p m.x.kind m.x.pc m.x.k.head A n cap m.x.item m.x.h m.x.link m.x.tries
/-- It stands for m. -/
def RPm (Q : Nat → Prop) (w : World) (m : Pm) (v : Value) : Prop := ∃ T tn tc A n cap, v = pmVm m T tn tc A n cap ∧ tn = m.ts.length ∧ Reads .u64 w T m.ts ∧ n = m.x.k.links.length ∧ Reads .i64 w A m.x.k.links ∧ (0 < m.ts.length → ∀ a, T = some a → Q a.block) ∧ (0 < m.x.k.links.length → ∀ a, A = some a → Q a.block)
theorem RPm.below {Q : Nat → Prop} {w w' : World} {m : Pm} {v : Value} (h : RPm Q w m v) (hb : Below w.heap.size w w') : RPm Q w' m v := by
  obtain ⟨T, tn, tc, A, n, cap, e, h1, h2, h3, h4, h5, h6⟩ := h
  exact ⟨T, tn, tc, A, n, cap, e, h1, h2.below hb (Nat.le_refl _), h3, h4.below hb (Nat.le_refl _), h5, h6⟩
def SomePm (Q : Nat → Prop) (m : Pm) (w : World) (e : Ending) (w' : World) : Prop := ∃ v, e = .returned v ∧ RPm Q w' m v ∧ Below w.heap.size w w'
theorem reads_nil (k : IntKind) (w : World) (A : Option Addr) : Reads k w A [] := fun h => absurd h (by simp)

theorem Reads.put {k : IntKind} {w w' : World} {A : Option Addr} {zs : List Int} {B : Nat} (h : Reads k w A zs) (u : Upd B B w w') (hB : ∀ a, A = some a → a.block ≠ B) : Reads k w' A zs := fun h0 => by
  obtain ⟨b, off, e, hlt, hc⟩ := h h0
  have hb := hB _ e
  exact ⟨b, off, e, Nat.lt_of_lt_of_le hlt u.size, fun j hj => (World.cell?_of_block (w := w) (a := ⟨b, off + j, none⟩) (u.block b hlt hb hb)).trans (hc j hj)⟩
/-- A map's box, and the result's place. -/
structure PB (w w' : World) (A : Option Addr) (n cap : Nat) (P : Int) : Prop where
  bel : Below w.heap.size w w'
  ba : w'.heap[w.heap.size]? = some (.cells #[.slice A n cap, .int .i64 P] 35 (0, 0))
  br : w'.heap[w.heap.size + 1]? = some (.cells #[.int .i64 0, .int .i64 0, .slice none 0 0, .int .i64 0, .int .i64 0, .int .i64 0, .int .i64 0, .int .i64 0, .slice none 0 0, .int .u32 0, .int .u64 0, .int .u32 0, .int .i64 0] 53 (0, 0))
section
variable {w w' w2 : World} {A : Option Addr} {n cap : Nat} {P : Int} {u0 u1 u2 u3 u4 u5 u6 u7 u8 u9 u10 u11 u12 : Value}
theorem PB.step (k : PB w w' A n cap P) (hb : Below w'.heap.size w' w2) : PB w w2 A n cap P :=
  ⟨below_step k.bel k.bel.size hb, (hb.block _ (Array.getElem?_eq_some_iff.1 k.ba).1).trans k.ba, (hb.block _ (Array.getElem?_eq_some_iff.1 k.br).1).trans k.br⟩
theorem PB.lt (k : PB w w' A n cap P) : w.heap.size + 1 < w'.heap.size := (Array.getElem?_eq_some_iff.1 k.br).1
theorem PB.cells (k : PB w w' A n cap P) : w'.cell? ⟨w.heap.size, 0, none⟩ = some (.slice A n cap) ∧ w'.cell? ⟨w.heap.size, 1, none⟩ = some (.int .i64 P) := by
  have := k.ba
  constructor <;> simp [World.cell?, this]
theorem PB.hiK (k : PB w w' A n cap P) {K : Option Addr} (h : ∀ a, K = some a → w'.heap.size < a.block) : ∀ a, K = some a → a.block ≠ w.heap.size + 1 := fun a e => by
  have := h a e; have := k.lt; omega
theorem PB.fro (k : PB w w' A n cap P) (j : Nat) : w'.frozen? ⟨w.heap.size + 1, j, none⟩ = false := frozen_of_row w' _ j _ _ k.br
theorem PB.new (w : World) (A : Option Addr) (n cap : Nat) (P : Int) : PB w ((w.alloc (.cells #[.slice A n cap, .int .i64 P] 35)).alloc (.cells #[.int .i64 0, .int .i64 0, .slice none 0 0, .int .i64 0, .int .i64 0, .int .i64 0, .int .i64 0, .int .i64 0, .slice none 0 0, .int .u32 0, .int .u64 0, .int .u32 0, .int .i64 0] 53)) A n cap P := by
  obtain ⟨W, hW⟩ : ∃ W, W = w.alloc (.cells #[.slice A n cap, .int .i64 P] 35) := ⟨_, rfl⟩
  have e1 : W.heap.size = w.heap.size + 1 := by rw [hW]; simp
  have h0 : W.heap[w.heap.size]? = some (.cells #[.slice A n cap, .int .i64 P] 35 (0, 0)) := by
    rw [hW]; show (w.heap.push _)[w.heap.size]? = _
    exact Array.getElem?_push_size
  have hb0 : Below w.heap.size w W := by rw [hW]; exact below_alloc0 (Below.refl _ _) _
  rw [← hW]
  have hb : Below W.heap.size W (W.alloc (.cells #[.int .i64 0, .int .i64 0, .slice none 0 0, .int .i64 0, .int .i64 0, .int .i64 0, .int .i64 0, .int .i64 0, .slice none 0 0, .int .u32 0, .int .u64 0, .int .u32 0, .int .i64 0] 53)) := below_alloc0 (Below.refl _ _) _
  have h1 : (W.alloc (.cells #[.int .i64 0, .int .i64 0, .slice none 0 0, .int .i64 0, .int .i64 0, .int .i64 0, .int .i64 0, .int .i64 0, .slice none 0 0, .int .u32 0, .int .u64 0, .int .u32 0, .int .i64 0] 53)).heap[W.heap.size]? = some (.cells #[.int .i64 0, .int .i64 0, .slice none 0 0, .int .i64 0, .int .i64 0, .int .i64 0, .int .i64 0, .int .i64 0, .slice none 0 0, .int .u32 0, .int .u64 0, .int .u32 0, .int .i64 0] 53 (0, 0)) := by
    show (W.heap.push _)[W.heap.size]? = _
    exact Array.getElem?_push_size
  rw [e1] at h1
  exact ⟨below_step hb0 hb0.size hb, (hb.block _ (by rw [e1]; omega)).trans h0, h1⟩
theorem PB.res (k : PB w w' A n cap P) : w'.cell? ⟨w.heap.size + 1, 0, none⟩ = some (.int .i64 0) ∧ w'.cell? ⟨w.heap.size + 1, 1, none⟩ = some (.int .i64 0) ∧ w'.cell? ⟨w.heap.size + 1, 2, none⟩ = some (.slice none 0 0) ∧ w'.cell? ⟨w.heap.size + 1, 3, none⟩ = some (.int .i64 0) ∧ w'.cell? ⟨w.heap.size + 1, 4, none⟩ = some (.int .i64 0) ∧ w'.cell? ⟨w.heap.size + 1, 5, none⟩ = some (.int .i64 0) ∧ w'.cell? ⟨w.heap.size + 1, 6, none⟩ = some (.int .i64 0) ∧ w'.cell? ⟨w.heap.size + 1, 7, none⟩ = some (.int .i64 0) ∧ w'.cell? ⟨w.heap.size + 1, 8, none⟩ = some (.slice none 0 0) ∧ w'.cell? ⟨w.heap.size + 1, 9, none⟩ = some (.int .u32 0) ∧ w'.cell? ⟨w.heap.size + 1, 10, none⟩ = some (.int .u64 0) ∧ w'.cell? ⟨w.heap.size + 1, 11, none⟩ = some (.int .u32 0) ∧ w'.cell? ⟨w.heap.size + 1, 12, none⟩ = some (.int .i64 0) := row13_cells k.br
theorem PB.putr (k : PB w w' A n cap P) : (put13 w' (w.heap.size + 1) u0 u1 u2 u3 u4 u5 u6 u7 u8 u9 u10 u11 u12).cell? ⟨w.heap.size + 1, 0, none⟩ = some (u0) ∧ (put13 w' (w.heap.size + 1) u0 u1 u2 u3 u4 u5 u6 u7 u8 u9 u10 u11 u12).cell? ⟨w.heap.size + 1, 1, none⟩ = some (u1) ∧ (put13 w' (w.heap.size + 1) u0 u1 u2 u3 u4 u5 u6 u7 u8 u9 u10 u11 u12).cell? ⟨w.heap.size + 1, 2, none⟩ = some (u2) ∧ (put13 w' (w.heap.size + 1) u0 u1 u2 u3 u4 u5 u6 u7 u8 u9 u10 u11 u12).cell? ⟨w.heap.size + 1, 3, none⟩ = some (u3) ∧ (put13 w' (w.heap.size + 1) u0 u1 u2 u3 u4 u5 u6 u7 u8 u9 u10 u11 u12).cell? ⟨w.heap.size + 1, 4, none⟩ = some (u4) ∧ (put13 w' (w.heap.size + 1) u0 u1 u2 u3 u4 u5 u6 u7 u8 u9 u10 u11 u12).cell? ⟨w.heap.size + 1, 5, none⟩ = some (u5) ∧ (put13 w' (w.heap.size + 1) u0 u1 u2 u3 u4 u5 u6 u7 u8 u9 u10 u11 u12).cell? ⟨w.heap.size + 1, 6, none⟩ = some (u6) ∧ (put13 w' (w.heap.size + 1) u0 u1 u2 u3 u4 u5 u6 u7 u8 u9 u10 u11 u12).cell? ⟨w.heap.size + 1, 7, none⟩ = some (u7) ∧ (put13 w' (w.heap.size + 1) u0 u1 u2 u3 u4 u5 u6 u7 u8 u9 u10 u11 u12).cell? ⟨w.heap.size + 1, 8, none⟩ = some (u8) ∧ (put13 w' (w.heap.size + 1) u0 u1 u2 u3 u4 u5 u6 u7 u8 u9 u10 u11 u12).cell? ⟨w.heap.size + 1, 9, none⟩ = some (u9) ∧ (put13 w' (w.heap.size + 1) u0 u1 u2 u3 u4 u5 u6 u7 u8 u9 u10 u11 u12).cell? ⟨w.heap.size + 1, 10, none⟩ = some (u10) ∧ (put13 w' (w.heap.size + 1) u0 u1 u2 u3 u4 u5 u6 u7 u8 u9 u10 u11 u12).cell? ⟨w.heap.size + 1, 11, none⟩ = some (u11) ∧ (put13 w' (w.heap.size + 1) u0 u1 u2 u3 u4 u5 u6 u7 u8 u9 u10 u11 u12).cell? ⟨w.heap.size + 1, 12, none⟩ = some (u12) :=
  row13_cells (put13_same w' (w.heap.size + 1) 53 _ _ _ _ _ _ _ _ _ _ _ _ _ k.br u0 u1 u2 u3 u4 u5 u6 u7 u8 u9 u10 u11 u12)
theorem PB.putb (k : PB w w' A n cap P) : Below w.heap.size w (put13 w' (w.heap.size + 1) u0 u1 u2 u3 u4 u5 u6 u7 u8 u9 u10 u11 u12) := below_upd k.bel (Nat.le_refl _) (put13_upd w' (w.heap.size + 1) u0 u1 u2 u3 u4 u5 u6 u7 u8 u9 u10 u11 u12) (by omega) (by omega)
end

set_option maxHeartbeats 4000000 in
set_option maxRecDepth 100000 in
theorem rptake_any {c : Cfg} (hc : OkC c) (Q : Nat → Prop) (A : Option Addr) (n cap : Nat) (w : World) (h : IsA w c A n) (hQ : ∀ b, w.heap.size ≤ b → Q b) :
    Calls Tryz.prog 16 #[aVal A n cap (packN c)] w (SomePm Q (pTake (gOf c)) w) := by
  have HQ := Lib.hid hQ
  clear hQ
  obtain ⟨P, hP⟩ : ∃ P, P = packN c := ⟨_, rfl⟩
  have HPB := Lib.hid (PB.new w A n cap (packN c))
  have HA := Lib.hid h
  obtain ⟨hd, hhd⟩ : ∃ hd, hd = plcc c 4 0 0 := ⟨_, rfl⟩
  have HH := Lib.hid hhd
  clear h hhd hP
  go_enter Tryz.func16, Tryz.ntmps16
  go_wp2_with (first
    | (go_at_call 51; (with_reducible refine (rstack_hi hc A n cap 4 _ (HA.out.below HPB.out.bel) (by decide)).mono ?_); rintro r w1 ⟨K, kn, kc, rfl, hn, hr, hb, hk⟩; have HP1 := Lib.hid (HPB.out.step hb); have HN := Lib.hid hn; have HR := Lib.hid hr; have HKB := Lib.hid (HPB.out.hiK hk); have HKQ : Hid (∀ a, K = some a → Q a.block) := Lib.hid (fun a e => HQ.out _ (by have := hk a e; have := HPB.out.bel.size; omega)); clear hb hn hr hk; obtain ⟨y0, y1⟩ := HP1.out.cells)
    | (go_at_call 50; (with_reducible refine (rpop_any _ K kn kc _).mono ?_); rintro r w2 ⟨rfl, hb⟩; have HP2 := Lib.hid (HP1.out.step hb); have HR2 := Lib.hid (HR.out.below hb (Nat.le_refl _)); clear hb; obtain ⟨r0, r1, r2, r3, r4, r5, r6, r7, r8, r9, r10, r11, r12⟩ := HP2.out.res; have hfr := HP2.out.fro)
    | fail)
  obtain ⟨e0, e1, e2, e3, e4, e5, e6, e7, e8, e9, e10, e11, e12⟩ := HP2.out.putr (u0 := .int .i64 2) (u1 := .int .i64 4) (u2 := .slice none 0 0) (u3 := .int .i64 0) (u4 := .int .i64 0) (u5 := .int .i64 2) (u6 := .int .i64 1) (u7 := .int .i64 (plcc c 4 0 0)) (u8 := .slice K kn kc) (u9 := .int .u32 0) (u10 := .int .u64 0) (u11 := .int .u32 0) (u12 := .int .i64 0)
  exact bodyPost_ret (v := pmV 2 4 none 0 0 0 0 2 1 (plcc c 4 0 0) K kn kc 0 0 0 0) (by simp [results, Tryz.results16, go_sem, e0, e1, e2, e3, e4, e5, e6, e7, e8, e9, e10, e11, e12]) rfl ⟨_, rfl, ⟨none, 0, 0, K, kn, kc, rfl, rfl, reads_nil _ _ _, HN.out, HR2.out.put (put13_upd ..) HKB.out, (fun _ a e => by cases e), fun _ => HKQ.out⟩, HP2.out.putb⟩

theorem itemOf_in {x : Int} (h0 : 0 ≤ x) (h1 : x ≤ 4294967295) : itemOf x = x := by unfold itemOf; split <;> omega
set_option maxHeartbeats 4000000 in
set_option maxRecDepth 100000 in
theorem rpback_any {c : Cfg} (hc : OkC c) (Q : Nat → Prop) (A : Option Addr) (n cap : Nat) (p : Int) (w : World) (h : IsA w c A n) (hp : -9223372036854775808 ≤ p ∧ p ≤ 9223372036854775807) (hQ : ∀ b, w.heap.size ≤ b → Q b) :
    Calls Tryz.prog 18 #[aVal A n cap (packN c), .int .i64 p] w (SomePm Q (pBack (pkn c) (gOf c) p) w) := by
  have HQ := Lib.hid hQ
  clear hQ
  have HPB := Lib.hid (PB.new w A n cap (packN c))
  have HA := Lib.hid h
  have HPR := Lib.hid hp
  have hk := pkn_is hc
  have hz := (PB.new w A n cap (packN c)).bel
  clear h
  by_cases h1 : p < 1
  · have e : pBack (pkn c) (gOf c) p = ⟨3, 0, [], 0, 0, mnone⟩ := by unfold pBack; rw [if_pos (.inl h1)]
    rw [e]
    have d1 : decide (p < 1) = true := by simpa using h1
    clear hp hk e HA HPB
    go_enter Tryz.func18, Tryz.ntmps18
    go_wp2_with (fail)
    exact bodyPost_ret (v := pmV 3 0 none 0 0 0 0 0 0 0 none 0 0 0 0 0 0) (by simp [results, Tryz.results18, go_sem]) rfl ⟨_, rfl, ⟨none, 0, 0, none, 0, 0, rfl, rfl, reads_nil _ _ _, rfl, reads_nil _ _ _, (fun _ a e => by cases e), (fun _ a e => by cases e)⟩, below_alloc0 (below_alloc0 (Below.refl _ _) _) _⟩
  have d1 : decide (p < 1) = false := by simpa using h1
  by_cases h2 : packN c < p
  · have e : pBack (pkn c) (gOf c) p = ⟨3, 0, [], 0, 0, mnone⟩ := by unfold pBack; rw [if_pos (.inr (by omega))]
    rw [e]
    have d2 : decide (p > packN c) = true := by simpa using h2
    clear hp hk e HA HPB
    go_enter Tryz.func18, Tryz.ntmps18
    go_wp2_with (fail)
    exact bodyPost_ret (v := pmV 3 0 none 0 0 0 0 0 0 0 none 0 0 0 0 0 0) (by simp [results, Tryz.results18, go_sem]) rfl ⟨_, rfl, ⟨none, 0, 0, none, 0, 0, rfl, rfl, reads_nil _ _ _, rfl, reads_nil _ _ _, (fun _ a e => by cases e), (fun _ a e => by cases e)⟩, below_alloc0 (below_alloc0 (Below.refl _ _) _) _⟩
  have d2 : decide (p > packN c) = false := by simpa using h2
  have e : pBack (pkn c) (gOf c) p = ⟨3, 4, [], 0, 0, mPush (spK c) p⟩ := by unfold pBack; rw [if_neg (by omega)]; rfl
  rw [e]
  clear hp hk e hz
  go_enter Tryz.func18, Tryz.ntmps18
  go_wp2_with (first
    | (go_at_call 51; (with_reducible refine (rstack_hi hc A n cap 5 _ (HA.out.below HPB.out.bel) (by decide)).mono ?_); rintro r w1 ⟨K, kn, kc, rfl, hn, hr, hb, hk⟩; have HP1 := Lib.hid (HPB.out.step hb); have HN := Lib.hid hn; have HR := Lib.hid hr; have HKB := Lib.hid (HPB.out.hiK hk); have HKQ : Hid (∀ a, K = some a → Q a.block) := Lib.hid (fun a e => HQ.out _ (by have := hk a e; have := HPB.out.bel.size; omega)); clear hb hn hr hk; obtain ⟨y0, y1⟩ := HP1.out.cells)
    | (go_at_call 56; (with_reducible refine (rpush_any _ K kn kc _ _ HPR.out).mono ?_); rintro r w2 ⟨rfl, hb⟩; have HP2 := Lib.hid (HP1.out.step hb); have HR2 := Lib.hid (HR.out.below hb (Nat.le_refl _)); clear hb; obtain ⟨r0, r1, r2, r3, r4, r5, r6, r7, r8, r9, r10, r11, r12⟩ := HP2.out.res; have hfr := HP2.out.fro)
    | fail)
  obtain ⟨e0, e1, e2, e3, e4, e5, e6, e7, e8, e9, e10, e11, e12⟩ := HP2.out.putr (u0 := .int .i64 3) (u1 := .int .i64 4) (u2 := .slice none 0 0) (u3 := .int .i64 0) (u4 := .int .i64 0) (u5 := .int .i64 1) (u6 := .int .i64 1) (u7 := .int .i64 (plcc c 5 0 0)) (u8 := .slice K kn kc) (u9 := .int .u32 (itemOf p)) (u10 := .int .u64 0) (u11 := .int .u32 0) (u12 := .int .i64 0)
  exact bodyPost_ret (v := pmV 3 4 none 0 0 0 0 1 1 (plcc c 5 0 0) K kn kc (itemOf p) 0 0 0) (by simp [results, Tryz.results18, go_sem, e0, e1, e2, e3, e4, e5, e6, e7, e8, e9, e10, e11, e12]) rfl ⟨_, rfl, ⟨none, 0, 0, K, kn, kc, rfl, rfl, reads_nil _ _ _, HN.out, HR2.out.put (put13_upd ..) HKB.out, (fun _ a e => by cases e), fun _ => HKQ.out⟩, HP2.out.putb⟩

set_option maxHeartbeats 4000000 in
set_option maxRecDepth 100000 in
theorem rpput_any {c : Cfg} (hc : OkC c) (Q : Nat → Prop) (A : Option Addr) (n cap : Nat) (T : Option Addr) (tn tc : Nat) (ts : List Int) (w : World) (h : IsA w c A n) (htn : tn = ts.length) (hT : Reads .u64 w T ts) (h4 : tn ≤ tc) (h5 : tc ≤ maxLen) (hQ : ∀ b, w.heap.size ≤ b → Q b) (hTQ : 0 < ts.length → ∀ a, T = some a → Q a.block) :
    Calls Tryz.prog 14 #[aVal A n cap (packN c), .slice T tn tc] w (SomePm Q (pPut (gOf c) ts) w) := by
  have HQ := Lib.hid hQ
  have HTQ := Lib.hid hTQ
  clear hQ hTQ
  have HPB := Lib.hid (PB.new w A n cap (packN c))
  have HA := Lib.hid h
  have hz := (PB.new w A n cap (packN c)).bel
  clear h
  by_cases h0 : tn = 0
  · subst h0
    obtain rfl : ts = [] := by cases ts with | nil => rfl | cons a l => simp at htn
    rw [show pPut (gOf c) [] = ⟨1, 0, [], 0, 0, mnone⟩ from rfl]
    clear hT htn HA HPB
    go_enter Tryz.func14, Tryz.ntmps14
    go_wp2_with (fail)
    exact bodyPost_ret (v := pmV 1 0 none 0 0 0 0 0 0 0 none 0 0 0 0 0 0) (by simp [results, Tryz.results14, go_sem]) rfl ⟨_, rfl, ⟨none, 0, 0, none, 0, 0, rfl, rfl, reads_nil _ _ _, rfl, reads_nil _ _ _, (fun _ a e => by cases e), (fun _ a e => by cases e)⟩, below_alloc0 (below_alloc0 (Below.refl _ _) _) _⟩
  have ht : ts ≠ [] := fun e => by rw [e] at htn; exact h0 htn
  have e : pPut (gOf c) ts = ⟨1, 1, ts.take 4, 0, 0, mPop (spK c)⟩ := by unfold pPut; rw [if_neg ht]; rfl
  rw [e]
  obtain ⟨b, off, rfl, hbl, hcl⟩ := hT (by omega)
  have d0 : ((tn : Int) == 0) = false := by simp; omega
  have HT : Hid (∀ w', Below w.heap.size w w' → Reads .u64 w' (some ⟨b, off, none⟩) (ts.take 4)) := Lib.hid (fun w' hb h0 => ⟨b, off, rfl, Nat.lt_of_lt_of_le hbl hb.size, fun j hj => by
    simp at hj
    rw [hb.cell (p := ⟨b, off + j, none⟩) hbl, hcl j (by omega), List.getD, List.getD, List.getElem?_take_of_lt (by omega)]⟩)
  have HLN := Lib.hid htn
  clear hT hcl ht e hz htn
  by_cases h6 : 4 < tn
  · have d1 : decide ((tn : Int) > 4) = true := by simp; omega
    have d2 : 4 ≤ tc := by omega
    go_enter Tryz.func14, Tryz.ntmps14
    go_wp2_with (first
      | (go_at_call 51; (with_reducible refine (rstack_hi hc A n cap 5 _ (HA.out.below HPB.out.bel) (by decide)).mono ?_); rintro r w1 ⟨K, kn, kc, rfl, hn, hr, hb, hk⟩; have HP1 := Lib.hid (HPB.out.step hb); have HN := Lib.hid hn; have HR := Lib.hid hr; have HKB := Lib.hid (HPB.out.hiK hk); have HKQ : Hid (∀ a, K = some a → Q a.block) := Lib.hid (fun a e => HQ.out _ (by have := hk a e; have := HPB.out.bel.size; omega)); clear hb hn hr hk; obtain ⟨y0, y1⟩ := HP1.out.cells)
      | (go_at_call 50; (with_reducible refine (rpop_any _ K kn kc _).mono ?_); rintro r w2 ⟨rfl, hb⟩; have HP2 := Lib.hid (HP1.out.step hb); have HR2 := Lib.hid (HR.out.below hb (Nat.le_refl _)); clear hb; obtain ⟨r0, r1, r2, r3, r4, r5, r6, r7, r8, r9, r10, r11, r12⟩ := HP2.out.res; have hfr := HP2.out.fro)
      | fail)
    obtain ⟨e0, e1, e2, e3, e4, e5, e6, e7, e8, e9, e10, e11, e12⟩ := HP2.out.putr (u0 := .int .i64 1) (u1 := .int .i64 1) (u2 := .slice (some ⟨b, off, none⟩) 4 tc) (u3 := .int .i64 0) (u4 := .int .i64 0) (u5 := .int .i64 2) (u6 := .int .i64 1) (u7 := .int .i64 (plcc c 5 0 0)) (u8 := .slice K kn kc) (u9 := .int .u32 0) (u10 := .int .u64 0) (u11 := .int .u32 0) (u12 := .int .i64 0)
    exact bodyPost_ret (v := pmV 1 1 (some ⟨b, off, none⟩) 4 tc 0 0 2 1 (plcc c 5 0 0) K kn kc 0 0 0 0) (by simp [results, Tryz.results14, go_sem, e0, e1, e2, e3, e4, e5, e6, e7, e8, e9, e10, e11, e12]) rfl ⟨_, rfl, ⟨(some ⟨b, off, none⟩), 4, tc, K, kn, kc, rfl, (by simp; have := HLN.out; omega), HT.out _ HP2.out.putb, HN.out, HR2.out.put (put13_upd ..) HKB.out, (fun _ => HTQ.out (by have := HLN.out; omega)), fun _ => HKQ.out⟩, HP2.out.putb⟩
  · have d1 : decide ((tn : Int) > 4) = false := by simp; omega
    go_enter Tryz.func14, Tryz.ntmps14
    go_wp2_with (first
      | (go_at_call 51; (with_reducible refine (rstack_hi hc A n cap 5 _ (HA.out.below HPB.out.bel) (by decide)).mono ?_); rintro r w1 ⟨K, kn, kc, rfl, hn, hr, hb, hk⟩; have HP1 := Lib.hid (HPB.out.step hb); have HN := Lib.hid hn; have HR := Lib.hid hr; have HKB := Lib.hid (HPB.out.hiK hk); have HKQ : Hid (∀ a, K = some a → Q a.block) := Lib.hid (fun a e => HQ.out _ (by have := hk a e; have := HPB.out.bel.size; omega)); clear hb hn hr hk; obtain ⟨y0, y1⟩ := HP1.out.cells)
      | (go_at_call 50; (with_reducible refine (rpop_any _ K kn kc _).mono ?_); rintro r w2 ⟨rfl, hb⟩; have HP2 := Lib.hid (HP1.out.step hb); have HR2 := Lib.hid (HR.out.below hb (Nat.le_refl _)); clear hb; obtain ⟨r0, r1, r2, r3, r4, r5, r6, r7, r8, r9, r10, r11, r12⟩ := HP2.out.res; have hfr := HP2.out.fro)
      | fail)
    obtain ⟨e0, e1, e2, e3, e4, e5, e6, e7, e8, e9, e10, e11, e12⟩ := HP2.out.putr (u0 := .int .i64 1) (u1 := .int .i64 1) (u2 := .slice (some ⟨b, off, none⟩) tn tc) (u3 := .int .i64 0) (u4 := .int .i64 0) (u5 := .int .i64 2) (u6 := .int .i64 1) (u7 := .int .i64 (plcc c 5 0 0)) (u8 := .slice K kn kc) (u9 := .int .u32 0) (u10 := .int .u64 0) (u11 := .int .u32 0) (u12 := .int .i64 0)
    exact bodyPost_ret (v := pmV 1 1 (some ⟨b, off, none⟩) tn tc 0 0 2 1 (plcc c 5 0 0) K kn kc 0 0 0 0) (by simp [results, Tryz.results14, go_sem, e0, e1, e2, e3, e4, e5, e6, e7, e8, e9, e10, e11, e12]) rfl ⟨_, rfl, ⟨(some ⟨b, off, none⟩), tn, tc, K, kn, kc, rfl, (by simp; have := HLN.out; omega), HT.out _ HP2.out.putb, HN.out, HR2.out.put (put13_upd ..) HKB.out, (fun _ => HTQ.out (by have := HLN.out; omega)), fun _ => HKQ.out⟩, HP2.out.putb⟩

set_option maxHeartbeats 4000000 in
theorem rppacket_any (w : World) {Q : Nat → Prop} {m : Pm} {v : Value} (h : RPm Q w m v) : Calls Tryz.prog 23 #[v] w fun e w' => e = .returned (.int .i64 (pPacket m)) ∧ Below w.heap.size w w' := by
  obtain ⟨T, tn, tc, A, n, cap, rfl, h1, h2, h3, h4, _⟩ := h
  obtain ⟨kd, pc, ts, j, p, kx, px, ⟨hd, lk⟩, it, hh, li, tr⟩ := m
  dsimp only at h1 h2 h3 h4 ⊢
  clear h1 h2 h3 h4
  by_cases hp : 0 < pc
  · have e : pPacket ⟨kd, pc, ts, j, p, kx, px, ⟨hd, lk⟩, it, hh, li, tr⟩ = 0 := by unfold pPacket; rw [if_pos hp]
    rw [e]
    have d : decide ((pc : Int) > 0) = true := by simp; omega
    clear e
    go_enter Tryz.func23, Tryz.ntmps23
    go_wp2_with (fail)
    go_ret
    exact ⟨rfl, below_alloc0 (Below.refl _ _) _⟩
  · obtain rfl : pc = 0 := by omega
    have e : pPacket ⟨kd, 0, ts, j, p, kx, px, ⟨hd, lk⟩, it, hh, li, tr⟩ = p := rfl
    rw [e]
    clear e
    go_enter Tryz.func23, Tryz.ntmps23
    go_wp2_with (fail)
    go_ret
    exact ⟨rfl, below_alloc0 (Below.refl _ _) _⟩
end Go.Proofs.YtbpfkhpnfkbacaaGreat
