/- The document's own map and what its pool holds, walked. What the document's own pool holds, walked. -/
import Derived.Test.YtbpfkhpnfkbacaaJ16
import Derived.Test.YtbpfkhpnfkbacaaJ8
namespace Go.Proofs.Ytbpfkhpnfkbacaa
open Go.RowKit
set_option linter.unusedVariables false
open Lay (plcc plc shOf packN nodesN OkC Cfg Norm firstV Rep lenL things)

/-- The cells of a configuration in its box. -/
abbrev CfgC (B : Nat) (c : Cfg) (w' : World) : Prop := w'.cell? ⟨B, 0, none⟩ = some (.int .i64 c.a) ∧ w'.cell? ⟨B, 1, none⟩ = some (.int .i64 c.b) ∧ w'.cell? ⟨B, 2, none⟩ = some (.int .i64 c.c) ∧ w'.cell? ⟨B, 3, none⟩ = some (.int .i64 c.d) ∧ w'.cell? ⟨B, 4, none⟩ = some (.int .i64 c.e) ∧ w'.cell? ⟨B, 5, none⟩ = some (.int .i64 c.mr) ∧ w'.cell? ⟨B, 6, none⟩ = some (.int .i64 c.mu) ∧ w'.cell? ⟨B, 7, none⟩ = some (.int .i64 c.dq) ∧ w'.cell? ⟨B, 8, none⟩ = some (.int .i64 c.ch) ∧ w'.cell? ⟨B, 9, none⟩ = some (.int .i64 c.bf) ∧ w'.cell? ⟨B, 10, none⟩ = some (.int .i64 c.rt) ∧ w'.cell? ⟨B, 11, none⟩ = some (.int .i64 c.sw)
theorem kc_cells {w : World} {B : Nat} {c : Cfg} {w' : World} (h : Lay.KC w B c w') : CfgC B c w' := ⟨h.c0, h.c1, h.c2, h.c3, h.c4, h.c5, h.c6, h.c7, h.c8, h.c9, h.c10, h.c11⟩
/-- A configuration's box, and behind it that of an answer of two cells. -/
structure KR (w : World) (c : Cfg) (w' : World) : Prop where
  k : Lay.KC w w.heap.size c w'
  r0 : w'.cell? ⟨w.heap.size + 1, 0, none⟩ = some (.slice none 0 0)
  r1 : w'.cell? ⟨w.heap.size + 1, 1, none⟩ = some (.int .i64 0)
  f : ∀ j, w'.frozen? ⟨w.heap.size + 1, j, none⟩ = false
  lt : w.heap.size + 1 < w'.heap.size
theorem KR.step {w : World} {c : Cfg} {w' w2 : World} (h : KR w c w') (hb : Below w'.heap.size w' w2) : KR w c w2 :=
  ⟨h.k.step hb, (hb.cell (p := ⟨w.heap.size + 1, 0, none⟩) h.lt).trans h.r0, (hb.cell (p := ⟨w.heap.size + 1, 1, none⟩) h.lt).trans h.r1, fun j => (hb.frozen (p := ⟨w.heap.size + 1, j, none⟩) h.lt).trans (h.f j), Nat.lt_of_lt_of_le h.lt hb.size⟩
theorem KR.drew {w : World} {c : Cfg} {w' : World} (h : KR w c w') : KR w c w'.drew := h.step (Below.refl _ _).drew
theorem KR.set {w : World} {c : Cfg} {w' : World} (h : KR w c w') (u0 u1 : Value) : CfgC w.heap.size c ((w'.setCell ⟨w.heap.size + 1, 0, none⟩ u0).setCell ⟨w.heap.size + 1, 1, none⟩ u1) := by
  have far : ∀ i, ((w'.setCell ⟨w.heap.size + 1, 0, none⟩ u0).setCell ⟨w.heap.size + 1, 1, none⟩ u1).cell? ⟨w.heap.size, i, none⟩ = w'.cell? ⟨w.heap.size, i, none⟩ := fun i => by
    rw [World.cell?_setCell_other _ _ _ _ (adr_ne (.inl (by omega))), World.cell?_setCell_other _ _ _ _ (adr_ne (.inl (by omega)))]
  have k := kc_cells h.k
  unfold CfgC at k ⊢
  simp only [far]
  exact k
theorem KR.start (w : World) (c : Cfg) (t T : TypeId) : KR w c ((w.alloc (Lay.cfgO c t)).alloc (.cells #[.slice none 0 0, .int .i64 0] T)) := by
  have hk := (Lay.KC.start c t w w (Below.refl _ _)).step (below_alloc0 (Below.refl _ _) (.cells #[.slice none 0 0, .int .i64 0] T))
  have e : w.heap.size + 1 = (w.alloc (Lay.cfgO c t)).heap.size := by simp
  refine ⟨hk, ?_, ?_, fun j => ?_, by simp⟩
  · rw [e, World.cell?_alloc_at _ _ _ _ rfl]; rfl
  · rw [e, World.cell?_alloc_at _ _ _ _ rfl]; rfl
  · rw [e]; exact World.frozen?_alloc_new _ _ _ _

/-- What it reads stands in other blocks. -/
def Off (w : World) (A : Option Addr) (k : Nat) : Prop := ∀ b off, A = some ⟨b, off, none⟩ → b ≠ k
theorem OwnT_far {w w' : World} {A : Option Addr} {n cp k B : Nat} {l : List Lay.Th} (h : Lay.OwnT B w w' (.slice A n cp) l) (hk : k < B) : Off w A k := fun b off e => by
  have := h.1.lt b (by rw [e]; rfl)
  omega
theorem reads_off {w : World} {A : Option Addr} {l : List Lay.Th} {k : Nat} {w0 : World} (h : Lay.ReadsT w A l) (ho : Off w0 A k) {u0 u1 : Value} : Lay.ReadsT ((w.setCell ⟨k, 0, none⟩ u0).setCell ⟨k, 1, none⟩ u1) A l := fun h0 => by
  obtain ⟨b, off, e, hlt, hc⟩ := h h0
  have hne := ho b off e
  have far : ∀ i, ((w.setCell ⟨k, 0, none⟩ u0).setCell ⟨k, 1, none⟩ u1).cell? ⟨b, i, none⟩ = w.cell? ⟨b, i, none⟩ := fun i => by
    rw [World.cell?_setCell_other _ _ _ _ (adr_ne (.inl (by omega))), World.cell?_setCell_other _ _ _ _ (adr_ne (.inl (by omega)))]
  exact ⟨b, off, e, by simpa using hlt, fun j hj => by rw [far, far, far]; exact hc j hj⟩

set_option maxHeartbeats 4000000 in
set_option maxRecDepth 100000 in
theorem rmap_any {c : Cfg} (hc : OkC c) (w : World) :
    Calls Try.prog 19 #[Lay.cfgV c] w fun e w' => ∃ A n cap, e = .returned (aVal A n cap (packN c)) ∧ IsA w' c A n ∧ Below w.heap.size w w' := by
  have HC := Lib.hid hc
  have hk := KR.start w c 50 48
  have HKD := Lib.hid hk.drew
  obtain ⟨q0, q1, q2, q3, q4, q5, q6, q7, q8, q9, q10, q11⟩ := kc_cells hk.k
  have HLE : Hid ((things (shOf c)).length ≤ 10000) := Lib.hid (by have := Lay.things_len (shOf c); have := Lay.lenL_eq hc; have := (Lay.bds hc).t55'; omega)
  clear hc hk
  go_enter Try.func19, Try.ntmps19
  go_wp2_with (fail)
  go_region_held3 (fun w' => CfgC w.heap.size c w')
    (first | with_reducible exact HZ.out | with_reducible exact kc_cells HK5.out.k | with_reducible exact kc_cells HK4.out.k | with_reducible exact kc_cells HKD.out.k | go_keep)
    (first
      | (go_at_call 56; (with_reducible refine (Lay.things_any HC.out _).mono ?_); rintro r w4 ⟨v, rfl, hT⟩; obtain ⟨A', cp, hv, hr, _⟩ := hT.reads; subst hv; have hb := hT.2; have HK4 := Lib.hid (HKD.out.step hb); have HT := Lib.hid hr; have HNE := Lib.hid (OwnT_far hT HKD.out.lt); clear hb hT hr)
      | (go_at_call 57; (with_reducible refine (Lay.rpackets_any HC.out _).mono ?_); rintro r w5 ⟨rfl, hb⟩; have HK5 := Lib.hid (HK4.out.step hb); have HT5 := Lib.hid (HT.out.below hb); clear hb; have r0 := HK5.out.r0; have r1 := HK5.out.r1; have f0 := HK5.out.f 0; have f1 := HK5.out.f 1; have HZ := Lib.hid (HK5.out.set (.slice A' (things (shOf c)).length cp) (.int .i64 (packN c))); have HFB := Lib.hid HK5.out.k.bel)
      | fail)
  obtain ⟨e0, e1⟩ := put2_cells r0 r1 (.slice A' (things (shOf c)).length cp) (.int .i64 (packN c))
  go_wp2_with (fail)
  exact bodyPost_ret (v := aVal A' (things (shOf c)).length cp (packN c)) (by simp [results, Try.results19, go_sem, e0, e1]) rfl ⟨A', _, cp, rfl, ⟨rfl, reads_off HT5.out HNE.out, HLE.out⟩, (HFB.out.setCell (by show w.heap.size ≤ w.heap.size + 1; omega) _).setCell (by show w.heap.size ≤ w.heap.size + 1; omega) _⟩
end Go.Proofs.Ytbpfkhpnfkbacaa

namespace Go.Proofs.Ytbpfkhpnfkbacaa
open Go.RowKit
set_option linter.unusedVariables false
open Lay (plcc plc shOf packN nodesN OkC Cfg Norm firstV Rep lenL things)

/-- How many tasks of a packet count. -/
def cnt4 (n : Int) : Nat := if 4 ≤ n then 4 else n.toNat
theorem cnt4_le (n : Int) : cnt4 n ≤ 4 := by unfold cnt4; split <;> omega
theorem cnt4_lt (n : Int) : (∀ i : Nat, i < cnt4 n → (i : Int) < n) ∧ (cnt4 n < 4 → n ≤ (cnt4 n : Int)) := by
  unfold cnt4
  by_cases h : 4 ≤ n
  · rw [if_pos h]; exact ⟨fun i hi => by omega, fun h => by omega⟩
  · rw [if_neg h]; exact ⟨fun i hi => by omega, fun _ => by omega⟩
/-- A packet's tasks, as memory tells; and those of many. -/
def pkT (c : Cfg) (L : List Int) (p : Int) (j : Nat) : List Int := (List.range j).map fun (i : Nat) => ldq L (plcc c 13 p (i : Int))
def heldT (c : Cfg) (L : List Int) (Q : List Int) : List Int := Q.flatMap fun p => pkT c L p (cnt4 (ldq L (plcc c 11 p 0)))
theorem pkT_len (c : Cfg) (L : List Int) (p : Int) (j : Nat) : (pkT c L p j).length = j := by simp [pkT]
theorem pkT_succ (c : Cfg) (L : List Int) (p : Int) (j : Nat) : pkT c L p (j + 1) = pkT c L p j ++ [ldq L (plcc c 13 p (j : Int))] := by simp [pkT, List.range_succ]
theorem heldT_len (c : Cfg) (L : List Int) : ∀ Q : List Int, (heldT c L Q).length ≤ 4 * Q.length
  | [] => by simp [heldT]
  | q :: Q => by
    have ih := heldT_len c L Q
    have := cnt4_le (ldq L (plcc c 11 q 0))
    simp only [heldT, List.flatMap_cons, List.length_append, pkT_len, List.length_cons] at ih ⊢
    omega
theorem heldT_succ (c : Cfg) (L Q : List Int) (i : Nat) (hi : i < Q.length) : heldT c L (Q.take (i + 1)) = heldT c L (Q.take i) ++ pkT c L (Q.getD i 0) (cnt4 (ldq L (plcc c 11 (Q.getD i 0) 0))) := by
  have e : Q.take (i + 1) = Q.take i ++ [Q.getD i 0] := by
    rw [List.take_add_one]; simp [List.getD, List.getElem?_eq_getElem hi]
  rw [e]; simp [heldT, List.flatMap_append]
/-- All tasks in the pool, as memory tells. -/
def heldL (c : Cfg) (L : List Int) : List Int := heldT c L (walkQ L (poK c) (packN c).toNat (plcc c 4 0 0))
theorem walkQ_len (L : List Int) (k : Sk) : ∀ (f : Nat) (p : Int), (walkQ L k f p).length ≤ f
  | 0, _ => by simp [walkQ]
  | f + 1, p => by
    unfold walkQ; split
    · have := walkQ_len L k f (atOf k.links (low (L.getD p.toNat 0))); simp only [List.length_cons]; omega
    · simp

theorem walkQ_rng (L : List Int) (k : Sk) : ∀ (f : Nat) (p : Int), ∀ q ∈ walkQ L k f p, 0 ≤ q ∧ q ≤ 4294967295
  | 0, _, q, h => by simp [walkQ] at h
  | f + 1, p, q, h => by
    unfold walkQ at h
    split at h
    · rcases List.mem_cons.1 h with rfl | h2
      · exact low_rng _
      · exact walkQ_rng L k f _ q h2
    · simp at h

/-- An append to a row of the call's own at a step of a region that draws its order. -/
theorem step_append_int {k : IntKind} {wr : World} {T : TypeId} {x : Int} {ops : Array Oper} {o : Oper} {a : Act} {K : Act → World → Prop} {Q : Exit → Act → World → Prop} {E : Prop} (hg : o.guard = none) (s c : Operand) (t e : TypeId)
    (ho : o.op = .call { callee := .builtin .append, args := #[s, c], argTypes := #[t, t] }) (ht : Try.prog.underlying t = some (.slice e))
    (hi : (Try.prog.info? e).map (fun i => (i.zero, i.size, i.bytes)) = some (some (.int k 0), 1, 8))
    (B : Nat) (w0 : World) (v : Value) (l : List Int) (hs : a.eval s = v) (hown : OwnI k e B w0 wr v l) (hx : a.eval c = .slice (some ⟨wr.heap.size, 0, none⟩) 1 1) (hl : l.length ≤ 100000) (hB : B ≤ w0.heap.size)
    (h : ∀ v' w', OwnI k e B w0 w' v' (l ++ [x]) → K (a.put o.dst v') w') :
    if Region.wanted o (yielded ops a.tmps) = true then Oper.wp Try.prog o a (wr.alloc (.cells #[.int k x] T)) K Q else E := by
  have hsz := hown.2.size
  refine step_append_row hg s c t e ho ht hi B v l hs hown.1 hx hl (by omega) ?_
  intro g cap w' h1 h2 _
  have hn := hown.alloc hB (.cells #[.int k x] T)
  exact h _ w' ⟨by rw [List.length_append]; exact h1, hn.2.grown h2 (by simp; omega) (fun b hb => (hn.1.lt b hb).1)⟩

/-- The map's box. -/
structure KH (w : World) (c : Cfg) (A : Option Addr) (n cap : Nat) (P : Int) (w' : World) : Prop where
  a0 : w'.cell? ⟨w.heap.size, 0, none⟩ = some (.slice A n cap)
  a1 : w'.cell? ⟨w.heap.size, 1, none⟩ = some (.int .i64 P)
  lt : w.heap.size < w'.heap.size
  bel : Below w.heap.size w w'
  isA : IsA w' c A n
section
variable {w w' w2 : World} {c : Cfg} {A : Option Addr} {n cap : Nat} {P : Int}
theorem KH.step (h : KH w c A n cap P w') (hb : Below w'.heap.size w' w2) : KH w c A n cap P w2 :=
  ⟨(hb.cell (p := ⟨w.heap.size, 0, none⟩) h.lt).trans h.a0, (hb.cell (p := ⟨w.heap.size, 1, none⟩) h.lt).trans h.a1, Nat.lt_of_lt_of_le h.lt hb.size, below_then h.bel hb, h.isA.below hb⟩
theorem KH.drew (h : KH w c A n cap P w') : KH w c A n cap P w'.drew := h.step (Below.refl _ _).drew
theorem KH.start (h : IsA w c A n) (cap : Nat) (P : Int) (T : TypeId) : KH w c A n cap P (w.alloc (.cells #[.slice A n cap, .int .i64 P] T)) :=
  ⟨by rw [World.cell?_alloc_at _ _ _ _ rfl]; rfl, by rw [World.cell?_alloc_at _ _ _ _ rfl]; rfl, by simp, below_alloc0 (Below.refl _ _) _, h.below (below_alloc0 (Below.refl _ _) _)⟩
abbrev KHc (w : World) (A : Option Addr) (n cap : Nat) (P : Int) (w' : World) : Prop := w'.cell? ⟨w.heap.size, 0, none⟩ = some (.slice A n cap) ∧ w'.cell? ⟨w.heap.size, 1, none⟩ = some (.int .i64 P)
theorem KH.cells (h : KH w c A n cap P w') : KHc w A n cap P w' := ⟨h.a0, h.a1⟩
end

theorem rstack_at {c : Cfg} (hc : OkC c) (A : Option Addr) (n cap : Nat) (P : Int) (hP : P = packN c) (k : Int) (w : World) (h : IsA w c A n) (hk : k = 4 ∨ k = 5) :
    Calls Try.prog 53 #[aVal A n cap P, .int .i64 k] w (SomeK (plcc c k 0 0) (lnkL c) w) := by subst hP; exact rstack_any hc A n cap k w h hk

set_option maxHeartbeats 8000000 in
set_option maxRecDepth 100000 in
theorem rheld_any {c : Cfg} (hc : OkC c) (A : Option Addr) (n cap : Nat) (M : Option Addr) (m capM : Nat) (L : List Int) (w : World) (h : IsA w c A n) (hm : m = L.length) (hL : Reads .u64 w M L) (ww : WW L) :
    Calls Try.prog 18 #[aVal A n cap (packN c), .slice M m capM] w fun e w' => ∃ v, e = .returned v ∧ ∃ w6, OwnI .u64 39 w6.heap.size w6 w' v (heldL c L) ∧ Below w.heap.size w w6 := by
  have hP0 := (Lay.bds hc).p0
  have hP1 := (Lay.bds hc).p1
  obtain ⟨P, hP⟩ : ∃ P, P = packN c := ⟨_, rfl⟩
  have HP := Lib.hid hP
  have hk := KH.start h cap P 48
  obtain ⟨q0, q1⟩ := hk.cells
  have HKD := Lib.hid hk.drew
  have HL := Lib.hid hL; have HM := Lib.hid hm; have HW := Lib.hid ww; have HC := Lib.hid hc
  rw [← hP] at hP0 hP1 ⊢
  clear h hk hL hm ww hc hP
  go_enter Try.func18, Try.ntmps18
  go_wp2_with (fail)
  go_region_held3 (fun w' => KHc w A n cap P w')
    (first | with_reducible exact HK5.out.cells | with_reducible exact HK4.out.cells | with_reducible exact HKD.out.cells | go_keep)
    (first
      | (go_at_call 53; (with_reducible refine (rstack_at HC.out A n cap P HP.out 4 _ HKD.out.isA (.inl rfl)).mono ?_); rintro r w4 ⟨A', n', cap', rfl, hn', hr', hb⟩; have HK4 := Lib.hid (HKD.out.step hb); have HR := Lib.hid hr'; have HN := Lib.hid hn'; have HL4 := Lib.hid (HL.out.below HK4.out.bel (Nat.le_refl _)); clear hb hr' hn')
      | (go_at_call 52; (with_reducible refine (refWalk_any M m capM L _ A' n' cap' (lnkL c) P _ HM.out HL4.out HW.out HN.out HR.out (by have := HN.out; have := lnk_len c; have := HP.out; omega) hP1).mono ?_); rintro r w5 ⟨v, rfl, hO⟩; obtain ⟨Wp, wc, hv, hrw, _⟩ := hO.reads; subst hv; have hb5 : Below w4.heap.size w4 w5 := (below_alloc0 (Below.refl _ _) _).trans (hO.bel.mono (Nat.le_succ _)); have HK5 := Lib.hid (HK4.out.step hb5); have HQ := Lib.hid hrw; clear hO hb5 hrw)
      | fail)
  obtain ⟨Q, hQ⟩ : ∃ Q, Q = walkQ L ⟨plcc c 4 0 0, lnkL c⟩ P.toNat (plcc c 4 0 0) := ⟨_, rfl⟩
  have HQQ := Lib.hid hQ
  have hql : Q.length ≤ 1000 := by have := walkQ_len L ⟨plcc c 4 0 0, lnkL c⟩ P.toNat (plcc c 4 0 0); rw [← hQ] at this; omega
  have hqr : ∀ q ∈ Q, 0 ≤ q ∧ q ≤ 4294967295 := by rw [hQ]; exact walkQ_rng _ _ _ _
  have HQR := Lib.hid hqr
  rw [← hQ] at HQ ⊢
  obtain ⟨nq, hnq⟩ : ∃ nq, nq = Q.length := ⟨_, rfl⟩
  have HNQ := Lib.hid hnq
  rw [← hnq] at hql ⊢
  clear hQ hqr hnq HR HN HL4
  go_wp2_with (fail)
  go_loopw [5, 7] (fun o i wr => ∃ (k : Nat) (v : Value), k ≤ nq ∧ i = .int .i64 (k : Int) ∧ o = v ∧ OwnI .u64 39 w5.heap.size w5 wr v (heldT c L (Q.take k))) (fun _ i _ => nq - (intOf i).toNat)
  case atStart => exact ⟨0, _, Nat.zero_le _, rfl, rfl, by simpa [heldT] using OwnI.nil (Below.refl _ _)⟩
  case round =>
    obtain ⟨k, v, hk, rfl, rfl, hO⟩ := hrel
    have hlen := heldT_len c L (Q.take k)
    have hlen2 : (heldT c L (Q.take k)).length ≤ 4000 := by simp at hlen; omega
    have HLN := Lib.hid hlen2
    clear hlen hlen2
    by_cases hlt : k < nq
    · have hkQ : k < Q.length := by have := HNQ.out; omega
      obtain ⟨b, off, rfl, hbl, hcq⟩ := HQ.out (by omega)
      have cq := hcq k hkQ
      obtain ⟨p, hp⟩ : ∃ p, p = Q.getD k 0 := ⟨_, rfl⟩
      have hpm : p ∈ Q := by rw [hp, List.getD, List.getElem?_eq_getElem hkQ]; exact List.getElem_mem hkQ
      obtain ⟨p0, p1⟩ := HQR.out p hpm
      have HT := Lib.hid (heldT_succ c L Q k hkQ)
      rw [← hp] at cq HT
      have hS : ∀ w', Below w5.heap.size w5 w' → KH w c A n cap P w' ∧ w'.cell? ⟨b, off + k, none⟩ = some (.int .i64 p) := fun w' hb => ⟨HK5.out.step hb, (hb.cell (p := ⟨b, off + k, none⟩) hbl).trans cq⟩
      have HS := Lib.hid hS
      have hsc : ∀ w', Below w5.heap.size w5 w' → (KHc w A n cap P w' ∧ w'.cell? ⟨b, off + k, none⟩ = some (.int .i64 p)) := fun w' hb => ⟨(hS w' hb).1.cells, (hS w' hb).2⟩
      have HSC := Lib.hid hsc
      obtain ⟨⟨z0, z1⟩, z2⟩ := hsc wr hO.bel
      obtain ⟨nn, hnn⟩ : ∃ nn, nn = ldq L (plcc c 11 p 0) := ⟨_, rfl⟩
      have HNN := Lib.hid hnn
      have hnr := HW.out.ldq (plcc c 11 p 0)
      rw [← hnn] at hnr HT
      obtain ⟨n0, n1⟩ := hnr
      have HN11 : Hid (Norm ⟨11, p, 0⟩) := Lib.hid (nrm 11 p 0 (by omega) (by omega) (fun h => by omega) (fun _ _ _ => rfl))
      have HN13 : Hid (∀ j : Int, Norm ⟨13, p, j⟩) := Lib.hid (fun j => nrm 13 p j (by omega) (by omega) (fun h => by omega) (fun _ h _ => absurd rfl h))
      have HO := Lib.hid hO
      have HBD := Lib.hid hO.bel.drew
      have hk0 : (0 : Int) ≤ (k : Int) := by omega
      have hk1 : (k : Int) < (nq : Int) := by omega
      obtain ⟨A2, c2, hv2, _⟩ := hO.reads
      subst hv2
      clear hO hS hsc hcq cq hp hpm hnn q0 q1
      go_wp2_with (fail)
      go_region_held3 (fun w' => KHc w A n cap P w' ∧ w'.cell? ⟨b, off + k, none⟩ = some (.int .i64 p))
        (first | with_reducible exact HSC.out _ HB4.out | with_reducible exact HSC.out _ HBD.out | go_keep)
        (first
          | (go_at_call 55; (with_reducible refine (rat_any c A n cap P 11 p 0 _ (HS.out _ HBD.out).1.isA HN11.out).mono ?_); rintro r w6 ⟨rfl, hb⟩; have HB4 := Lib.hid (below_step HBD.out HBD.out.size hb); have HO4 := Lib.hid (HO.out.step (Nat.le_refl _) ((Below.refl _ _).drew.trans hb)); clear hb)
          | (go_at_call 54; (with_reducible refine (rload_any M m capM L _ _ HM.out (HL.out.below (HS.out _ HB4.out).1.bel (Nat.le_refl _))).mono ?_); rintro r w7 ⟨rfl, hw⟩; cases hw; rw [ldv_eq, ← HNN.out])
          | fail)
      obtain ⟨wo, hwo⟩ : ∃ wo : World, wo = wr := ⟨_, rfl⟩
      go_wp2_with (fail)
      obtain ⟨ct, hct⟩ : ∃ ct, ct = cnt4 nn := ⟨_, rfl⟩
      have HCT := Lib.hid hct
      have hct4 := cnt4_le nn
      rw [← hct] at hct4 HT
      have hlo : ∀ i : Nat, i < ct → (i : Int) < nn := by rw [hct]; exact (cnt4_lt nn).1
      have hhi : ct < 4 → nn ≤ (ct : Int) := by rw [hct]; exact (cnt4_lt nn).2
      have HLO := Lib.hid hlo; have HHI := Lib.hid hhi
      clear hct hlo hhi HBD HB4 z0 z1 z2 HO HN11
      go_loopw [5, 9] (fun o j wz => ∃ (i : Nat) (v : Value), i ≤ ct ∧ j = .int .i64 (i : Int) ∧ o = v ∧ OwnI .u64 39 w5.heap.size w5 wz v (heldT c L (Q.take k) ++ pkT c L p i)) (fun _ j _ => 5 - (intOf j).toNat)
      case atStart => exact ⟨0, _, Nat.zero_le _, rfl, rfl, by simpa [pkT] using HO4.out⟩
      case round =>
        clear HO4
        obtain ⟨i, v, hi, rfl, rfl, hO⟩ := hrel
        obtain ⟨A3, c3, hv3, _⟩ := hO.reads
        obtain ⟨C, hC⟩ : ∃ C, C = (heldT c L (Q.take k) ++ pkT c L p i).length := ⟨_, rfl⟩
        rw [← hC] at hv3
        subst hv3
        have HCC := Lib.hid hC
        clear hC
        have ew : IntKind.u64.wrap (i : Int) = (i : Int) := by rw [IntKind.wrap_u64]; omega
        by_cases hlt2 : i < ct
        · have d1 : decide ((i : Int) < 4) = true := by simp; omega
          have d2 : decide ((i : Int) < nn) = true := by simpa using HLO.out i hlt2
          have d3 : (i : Int) < nn := HLO.out i hlt2
          have hl5 : (heldT c L (Q.take k) ++ pkT c L p i).length ≤ 100000 := by have := HLN.out; rw [List.length_append, pkT_len]; omega
          have HL5 := Lib.hid hl5
          have HSU := Lib.hid (pkT_succ c L p i)
          obtain ⟨x, hx⟩ : ∃ x, x = ldq L (plcc c 13 p (i : Int)) := ⟨_, rfl⟩
          have HX := Lib.hid hx
          have hxr := HW.out.ldq (plcc c 13 p (i : Int))
          obtain ⟨⟨z0, z1⟩, z2⟩ := HSC.out wr hO.bel
          have HO := Lib.hid hO
          have HBD := Lib.hid hO.bel.drew
          clear hO hl5 hx hxr
          go_wp2_with (fail)
          go_region_held3 (fun w' => KHc w A n cap P w' ∧ w'.cell? ⟨b, off + k, none⟩ = some (.int .i64 p))
            (first | with_reducible exact HSC.out _ HB9.out | with_reducible exact HSC.out _ HB8.out | with_reducible exact HSC.out _ HB4.out | with_reducible exact HSC.out _ HBD.out | go_keep)
            (first
              | (go_at_call 55; (with_reducible refine (rat_any c A n cap P 13 p _ _ (HS.out _ HBD.out).1.isA (HN13.out _)).mono ?_); rintro r w6 ⟨rfl, hb⟩; have HB4 := Lib.hid (below_step HBD.out HBD.out.size hb); have HO4 := Lib.hid (HO.out.step (Nat.le_refl _) ((Below.refl _ _).drew.trans hb)); clear hb; have HB8 := Lib.hid (HB4.out.alloc HB4.out.size (.cells #[.int .u64 x] 39)))
              | (go_at_call 54; (with_reducible refine (rload_any M m capM L _ _ HM.out (HL.out.below (HS.out _ HB4.out).1.bel (Nat.le_refl _))).mono ?_); rintro r w7 ⟨rfl, hw⟩; cases hw; rw [ldv_eq, ← HX.out])
              | (refine step_append_int rfl _ _ 25 39 rfl Try.underlying25 info34 _ _ _ _ rfl HO4.out rfl ?_ ?_ ?_; (exact HL5.out); (exact Nat.le_refl _); intro v' w9 HO9; obtain ⟨A9, c9, hv9, _⟩ := HO9.reads; rw [List.length_append, ← HCC.out] at hv9; subst hv9; have HB9 := Lib.hid HO9.bel)
              | fail)
          go_wp2_with (fail)
          go_roundw
          case rel => exact ⟨i + 1, _, by omega, by go_num, rfl, by rw [HSU.out, ← HX.out, ← List.append_assoc]; exact HO9⟩
          case measure => simp [intOf]; omega
        · obtain rfl : i = ct := by omega
          have HO := Lib.hid hO
          have HT2 := Lib.hid HT.out.symm
          clear hO
          by_cases h4 : i = 4
          · have d1 : decide ((i : Int) < 4) = false := by simp; omega
            go_wp2_with (fail)
            go_roundw
            case rel => exact ⟨k + 1, _, by omega, by go_num, rfl, by rw [← HT2.out]; exact HO.out⟩
            case measure => simp [intOf]; omega
          · have d1 : decide ((i : Int) < 4) = true := by simp; omega
            have d3 := HHI.out (by omega)
            have d2 : decide ((i : Int) < nn) = false := by simpa using d3
            go_wp2_with (fail)
            go_roundw
            case rel => exact ⟨k + 1, _, by omega, by go_num, rfl, by rw [← HT2.out]; exact HO.out⟩
            case measure => simp [intOf]; omega
    · obtain rfl : k = nq := by omega
      obtain ⟨A2, c2, hv2, _⟩ := hO.reads
      subst hv2
      have e : heldT c L (Q.take k) = heldL c L := by
        have := HNQ.out
        rw [this, List.take_length]; unfold heldL; rw [HQQ.out, HP.out]; rfl
      rw [e] at hO
      have HO := Lib.hid hO
      clear hO
      go_wp2_with (fail)
      go_ret
      exact ⟨_, rfl, w5, by rw [e]; exact HO.out, HK5.out.bel⟩
end Go.Proofs.Ytbpfkhpnfkbacaa
