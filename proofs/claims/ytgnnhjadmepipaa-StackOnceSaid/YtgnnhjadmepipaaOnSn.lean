/- Three machines: what holds at the loop's head; what is looked at behind each step. -/
import Derived.Test.YtgnnhjadmepipaaOnMem
namespace Go.Proofs.Ytgnnhjadmepipaa
open Go.RowKit
set_option linter.unusedVariables false
set_option linter.unusedSimpArgs false
attribute [local irreducible] sruns

/-- At the loop's head. -/
structure HD (c : Cn) (w wr : World) (i n : Int) (x : Vs) : Prop where
  so : SO c w wr n x
  pf : PF x.L i x.ms x.hs
  ex : x.ex = 3
  ln : ∀ j, j < 3 → x.lv j = decide ((x.ms j).pc ≠ 0) ∧ x.wv j = (if x.lv j = true then ptr (x.A j) else .pointer none) ∧ (x.lv j = true → x.pu j = decide ((x.ms j).kind = 1))
section
variable {c : Cn} {w wr w' : World} {i n : Int} {x : Vs} {k : Nat}
theorem HD.step (h : HD c w wr i n x) (hb : Below wr.heap.size wr w') : HD c w w' i n x := ⟨h.so.below hb, h.pf, h.ex, h.ln⟩
theorem HD.more (h : HD c w wr i n x) {j m : Int} (hj : i ≤ j) (hm : n ≤ m) : HD c w wr j m x := ⟨h.so.more hm, h.pf.more hj, h.ex, h.ln⟩
theorem HD.cellW (h : HD c w wr i n x) (hk : k < 3) : wr.cell? ⟨c.WK, k, none⟩ = some (if x.lv k = true then ptr (x.A k) else .pointer none) := by
  rw [h.so.wk.cell hk, (h.ln k hk).2.1]
theorem HD.live (h : HD c w wr i n x) (hk : k < 3) (hl : x.lv k = true) : (x.ms k).pc ≠ 0 := by
  have := (h.ln k hk).1
  rw [hl] at this
  simpa using this.symm
theorem HD.list (h : HD c w wr i n x) (hk : k < 3) : QB (x.bs k) wr (x.vs k) (x.hs k) := h.so.q k hk (by rw [h.ex]; omega)

/-- A machine has been begun, and laid into its place; it puts: b. -/
theorem HD.begun {w2 : World} {M : Nat} {m : Sm} {b : Bool} (h : HD c w wr i n x) (hk : k < 3) (s : SO c w w2 n { x with pu := upd3 x.pu k b, ms := upd3 x.ms k m, A := upd3 x.A k M, lv := upd3 x.lv k true, wv := upd3 x.wv k (ptr M) })
    (pf : PF x.L i (upd3 x.ms k m) x.hs) (hp : m.pc ≠ 0) (hb : b = decide (m.kind = 1)) : HD c w w2 i n { x with pu := upd3 x.pu k b, ms := upd3 x.ms k m, A := upd3 x.A k M, lv := upd3 x.lv k true, wv := upd3 x.wv k (ptr M) } := by
  refine ⟨s, pf, h.ex, fun j hj => ?_⟩
  by_cases e : j = k
  · subst e
    simp only [upd3_same]
    exact ⟨by simp [hp], by simp, fun _ => hb⟩
  · simp only [upd3_other _ _ e]
    exact h.ln j hj
/-- It has gone on. -/
theorem HD.on (h : HD c w wr i n x) (hk : k < 3) (hl : x.lv k = true) (s : SO c w w' (n + 1) { x with L := (sstp x.L (x.ms k)).1, ms := upd3 x.ms k (sstp x.L (x.ms k)).2 })
    (hp : (sstp x.L (x.ms k)).2.pc ≠ 0) (pf : PF (sstp x.L (x.ms k)).1 (i + 1) (upd3 x.ms k (sstp x.L (x.ms k)).2) x.hs) : HD c w w' (i + 1) (n + 1) { x with L := (sstp x.L (x.ms k)).1, ms := upd3 x.ms k (sstp x.L (x.ms k)).2 } := by
  refine ⟨s, pf, h.ex, fun j hj => ?_⟩
  by_cases e : j = k
  · subst e
    simp only [upd3_same]
    have := h.ln j hj
    refine ⟨by rw [hl]; simp [hp], this.2.1, fun hh => by rw [sstp_kind]; exact this.2.2 hh⟩
  · simp only [upd3_other _ _ e]
    exact h.ln j hj
/-- It is finished, and gone. -/
theorem HD.gone {L' : List Int} {m' : Sm} {hs' : Nat → List Int} {vs' : Nat → Value} {bs' : Nat → Nat} {n' : Int} (h : HD c w wr i n x) (hk : k < 3) (s : SO c w w' n' { x with L := L', ms := upd3 x.ms k m', hs := hs', vs := vs', bs := bs', ex := 3, wv := upd3 x.wv k (.pointer none), lv := upd3 x.lv k false })
    (hp : m'.pc = 0) (pf : PF L' (i + 1) (upd3 x.ms k m') hs') : HD c w w' (i + 1) n' { x with L := L', ms := upd3 x.ms k m', hs := hs', vs := vs', bs := bs', ex := 3, wv := upd3 x.wv k (.pointer none), lv := upd3 x.lv k false } := by
  refine ⟨s, pf, rfl, fun j hj => ?_⟩
  by_cases e : j = k
  · subst e
    simp only [upd3_same]
    exact ⟨by simp [hp], by simp, fun hh => by cases hh⟩
  · simp only [upd3_other _ _ e]
    exact h.ln j hj
end

theorem SO.ex3 {c : Cn} {w wr : World} {n : Int} {x : Vs} (h : SO c w wr n x) (e : x.ex = 3) : SO c w wr n { x with ex := 3 } := by
  have : ({ x with ex := 3 } : Vs) = x := by cases x; simp only at e; subst e; rfl
  rw [this]; exact h
theorem SO.itemIs {c : Cn} {w wr : World} {n : Int} {x : Vs} {k : Nat} (h : SO c w wr n x) (hk : k < 3) (hl : x.lv k = true) (I : Int) (hI : sItem (x.ms k) = I) : Calls Try.prog 18 #[ptr (x.A k)] wr fun a w' => a = .returned (.int .i64 I) ∧ wr = w' := by
  rw [← hI]; exact h.itemK hk hl
/-- What is seen: P; the stack's things: Q. -/
structure SN (c : Cn) (w wr : World) (n : Int) (x : Vs) (SE : Nat) (A1 : Option Addr) (Q P : List Int) : Prop where
  so : SO c w wr n x
  fr : Free w wr c x SE
  br : ∃ bl, BR wr SE bl ∧ bl.length = 9 ∧ ∀ y : Nat, y < 9 → bl.getD y false = decide ((y : Int) ∈ P)
  rd : RdI SE SE wr A1 Q
section
variable {c : Cn} {w wr w' : World} {n : Int} {x : Vs} {SE : Nat} {A1 : Option Addr} {Q P : List Int}
theorem SN.cell (h : SN c w wr n x SE A1 Q P) (y : Nat) (hy : y < 9) (t : Bool) (ht : decide ((y : Int) ∈ P) = t) : wr.cell? ⟨SE, y, none⟩ = some (.bool t) ∧ wr.frozen? ⟨SE, y, none⟩ = false := by
  obtain ⟨bl, h1, h2, h3⟩ := h.br
  exact ⟨by rw [h1.cell y (by omega), h3 y hy, ht], h1.fro y⟩
theorem SN.set (h : SN c w wr n x SE A1 Q P) (y : Nat) (hy : y < 9) : SN c w (wr.setCell ⟨SE, y, none⟩ (.bool true)) n x SE A1 Q (P ++ [(y : Int)]) := by
  obtain ⟨bl, h1, h2, h3⟩ := h.br
  have u := upd_set wr SE y (.bool true)
  refine ⟨h.so.other h.fr u, ⟨h.fr.1, h.fr.2.1, h.fr.2.2⟩, ⟨bl.set y true, h1.set y true, by simpa using h2, fun z hz => ?_⟩, h.rd.upd u⟩
  simp only [List.getD, List.getElem?_set]
  by_cases e : y = z
  · subst e; rw [if_pos rfl, if_pos (by omega)]; simp
  · rw [if_neg e]
    have h4 := h3 z hz
    simp only [List.getD] at h4
    rw [h4]
    have : ¬ (z : Int) = (y : Int) := by omega
    simp [this]
/-- The j-th list. -/
theorem SN.list (h : SN c w wr n x SE A1 Q P) (hex : x.ex = 3) (j : Nat) (hj : j < 3) : ∃ A cap, wr.cell? ⟨c.HS, j, none⟩ = some (.slice A (x.hs j).length cap) ∧ RdI SE SE wr A (x.hs j) := by
  have hq := h.so.q j hj (by omega)
  have hc := h.so.hsr.cell hj
  obtain ⟨A, cap, hv, hr⟩ := QO.reads (o := some (x.bs j)) hq
  refine ⟨A, cap, by rw [hc, hv], fun h0 => ?_⟩
  obtain ⟨off, cap', hv', _, _, hcell, _⟩ := QB.has hq h0
  rw [hv] at hv'
  cases hv'
  have hne := (h.fr.2.1 j hj)
  exact ⟨x.bs j, off, rfl, hq.lt, Ne.symm hne, Ne.symm hne, hcell⟩
/-- The walk: nothing is seen yet. -/
theorem SO.walkN (h : SO c w wr n x) {T : Int} (hs : Stk 9 x.L T Q) (fr : Free w wr c x SE) {bl : List Bool} (hb : BR wr SE bl) (hbl : bl = List.replicate 9 false) {A : Option Addr} {m : Nat} (hm : m = x.L.length) (hr : Reads .u64 wr A x.L) (cap : Nat) :
    Calls Try.prog 26 #[.slice A m cap, .int .i64 0, lkV c.Bx, .int .i64 20] wr fun e w' => ∃ A1 c1, e = .returned (.slice A1 Q.length c1) ∧ SN c w w' n x SE A1 Q [] := by
  have hq := nodup_le 9 Q hs.nd hs.rng
  refine (walkS A m cap c.Bx c.Ab 9 x.L 20 wr hm hr h.ok.ww h.ok.lk (by decide)).mono ?_
  rintro e w1 ⟨v1, rfl, hO⟩
  rw [walk_stk hs _ (show Q.length ≤ Int.toNat 20 by have : Int.toNat 20 = 20 := rfl; omega)] at hO
  obtain ⟨A1, c1, rfl, hbk⟩ := hO.blk
  have hl := hb.lt
  subst hbl
  exact ⟨A1, c1, rfl, h.below hO.bel, ⟨fr.1, fr.2.1, fr.2.2⟩, ⟨_, hb.below hO.bel, by simp, fun y hy => by simp only [List.getD, List.getElem?_replicate]; rw [if_pos hy]; simp⟩, fun h0 => by obtain ⟨b, off, e, h1, h2, hc⟩ := hbk h0; exact ⟨b, off, e, h2, by omega, by omega, hc⟩⟩
theorem SO.allN (h : SO c w wr n x) {T : Int} (hs : Stk 9 x.L T Q) (fr : Free w wr c x SE) {bl : List Bool} (hb : BR wr SE bl) :
    Calls Try.prog 22 #[ptr c.S] wr fun e w' => ∃ A, e = .returned (.slice A x.L.length x.L.length) ∧ Reads .u64 w' A x.L ∧ SO c w w' n x ∧ BR w' SE bl := by
  have hl := hs.len
  refine (all_ok h.ok (by omega)).mono ?_
  rintro e w1 ⟨rfl, hr, _, hbb⟩
  exact ⟨_, rfl, hr.reads, h.below hbb, hb.below hbb⟩
end
end Go.Proofs.Ytgnnhjadmepipaa
