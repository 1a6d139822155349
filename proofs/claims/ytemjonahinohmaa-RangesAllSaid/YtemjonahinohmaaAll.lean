/- All pieces: walked. -/
import Derived.Test.YtemjonahinohmaaTold
namespace Go.Proofs.Ytemjonahinohmaa
open Go.RowKit
set_option linter.unusedVariables false

/-- Numbers of slots and a chunk, as they count, and how many pieces there are. -/
structure Pc (s c S C : Int) (n : Nat) : Prop where
  s : bnd s 0 1000 = S
  c : bnd c 1 1000 = C
  n : cntR S C = (n : Int)
theorem Pc.bd {s c S C : Int} {n : Nat} (h : Pc s c S C n) : 0 ≤ S ∧ S ≤ 1000 ∧ 1 ≤ C ∧ C ≤ 1000 ∧ 1 ≤ n ∧ n ≤ 1001 := by
  obtain ⟨rfl, rfl, h3⟩ := h
  have h1 := bnd_lo (n := s) (show (0 : Int) ≤ 1000 by omega)
  have h2 := bnd_hi (n := s) (show (0 : Int) ≤ 1000 by omega)
  have h4 := bnd_lo (n := c) (show (1 : Int) ≤ 1000 by omega)
  have h5 := bnd_hi (n := c) (show (1 : Int) ≤ 1000 by omega)
  have := cnt_pos h1 h4
  have := cnt_le h1 h4
  refine ⟨h1, h2, h4, h5, by omega, by omega⟩
theorem Pc.mk' (s c : Int) : ∃ S C n, Pc s c S C n ∧ cntW s c = (n : Int) := by
  have := cntW_bd s c
  refine ⟨_, _, (cntW s c).toNat, ⟨rfl, rfl, ?_⟩, by omega⟩
  show cntW s c = _
  omega
/-- Piece u, or none. -/
def pcs (S C : Int) (n u : Nat) : Pk := if u < n then (atR S C (u : Int), endR S C (u : Int)) else (-1, -1)

/-- The closure behind so many calls. -/
def TS (w : World) (N : Nat) (s c S C : Int) (n u : Nat) : Prop := ∃ f, Tld w N s c f (decide (u < n)) ∧ (u < n → f = atR S C (u : Int))
theorem TS.below {w w' : World} {N : Nat} {s c S C : Int} {n u : Nat} (h : TS w N s c S C n u) (hb : Below w.heap.size w w') : TS w' N s c S C n u := by
  obtain ⟨f, h, k⟩ := h; exact ⟨f, h.below hb, k⟩
theorem TS.lt {w : World} {N : Nat} {s c S C : Int} {n u : Nat} (h : TS w N s c S C n u) : N + 3 < w.heap.size := by
  obtain ⟨f, h, k⟩ := h; exact h.lt
theorem tell_any {N : Nat} {s c S C : Int} {n : Nat} (hp : Pc s c S C n) (u : Nat) (w : World) (h : TS w N s c S C n u) :
    Calls Try.prog 20 #[ptr (N + 3), ptr N, ptr (N + 2), ptr (N + 1)] w fun e w' => e = .returned (.agg #[.int .i64 (pcs S C n u).1, .int .i64 (pcs S C n u).2]) ∧ TS w' N s c S C n (u + 1) ∧ Upd (N + 2) (N + 3) w w' := by
  obtain ⟨b0, b1, b2, b3, b4, b5⟩ := hp.bd
  obtain ⟨f, h, hf⟩ := h
  by_cases hu : u < n
  · obtain rfl := hf hu
    have hui : (u : Int) < cntR S C := by rw [hp.n]; omega
    have hat := at_le b0 b2 (show (0 : Int) ≤ (u : Int) by omega)
    have hx : Nx s (atR S C (u : Int)) c S C (atR S C (u : Int)) (endR S C (u : Int)) := ⟨hp.s, hp.c, bnd_in hat.1 hat.2, by
      rw [← next_is b0 b2 (show (0 : Int) ≤ (u : Int) by omega) hui]; unfold imin; split <;> split <;> omega⟩
    have hm := end_more b0 b2 (show (0 : Int) ≤ (u : Int) by omega)
    have hd : decide (endR S C (u : Int) < S) = decide (u + 1 < n) := by
      rw [hp.n] at hm
      by_cases h1 : u + 1 < n
      · rw [decide_eq_true h1, decide_eq_true (hm.2 (by omega))]
      · rw [decide_eq_false h1, decide_eq_false (fun e => h1 (by have := hm.1 e; omega))]
    rw [decide_eq_true hu] at h
    have e : pcs S C n u = (atR S C (u : Int), endR S C (u : Int)) := by unfold pcs; rw [if_pos hu]
    rw [e]
    refine (tell_yes w h hx hd).mono fun e w' ⟨h1, h2, h3⟩ => ⟨h1, ⟨_, h2, fun _ => ?_⟩, h3⟩
    rw [end_at b0 b2 (by omega)]; rfl
  · rw [decide_eq_false hu] at h
    have e : pcs S C n u = (-1, -1) := by unfold pcs; rw [if_neg hu]
    rw [e]
    refine (tell_no w h).mono fun e w' ⟨h1, h2⟩ => ⟨h1, ⟨f, ?_, fun h => by omega⟩, Upd.of_below h2⟩
    rw [decide_eq_false (by omega)]
    exact h.below h2

/-- The state of All: its own row, the closure's, and the piece that is looked at. -/
structure AI (w0 w : World) (N n : Nat) (s c S C : Int) (k u bp : Nat) (x y : Int) : Prop where
  own : w.ownsRow w0.heap.size 24 2 (.slice (some ⟨w0.heap.size, 0, none⟩) k n) k (flat (upR S C k))
  ts : TS w N s c S C n u
  p : w.heap[bp]? = some (.cells #[.int .i64 x, .int .i64 y] 24 (0, 0))
  gN : w0.heap.size < N
  bN : N + 3 < bp
  bel : Below w0.heap.size w0 w
section
variable {w0 w w' : World} {N n : Nat} {s c S C : Int} {k u bp : Nat} {x y : Int}
theorem AI.step (h : AI w0 w N n s c S C k u bp x y) (hb : Below w.heap.size w w') : AI w0 w' N n s c S C k u bp x y :=
  ⟨h.own.kept (grown_of_below (row := none) hb) (.inr (by simp [Value.ownBlock])), h.ts.below hb, (hb.block _ (Array.getElem?_eq_some_iff.1 h.p).1).trans h.p, h.gN, h.bN, below_then h.bel hb⟩
theorem AI.drew (h : AI w0 w N n s c S C k u bp x y) : AI w0 w.drew N n s c S C k u bp x y := h.step (Below.refl _ _).drew
theorem AI.cells (h : AI w0 w N n s c S C k u bp x y) : w.cell? ⟨bp, 0, none⟩ = some (.int .i64 x) ∧ w.cell? ⟨bp, 1, none⟩ = some (.int .i64 y) ∧ AI w0 w N n s c S C k u bp x y :=
  ⟨by simp [World.cell?, h.p], by simp [World.cell?, h.p], h⟩
theorem AI.fro (h : AI w0 w N n s c S C k u bp x y) (j : Nat) : w.frozen? ⟨bp, j, none⟩ = false := frozen_of_row w bp j _ _ h.p
theorem AI.more {X Y : Prop} (h : X ∧ Y ∧ AI w0 w N n s c S C k u bp x y) (hb : Below w.heap.size w w') : AI w0 w' N n s c S C k u bp x y := h.2.2.step hb
/-- Behind a call of the closure. -/
theorem AI.told (h : AI w0 w N n s c S C k u bp x y) (ht : TS w' N s c S C n (u + 1)) (hu : Upd (N + 2) (N + 3) w w') : AI w0 w' N n s c S C k (u + 1) bp x y := by
  have := h.gN; have := h.bN
  have ho : OwnP 24 w0.heap.size w0 w (.slice (some ⟨w0.heap.size, 0, none⟩) k n) (upR S C k) := ⟨by rw [up_len]; exact h.own, h.bel⟩
  have ho' := ho.upd (Nat.le_refl _) hu (by omega) (by omega) (by simp [Value.ownBlock]; omega) (by simp [Value.ownBlock]; omega)
  exact ⟨by have := ho'.1; rwa [up_len] at this, ht, (hu.block bp (Array.getElem?_eq_some_iff.1 h.p).1 (by omega) (by omega)).trans h.p, h.gN, h.bN, ho'.2⟩
/-- The piece written. -/
theorem AI.put (h : AI w0 w N n s c S C k u bp x y) (x' y' : Int) : AI w0 ((w.setCell ⟨bp, 0, none⟩ (.int .i64 x')).setCell ⟨bp, 1, none⟩ (.int .i64 y')) N n s c S C k u bp x' y' := by
  have := h.gN; have := h.bN; have hlt := h.ts.lt
  have g1 : w.grownBy (w.setCell ⟨bp, 0, none⟩ (.int .i64 x')) (some bp) := ⟨rfl, rfl, rfl, by simp, fun i hi h1 => heap_setCell_other w ⟨bp, 0, none⟩ i _ (fun e => h1 (by rw [e]))⟩
  have g2 : (w.setCell ⟨bp, 0, none⟩ (.int .i64 x')).grownBy ((w.setCell ⟨bp, 0, none⟩ (.int .i64 x')).setCell ⟨bp, 1, none⟩ (.int .i64 y')) (some bp) := ⟨rfl, rfl, rfl, by simp, fun i hi h1 => heap_setCell_other _ ⟨bp, 1, none⟩ i _ (fun e => h1 (by rw [e]))⟩
  refine ⟨(h.own.kept g1 (.inr (by simp [Value.ownBlock]; omega))).kept g2 (.inr (by simp [Value.ownBlock]; omega)), ?_, ?_, h.gN, h.bN, (h.bel.setCell (by simp; omega) _).setCell (by simp; omega) _⟩
  · obtain ⟨f, h1, h2⟩ := h.ts
    exact ⟨f, (h1.other (p := ⟨bp, 0, none⟩) (.inr h.bN) _).other (p := ⟨bp, 1, none⟩) (.inr h.bN) _, h2⟩
  · rw [heap_setCell_same _ bp 1 #[.int .i64 x', .int .i64 y] 24 _ (by rw [heap_setCell_same _ bp 0 _ 24 _ h.p]; rfl)]; rfl
/-- A new variable for the piece. -/
theorem AI.fresh (h : AI w0 w N n s c S C k u bp x y) (x' y' : Int) : AI w0 (w.alloc (.cells #[.int .i64 x', .int .i64 y'] 24)) N n s c S C k u w.heap.size x' y' := by
  have hlt := h.ts.lt
  have k := h.step (below_alloc0 (Below.refl _ _) (.cells #[.int .i64 x', .int .i64 y'] 24))
  exact ⟨k.own, k.ts, heap_alloc_new w _, k.gN, hlt, k.bel⟩
/-- Behind an append. -/
theorem AI.app (h : AI w0 w N n s c S C k u bp x y) (ho : w'.ownsRow w0.heap.size 24 2 (.slice (some ⟨w0.heap.size, 0, none⟩) (k + 1) n) (k + 1) (flat (upR S C (k + 1)))) (hg : w.grownBy w' (some w0.heap.size)) : AI w0 w' N n s c S C (k + 1) u bp x y := by
  have := h.gN; have := h.bN
  refine ⟨ho, ?_, (hg.block bp (Array.getElem?_eq_some_iff.1 h.p).1 (by simp; omega)).trans h.p, h.gN, h.bN, h.bel.grown hg h.bel.size (fun b hb => by cases hb; exact Nat.le_refl _)⟩
  obtain ⟨f, t, hf⟩ := h.ts
  have := t.lt
  exact ⟨f, ⟨(hg.block _ (by omega) (by simp; omega)).trans t.bs, (hg.block _ (by omega) (by simp; omega)).trans t.bc, (hg.block _ (by omega) (by simp; omega)).trans t.bf, (hg.block _ (by omega) (by simp; omega)).trans t.bm⟩, hf⟩
/-- An append of the piece that has just been built. -/
theorem append_piece {ops : Array Oper} {rest : List Oper} {o : Oper} {a : Act} {Q : Exit → Act → World → Prop} {T : TypeId} (hg : o.guard = none) (v z : Operand)
    (ho : o.op = .call { callee := .builtin .append, args := #[v, z], argTypes := #[31, 31] }) (h : AI w0 w N n s c S C k u bp x y) (hs : a.eval v = .slice (some ⟨w0.heap.size, 0, none⟩) k n)
    (hx : a.eval z = .slice (some ⟨w.heap.size, 0, none⟩) 1 1) (hk : k < n) (hup : upR S C (k + 1) = upR S C k ++ [(x, y)])
    (H : ∀ w', AI w0 w' N n s c S C (k + 1) u bp x y → wpList Try.prog ops Q rest (a.put o.dst (.slice (some ⟨w0.heap.size, 0, none⟩) (k + 1) n)) w') :
    wpList Try.prog ops Q (o :: rest) a (w.alloc (.cells #[.int .i64 x, .int .i64 y] T)) := by
  obtain ⟨i0, hi, hz0, hz1, hz2⟩ := info_parts info24
  have ha := h.step (below_alloc0 (Below.refl _ _) (.cells #[.int .i64 x, .int .i64 y] T))
  refine wpList_append_fits _ hg v z 31 ho w0.heap.size 24 i0 2 Try.underlying31 hi hz1 w0.heap.size k n (flat (upR S C k)) hs ha.own ⟨w.heap.size, 0, none⟩ 1 1 [.int .i64 x, .int .i64 y] hx rfl ?_ ?_ hk ?_
  · intro j u hj
    rw [add_off, World.cell?_alloc_at _ _ _ _ rfl]
    match j, hj with
    | 0, hj => simp at hj; subst hj; rfl
    | 1, hj => simp at hj; subst hj; rfl
  · intro u hu
    simp at hu
    rcases hu with rfl | rfl <;> rfl
  · intro w' h1 h2
    refine H w' (ha.app ?_ h2)
    rw [hup, flat_app]
    exact h1
/-- The beginning. -/
theorem AI.start {w1 w2 w3 : World} (hp : Pc s c S C n) (ho : w1.ownsRow w.heap.size 24 2 (.slice (some ⟨w.heap.size, 0, none⟩) 0 n) 0 []) (hg : w.grownBy w1 none) (hl : w.heap.size < w1.heap.size)
    (ht : Tld w2 w1.heap.size s c 0 true) (hb : Below w1.heap.size w1 w2) (ht3 : TS w3 w1.heap.size s c S C n 1) (hu : Upd (w1.heap.size + 2) (w1.heap.size + 3) w2 w3) (x y : Int) :
    AI w (w3.alloc (.cells #[.int .i64 x, .int .i64 y] 24)) w1.heap.size n s c S C 0 1 w3.heap.size x y := by
  have hb1 : Below w.heap.size w w1 := (Below.refl _ _).grown hg (Nat.le_refl _) (fun b hb => by cases hb)
  have o1 : OwnP 24 w.heap.size w w1 (.slice (some ⟨w.heap.size, 0, none⟩) 0 n) [] := ⟨ho, hb1⟩
  have o2 := o1.step (Nat.le_refl _) hb
  have o3 := o2.upd (Nat.le_refl _) hu (by omega) (by omega) (by simp [Value.ownBlock]; omega) (by simp [Value.ownBlock]; omega)
  have o4 := o3.alloc (Nat.le_refl _) (.cells #[.int .i64 x, .int .i64 y] 24)
  exact ⟨o4.1, ht3.below (below_alloc0 (Below.refl _ _) _), heap_alloc_new _ _, hl, ht3.lt, o4.2⟩
theorem TS.start (hp : Pc s c S C n) (ht : Tld w N s c 0 true) : TS w N s c S C n 0 := by
  obtain ⟨b0, b1, b2, b3, b4, b5⟩ := hp.bd
  refine ⟨0, ?_, fun _ => (at_zero b0 b2).symm⟩
  rw [decide_eq_true (by omega)]; exact ht
end

def slen : Value → Nat | .slice _ l _ => l | _ => 0
/-- A result that is a row of pieces of the call's own. -/
def SomeP (l : List Pk) (w : World) (en : Ending) (w' : World) : Prop := ∃ v, en = .returned v ∧ OwnP 24 w.heap.size w w' v l

set_option maxHeartbeats 2000000 in
set_option maxRecDepth 100000 in
theorem all_any {s c S C : Int} {n : Nat} (hp : Pc s c S C n) (hn : cntW s c = (n : Int)) (w : World) :
    Calls Try.prog 13 #[.int .i64 s, .int .i64 c] w (SomeP (upR S C n) w) := by
  obtain ⟨b0, b1, b2, b3, b4, b5⟩ := hp.bd
  obtain ⟨i0, hi, hz0, hz1, hz2⟩ := info_parts info24
  have HP := Lib.hid hp
  have HN := Lib.hid hn
  clear hp hn
  go_enter Try.func13, Try.ntmps13
  go_wp2_with (first
    | (go_at_call 12; (with_reducible refine (count_any _ _ _ HN.out _).mono ?_); rintro r w1 ⟨rfl, rfl⟩)
    | (at_make; refine wpList_make_own _ rfl _ _ 31 rfl w.heap.size 24 i0 (.agg #[.int .i64 0, .int .i64 0]) 2 Try.underlying31 hi hz0 hz1 .i64 .i64 _ n rfl rfl rfl (by rw [hz2]; omega) (by unfold maxLen; omega) (by simp) ?_)
    | fail)
  intro w1 hown hgrow
  have hmf : ∀ (fn : Fn) (first cap : Array Value) (w : World), (Instr.makeFunc fn first cap).run Try.prog w = .ok (.func fn first cap) w := fun _ _ _ _ => rfl
  have hl := (hown.lt _ rfl).2
  have HO := Lib.hid (And.intro hown (And.intro hgrow hl))
  clear hown hgrow hl hi hz0 hz1 hz2 i0
  obtain ⟨N, hN⟩ : ∃ N, N = w1.heap.size := ⟨_, rfl⟩
  have HS : Hid (∀ w2 w3 x y, Tld w2 N s c 0 true → Below N w1 w2 → TS w3 N s c S C n 1 → Upd (N + 2) (N + 3) w2 w3 → AI w (w3.alloc (.cells #[.int .i64 x, .int .i64 y] 24)) N n s c S C 0 1 w3.heap.size x y) :=
    Lib.hid (by subst hN; exact fun w2 w3 x y h1 h2 h3 h4 => AI.start HP.out HO.out.1 HO.out.2.1 HO.out.2.2 h1 h2 h3 h4 x y)
  have HT := told_any s c w1
  rw [← hN] at HT
  clear hN HO
  go_wp2_with (first
    | (go_at_call 18; (with_reducible refine HT.mono ?_); rintro r w2 ⟨rfl, ht, hb⟩)
    | (go_at_call 20; (with_reducible refine (tell_any HP.out 0 _ (TS.start HP.out ht)).mono ?_); rintro r w3 ⟨rfl, ht3, hu⟩; have HA := HS.out _ _ (pcs S C n 0).1 (pcs S C n 0).2 ht hb ht3 hu)
    | fail)
  clear HT HS ht hb ht3 hu
  go_loopw [5, 7] (fun v pv wr => ∃ (j bp : Nat), j ≤ n ∧ v = .slice (some ⟨w.heap.size, 0, none⟩) j n ∧ pv = .pointer (some ⟨bp, 0, none⟩) ∧ AI w wr N n s c S C j (j + 1) bp (pcs S C n j).1 (pcs S C n j).2) (fun v _ _ => n + 1 - slen v)
  case atStart => exact ⟨0, _, Nat.zero_le _, rfl, rfl, HA⟩
  case round =>
    clear HA
    obtain ⟨j, bp, hj, rfl, rfl, HA⟩ := hrel
    by_cases hlt : j < n
    · have e : pcs S C n j = (atR S C (j : Int), endR S C (j : Int)) := by unfold pcs; rw [if_pos hlt]
      have hat := (at_le b0 b2 (show (0 : Int) ≤ (j : Int) by omega)).1
      rw [e] at HA
      obtain ⟨x, hx⟩ : ∃ x, x = atR S C (j : Int) := ⟨_, rfl⟩
      obtain ⟨y, hy⟩ : ∃ y, y = endR S C (j : Int) := ⟨_, rfl⟩
      have hup := up_succ (s := S) (c := C) j
      rw [← hx, ← hy] at HA hup
      rw [← hx] at hat
      have HU := Lib.hid hup
      have HE : ¬ x = -1 := by omega
      clear e hup hx hy
      obtain ⟨q0, q1, _⟩ := HA.cells
      go_wp2_with (fail)
      go_region_held3 (fun w' => w'.cell? ⟨bp, 0, none⟩ = some (.int .i64 x) ∧ w'.cell? ⟨bp, 1, none⟩ = some (.int .i64 y) ∧ AI w w' N n s c S C j (j + 1) bp x y)
        (first | exact AI.cells (by assumption) | exact AI.cells (AI.drew (by assumption)) | go_keep)
        (first
          | (go_at_call 19; (with_reducible refine (none_any _).mono ?_); rintro e w1 ⟨rfl, hb⟩; have hkk := AI.more (by assumption) hb)
          | fail)
      have HA := Lib.hid hkk
      rename_i hh
      obtain ⟨q0, q1, _⟩ := HA.out.cells
      clear hh hkk hb
      go_wp2_with (first
        | (at_builtin; refine append_piece rfl _ _ rfl HA.out rfl rfl hlt HU.out ?_; intro w5 HA5; obtain ⟨q0, q1, _⟩ := HA5.cells; have HF := Lib.hid (HA5.fresh x y); clear HA5)
        | (go_at_call 20; (with_reducible refine (tell_any HP.out (j + 1) _ HF.out.ts).mono ?_); rintro r w6 ⟨rfl, ht6, hu6⟩; have HG := Lib.hid (HF.out.told ht6 hu6); clear ht6 hu6; obtain ⟨g0, g1, _⟩ := HG.out.cells; have f0 := HG.out.fro 0; have f1 := HG.out.fro 1; have HZ := Lib.hid (HG.out.put (pcs S C n (j + 1)).1 (pcs S C n (j + 1)).2))
        | fail)
      go_roundw
      case rel => exact ⟨j + 1, _, by omega, rfl, rfl, HZ.out⟩
      case measure => simp [slen]; omega
    · obtain rfl : j = n := by omega
      have e : pcs S C j j = (-1, -1) := by unfold pcs; rw [if_neg (by omega)]
      rw [e] at HA
      obtain ⟨q0, q1, _⟩ := HA.cells
      clear e
      go_wp2_with (fail)
      go_region_held3 (fun w' => w'.cell? ⟨bp, 0, none⟩ = some (.int .i64 (-1)) ∧ w'.cell? ⟨bp, 1, none⟩ = some (.int .i64 (-1)) ∧ AI w w' N j s c S C j (j + 1) bp (-1) (-1))
        (first | exact AI.cells (by assumption) | exact AI.cells (AI.drew (by assumption)) | go_keep)
        (first
          | (go_at_call 19; (with_reducible refine (none_any _).mono ?_); rintro e w1 ⟨rfl, hb⟩; have hkk := AI.more (by assumption) hb)
          | fail)
      have HA := Lib.hid hkk
      rename_i hh
      clear hh hkk hb
      go_wp2_with (fail)
      go_ret
      exact ⟨_, rfl, by rw [up_len]; exact HA.out.own, HA.out.bel⟩
end Go.Proofs.Ytemjonahinohmaa
