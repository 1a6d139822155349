/- Rows of integers of the call's own. A stack's things in a list of words, walked. -/
import Derived.Test.YtbpkcoemehmpbaaJ3
import Derived.Test.YtbpkcoemehmpbaaRun
import Derived.ScopeJumps
import Derived.WalkMore
namespace Go.Proofs.Ytbpkcoemehmpbaa
open Go.RowKit
set_option linter.unusedVariables false

theorem info3 : (Try.prog.info? 3).map (fun i => (i.zero, i.size, i.bytes)) = some (some (.int .i64 0), 1, 8) := by kernel_rfl
theorem grown_of_below {a b : World} {row : Option Nat} (h : Below a.heap.size a b) : a.grownBy b row :=
  ⟨h.os, h.tape, h.output, h.size, fun i hi _ => h.block i hi⟩
/-- A row of integers of the call's own. -/
def OwnI (k : IntKind) (e : TypeId) (B : Nat) (w0 wr : World) (v : Value) (l : List Int) : Prop :=
  wr.ownsRow B e 1 v l.length (l.map (Value.int k)) ∧ Below B w0 wr
theorem OwnI.nil {k : IntKind} {e : TypeId} {B : Nat} {w0 wr : World} (h : Below B w0 wr) : OwnI k e B w0 wr (.slice none 0 0) [] := ⟨World.ownsRow_nil _ _ _ _, h⟩
theorem OwnI.step {k : IntKind} {e : TypeId} {B : Nat} {w0 wr w' : World} {v : Value} {l : List Int} (h : OwnI k e B w0 wr v l) (hB : B ≤ w0.heap.size) (hb : Below wr.heap.size wr w') : OwnI k e B w0 w' v l :=
  ⟨h.1.kept (grown_of_below (row := none) hb) (by cases v.ownBlock <;> simp), below_step h.2 (Nat.le_trans hB h.2.size) hb⟩
theorem OwnI.alloc {k : IntKind} {e : TypeId} {B : Nat} {w0 wr : World} {v : Value} {l : List Int} (h : OwnI k e B w0 wr v l) (hB : B ≤ w0.heap.size) (o : Obj) : OwnI k e B w0 (wr.alloc o) v l :=
  ⟨h.1.alloc o, h.2.alloc (Nat.le_trans hB h.2.size) o⟩
theorem OwnI.reads {k : IntKind} {e : TypeId} {B : Nat} {w0 wr : World} {v : Value} {l : List Int} (h : OwnI k e B w0 wr v l) : ∃ A cap, v = .slice A l.length cap ∧ Reads k wr A l ∧ (A = none → cap = 0) ∧ l.length ≤ cap ∧ cap ≤ maxLen := by
  obtain ⟨ho, hb⟩ := h
  have hlt := ho.lt
  have hcell := fun g (hg : v.ownBlock = some g) => ho.cells hg
  obtain ⟨hl, ⟨h1, h2⟩ | ⟨g, cap, cur, h1, h2, h3, h4, h5, h6, h7⟩⟩ := ho
  · exact ⟨none, 0, by rw [h1, h2], fun h => by omega, fun _ => rfl, by omega, by unfold maxLen; omega⟩
  · refine ⟨_, cap, h1, fun _ => ⟨g, 0, rfl, (hlt g (by rw [h1]; rfl)).2, fun i hi => ?_⟩, (fun e => by cases e), h4, h5⟩
    have c0 := hcell g (by rw [h1]; rfl) i _ (map_get k l i hi)
    rw [add_off] at c0
    exact c0

/-- An append of one integer that has just been built. -/
theorem append_int {k : IntKind} {wr : World} {T : TypeId} {x : Int} {ops : Array Oper} {rest : List Oper} {o : Oper} {a : Act} {Q : Exit → Act → World → Prop} (hg : o.guard = none) (s c : Operand) (t e : TypeId)
    (ho : o.op = .call { callee := .builtin .append, args := #[s, c], argTypes := #[t, t] }) (ht : Try.prog.underlying t = some (.slice e))
    (hi : (Try.prog.info? e).map (fun i => (i.zero, i.size, i.bytes)) = some (some (.int k 0), 1, 8))
    (B : Nat) (w0 : World) (v : Value) (l : List Int) (hs : a.eval s = v) (hown : OwnI k e B w0 wr v l) (hx : a.eval c = .slice (some ⟨wr.heap.size, 0, none⟩) 1 1) (hl : l.length ≤ 100000) (hB : B ≤ w0.heap.size)
    (h : ∀ v' w', OwnI k e B w0 w' v' (l ++ [x]) → wpList Try.prog ops Q rest (a.put o.dst v') w') :
    wpList Try.prog ops Q (o :: rest) a (wr.alloc (.cells #[.int k x] T)) := by
  obtain ⟨i0, hi0, hz0, hz1, hz2⟩ := info_parts hi
  have hsz := hown.2.size
  have hn := hown.alloc hB (.cells #[.int k x] T)
  refine wpList_append_own _ hg s c t ho B e i0 _ 1 8 ht hi0 hz0 hz1 hz2 rfl (by decide) v l.length _ hs hn.1 ⟨wr.heap.size, 0, none⟩ 1 1 [.int k x] hx rfl ?_ ?_ (by unfold maxLen; omega) (by omega) (by simp; omega) ?_
  · intro j u hj
    rw [add_off, World.cell?_alloc_at _ _ _ _ rfl]
    match j, hj with
    | 0, hj => simp at hj; subst hj; rfl
  · intro u hu
    simp at hu
    rcases hu with rfl
    rfl
  · intro v' w' h1 h2 _
    refine h v' w' ⟨by simpa using h1, hn.2.grown h2 (by simp; omega) (fun b hb => (hn.1.lt b hb).1)⟩

/-- Where it lies. -/
theorem OwnI.blk {k : IntKind} {e : TypeId} {B : Nat} {w0 wr : World} {v : Value} {l : List Int} (h : OwnI k e B w0 wr v l) : ∃ A cap, v = .slice A l.length cap ∧ (0 < l.length → ∃ b off, A = some ⟨b, off, none⟩ ∧ B ≤ b ∧ b < wr.heap.size ∧ ∀ j, j < l.length → wr.cell? ⟨b, off + j, none⟩ = some (.int k (l.getD j 0))) := by
  obtain ⟨ho, hb⟩ := h
  have hlt := ho.lt
  have hcell := fun g (hg : v.ownBlock = some g) => ho.cells hg
  obtain ⟨hl, ⟨h1, h2⟩ | ⟨g, cap, cur, h1, h2, h3, h4, h5, h6, h7⟩⟩ := ho
  · exact ⟨none, 0, by rw [h1, h2], fun h => by omega⟩
  · refine ⟨_, cap, h1, fun _ => ⟨g, 0, rfl, (hlt g (by rw [h1]; rfl)).1, (hlt g (by rw [h1]; rfl)).2, fun i hi => ?_⟩⟩
    have c0 := hcell g (by rw [h1]; rfl) i _ (map_get k l i hi)
    rw [add_off] at c0
    exact c0
end Go.Proofs.Ytbpkcoemehmpbaa

namespace Go.Proofs.Ytbpkcoemehmpbaa
open Go.RowKit
set_option linter.unusedVariables false
set_option linter.unusedSimpArgs false

/-- From a thing on. -/
def wlk (L : List Int) (k : Sk) : Nat → Int → List Int
  | 0, _ => []
  | f + 1, x => if x = 0 then [] else x :: wlk L k f (low (ldq L (atOf k.links x)))
theorem low_ldq (L : List Int) (p : Int) : 0 < low (ldq L p) ↔ ((0 ≤ p ∧ p < L.length) ∧ 0 < low (L.getD p.toNat 0)) := by
  unfold ldq; split
  · rename_i h; exact ⟨fun h2 => ⟨h, h2⟩, fun h2 => h2.2⟩
  · rename_i h; exact ⟨fun h2 => by simp [low] at h2, fun h2 => absurd h2.1 h⟩
theorem walk_wlk (L : List Int) (k : Sk) : ∀ (f : Nat) (p : Int), walkQ L k f p = wlk L k f (low (ldq L p))
  | 0, p => rfl
  | f + 1, p => by
    have h := low_ldq L p
    have h0 := (low_rng (ldq L p)).1
    unfold walkQ wlk
    by_cases hc : (0 ≤ p ∧ p < L.length) ∧ 0 < low (L.getD p.toNat 0)
    · have e : ldq L p = L.getD p.toNat 0 := by unfold ldq; rw [if_pos hc.1]
      rw [if_pos hc, e, if_neg (by omega), walk_wlk L k f]
    · have h2 : low (ldq L p) = 0 := by
        have : ¬ 0 < low (ldq L p) := fun h3 => hc (h.1 h3)
        omega
      rw [if_neg hc, if_pos h2]

set_option maxHeartbeats 1000000 in
theorem told_any (A : Option Addr) (n cap : Nat) (L : List Int) (p : Int) (w : World) (hn : n = L.length) (h : Reads .u64 w A L) (ww : WW L) :
    Calls Try.prog 46 #[.slice A n cap, .int .i64 p] w fun e w' => e = .returned (.int .u32 (low (ldq L p))) ∧ Below w.heap.size w w' := by
  by_cases h1 : p < 0
  · have e : low (ldq L p) = 0 := by unfold ldq; rw [if_neg (by omega)]; rfl
    rw [e]
    have d1 : decide (p < 0) = true := by simpa using h1
    clear h e hn ww
    go_enter Try.func46, Try.ntmps46
    go_wp2_with (fail)
    go_ret
    exact ⟨rfl, Below.refl _ _⟩
  · have d1 : decide (p < 0) = false := by simpa using h1
    by_cases h2 : (n : Int) ≤ p
    · have e : low (ldq L p) = 0 := by unfold ldq; rw [if_neg (by omega)]; rfl
      rw [e]
      have d2 : decide (p ≥ (n : Int)) = true := by simpa using h2
      clear h e hn ww
      go_enter Try.func46, Try.ntmps46
      go_wp2_with (fail)
      go_ret
      exact ⟨rfl, Below.refl _ _⟩
    · have d2 : decide (p ≥ (n : Int)) = false := by simp; omega
      obtain ⟨i, rfl⟩ : ∃ i : Nat, p = (i : Int) := ⟨p.toNat, by omega⟩
      have hi : i < n := by omega
      obtain ⟨y, hy⟩ : ∃ y, y = ldq L (i : Int) := ⟨_, rfl⟩
      have hb := ww.ldq (i : Int)
      rw [← hy] at hb ⊢
      obtain ⟨y0, y1⟩ := hb
      obtain ⟨b, off, rfl, _, hc⟩ := h (by omega)
      have c1 := hc i (by omega)
      have e : L.getD i 0 = y := by rw [hy]; unfold ldq; rw [if_pos (by omega)]; simp
      rw [e] at c1
      have hi0 : (0 : Int) ≤ (i : Int) := by omega
      have hi1 : (i : Int) < (n : Int) := by omega
      clear h hc hn hy ww e
      go_enter Try.func46, Try.ntmps46
      go_wp2_with (first
        | (go_at_call 68; (with_reducible refine (low_any _ y0 y1 _).mono ?_); rintro r w2 ⟨rfl, hb⟩)
        | fail)
      go_ret
      exact ⟨rfl, hb⟩

theorem OwnI.bel {k : IntKind} {e : TypeId} {B : Nat} {w0 wr : World} {v : Value} {l : List Int} (h : OwnI k e B w0 wr v l) : Below B w0 wr := h.2
theorem wp_scope_once {P : Program} {a : Act} {w : World} {Q : Exit → Act → World → Prop} {c X : Code} (l : Nat) (J : Act → World → Prop) (μ : Act → World → Nat) (hf : findLabel c l = some (Code.skip.seq X))
    (pass : ∀ a w, J a w → ∀ JJ : Act → World → Prop, (∀ a' w', J a' w' → μ a' w' < μ a w → JJ a' w') → X.wp P (Exit.jump l JJ Q) a w)
    (first : ∀ JJ : Act → World → Prop, (∀ a w, J a w → X.wp P (Exit.jump l JJ Q) a w) → c.wp P (Exit.jump l JJ Q) a w) : (Code.scope c).wp P Q a w :=
  wp_scope_jumps l J μ hf (first J fun a w h => pass a w h J fun _ _ h _ => h) fun a w h => wp_seq (wp_skip (pass a w h _ fun _ _ h h2 => ⟨h, h2⟩))

set_option maxRecDepth 100000 in
set_option maxHeartbeats 4000000 in
theorem walk_any (A : Option Addr) (n cap Ab : Nat) (lv : Value) (L : List Int) (k : Sk) (most : Int) (w : World) (hn : n = L.length) (h : Reads .u64 w A L) (ww : WW L) (hl : Lk w lv Ab k.links) (hm : most ≤ 1000) :
    Calls Try.prog 18 #[.slice A n cap, .int .i64 k.head, lv, .int .i64 most] w fun e w' => ∃ v, e = .returned v ∧ OwnI .i64 3 w.heap.size w w' v (walkQ L k most.toNat k.head) := by
  by_cases h0 : most < 1
  · have e : walkQ L k most.toNat k.head = [] := by rw [show most.toNat = 0 by omega]; rfl
    rw [e]
    have d : decide (most < 1) = true := by simpa using h0
    clear h hl ww hn e
    go_enter Try.func18, Try.ntmps18
    go_wp2_with (fail)
    go_step3
    go_wp2_with (fail)
    rw [Exit.noGoto_ret]
    go_ret
    exact ⟨_, rfl, OwnI.nil (Below.refl _ _)⟩
  · have d : decide (most < 1) = false := by simpa using h0
    obtain ⟨W, hW⟩ : ∃ W, W = walkQ L k most.toNat k.head := ⟨_, rfl⟩
    rw [← hW]
    rw [walk_wlk] at hW
    have HR := Lib.hid h; have HL := Lib.hid hl; have HN := Lib.hid hn; have HW := Lib.hid ww; have HWW := Lib.hid hW
    have H0 := Lib.hid h0
    clear h hl hn ww hW h0
    go_enter Try.func18, Try.ntmps18
    go_wp2_with (fail)
    refine wp_scope_once 0 (fun a' wr => ∃ (v : Value) (Q0 : List Int) (x : Int) (f : Nat) (u8 u11 u12 u13 u14 u15 u16 u17 u18 u19 u20 u21 u22 u23 u24 u25 u26 u27 u28 u29 u30 u31 u32 u33 : Value), a' = { tmps := #[.slice A n cap, .int .i64 k.head, lv, .int .i64 most, undef, undef, undef, undef, u8, v, .int .u32 x, u11, u12, u13, u14, u15, u16, u17, u18, u19, u20, u21, u22, u23, u24, u25, u26, u27, u28, u29, u30, u31, u32, u33], defers := [] } ∧ OwnI .i64 3 w.heap.size w wr v Q0 ∧ (Q0.length : Int) + f + 1 = most ∧ 0 ≤ x ∧ x ≤ 4294967295 ∧ Q0 ++ wlk L k (f + 1) x = W) (fun a' _ => most.toNat - (match a'.tmps.getD 9 undef with | .slice _ n _ => n | _ => 0)) rfl ?_ ?_
    · rintro a' wr ⟨v, Q0, x, f, u8, u11, u12, u13, u14, u15, u16, u17, u18, u19, u20, u21, u22, u23, u24, u25, u26, u27, u28, u29, u30, u31, u32, u33, rfl, hO, hf, hx0, hx1, hres⟩ JJ hJJ
      have HJ := Lib.hid hJJ; clear hJJ
      obtain ⟨C, hC⟩ : ∃ C, C = Q0.length := ⟨_, rfl⟩
      rw [← hC] at hf
      have HC := Lib.hid hC
      by_cases hz : x = 0
      · subst hz
        have e : Q0 = W := by rw [← hres]; simp [wlk]
        rw [e] at hO
        have HO := Lib.hid hO
        clear hres hO hC e hx0 hx1
        go_wp2_with (fail)
        simp only [Exit.jump]
        go_ret
        exact ⟨_, rfl, HO.out⟩
      · have hz2 : (x == 0) = false := by simpa using hz
        have hq : Q0.length ≤ 100000 := by omega
        have HO := Lib.hid hO; have HQ := Lib.hid hq; have HRS := Lib.hid hres; have HX := Lib.hid hz
        have hvn : ∃ A c, v = .slice A C c := by obtain ⟨A, c, e, _⟩ := hO.reads; exact ⟨A, c, by rw [e, hC]⟩
        have HV := Lib.hid hvn
        have hf' : (C : Int) ≤ 1000 := by omega
        clear hO hq hres hC hvn hz
        by_cases hf0 : f = 0
        · subst hf0
          have hlt : decide ((C : Int) + 1 < most) = false := by simp; omega
          have hlt2 : ¬ (C : Int) + 1 < most := by omega
          go_wp2_with (first
            | (at_builtin; refine append_int rfl _ _ 42 3 rfl Try.underlying42 info3 _ _ _ _ rfl HO.out rfl ?_ ?_ ?_; (exact HQ.out); (exact Nat.le_refl _); intro v' w5 HO5; obtain ⟨A', c', hv', _⟩ := HO5.reads; rw [List.length_append, ← HC.out] at hv'; subst hv'; have HP := Lib.hid HO5; clear HO5)
            | fail)
          simp only [Exit.jump]
          go_ret
          refine ⟨_, rfl, ?_⟩
          have hE : Q0 ++ [x] = W := by rw [← HRS.out]; unfold wlk; rw [if_neg HX.out]; rfl
          rw [← hE]; exact HP.out
        · obtain ⟨g, rfl⟩ : ∃ g, f = g + 1 := ⟨f - 1, by omega⟩
          have hlt : decide ((C : Int) + 1 < most) = true := by simp; omega
          have hlt2 : (C : Int) + 1 < most := by omega
          have HH := Lib.hid hf
          clear hf
          go_wp2_with (first
            | (at_builtin; refine append_int rfl _ _ 42 3 rfl Try.underlying42 info3 _ _ _ _ rfl HO.out rfl ?_ ?_ ?_; (exact HQ.out); (exact Nat.le_refl _); intro v' w5 HO5; obtain ⟨A', c', hv', _⟩ := HO5.reads; rw [List.length_append, ← HC.out] at hv'; subst hv'; have HP := Lib.hid HO5; clear HO5)
            | (go_at_call 47; (with_reducible refine (place_any _ _ (HL.out.below HP.out.bel) hx0 hx1).mono ?_); rintro r w6 ⟨rfl, hb⟩; have HP2 := Lib.hid (HP.out.step (Nat.le_refl _) hb); clear hb)
            | (go_at_call 46; (with_reducible refine (told_any A n cap L _ _ HN.out (HR.out.below HP2.out.bel (Nat.le_refl _)) HW.out).mono ?_); rintro r w7 ⟨rfl, hb⟩; have HP3 := Lib.hid (HP2.out.step (Nat.le_refl _) hb); clear hb)
            | fail)
          go_step3
          have hlr := low_rng (ldq L (atOf k.links x))
          refine ⟨rfl, HJ.out _ _ ⟨_, Q0 ++ [x], _, g, _, _, _, _, _, _, _, _, _, _, _, _, _, _, _, _, _, _, _, _, _, _, _, _, rfl, HP3.out, ?_, hlr.1, hlr.2, ?_⟩ ?_⟩
          · have := HH.out; have := HC.out; simp; omega
          · rw [← HRS.out]
            conv => rhs; unfold wlk
            rw [if_neg HX.out]; simp
          · obtain ⟨A2, c2, hv⟩ := HV.out
            subst hv
            have := HH.out
            show most.toNat - (C + 1) < most.toNat - C
            omega
    · intro JJ hrest
      go_wp2_with (first
        | (go_at_call 46; (with_reducible refine (told_any A n cap L k.head _ HN.out HR.out HW.out).mono ?_); rintro r w1 ⟨rfl, hb⟩)
        | fail)
      have hlr := low_rng (ldq L k.head)
      go_step3
      apply_assumption
      refine hrest _ _ ⟨_, [], _, most.toNat - 1, _, _, _, _, _, _, _, _, _, _, _, _, _, _, _, _, _, _, _, _, _, _, _, _, rfl, OwnI.nil hb, ?_, hlr.1, hlr.2, ?_⟩
      · have := H0.out; simp; omega
      · have := H0.out; rw [HWW.out, show most.toNat - 1 + 1 = most.toNat by omega]; rfl
end Go.Proofs.Ytbpkcoemehmpbaa
