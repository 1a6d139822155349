/- The law of two lists, one behind the other, walked. -/
import Derived.Test.YtmeiohmdiklepaaGap
import Derived.Laws.AppendOwnNone
namespace Go.Proofs.Ytmeiohmdiklepaa
open Go.RowKit
set_option linter.unusedVariables false

theorem row_nil {w : World} {a : Option Addr} {len cap : Nat} {z : List Int} (h : IsRow .i64 w a len cap z) (e : a = none) : cap = 0 := by
  rcases h with ⟨_, _, h, _⟩ | ⟨x, h, _⟩
  · exact h
  · rw [e] at h; cases h

/-- A list that is appended to a row of the call's own, nil let in. -/
theorem append_reads {w : World} {ops : Array Oper} {rest : List Oper} {o : Oper} {a : Act} {Q : Exit → Act → World → Prop} (hg : o.guard = none) (s x : Operand)
    (ho : o.op = .call { callee := .builtin .append, args := #[s, x], argTypes := #[22, 22] }) (B : Nat) (v : Value) (xs zs : List Int) (hs : a.eval s = v)
    (hown : w.ownsRow B 3 1 v xs.length (xs.map (Value.int .i64))) (A : Option Addr) (L cap : Nat) (hx : a.eval x = .slice A L cap) (hL : L = zs.length) (hr : Reads w A zs) (hn : A = none → cap = 0)
    (hx1 : xs.length ≤ 1000) (hz1 : zs.length ≤ 1000) (hB : B ≤ w.heap.size)
    (h : ∀ v' w', w'.ownsRow B 3 1 v' (xs ++ zs).length ((xs ++ zs).map (Value.int .i64)) → w.grownBy w' v.ownBlock → wpList Try.prog ops Q rest (a.put o.dst v') w') : wpList Try.prog ops Q (o :: rest) a w := by
  obtain ⟨i0, hi, hz0, hz1', hz2⟩ := info_parts info3
  subst hL
  rcases A with _ | ad
  · have hz : zs = [] := by
      cases zs with
      | nil => rfl
      | cons y l => obtain ⟨_, _, e, _⟩ := hr (by simp); cases e
    subst hz
    obtain rfl := hn rfl
    refine wpList_append_own_none hg s x 22 ho B 3 i0 1 Try.underlying22 hi v xs.length _ hs hown hx ?_
    exact h v w (by simpa using hown) (World.grownBy.refl _ _)
  · refine wpList_append_own w hg s x 22 ho B 3 i0 (.int .i64 0) 1 8 Try.underlying22 hi hz0 hz1' hz2 rfl (by decide) v xs.length _ hs hown ad zs.length cap (zs.map (Value.int .i64)) hx (by simp) ?_ ?_ (by unfold maxLen; omega) (by omega) hB ?_
    · intro j u hj
      by_cases hlt : j < zs.length
      · obtain ⟨b, off, e, _, hc⟩ := hr (by omega)
        cases e
        rw [map_get zs j hlt] at hj
        cases hj
        have e2 : (⟨b, off, none⟩ : Addr).add j = ⟨b, off + j, none⟩ := by
          unfold Addr.add
          split
          · rename_i e; subst e; rfl
          · rfl
        rw [e2]
        exact hc j hlt
      · rw [List.getElem?_eq_none (by simpa using Nat.le_of_not_lt hlt)] at hj
        cases hj
    · intro u hu
      obtain ⟨y, _, rfl⟩ := List.mem_map.1 hu
      rfl
    · intro v' w' h1 h2 _
      exact h v' w' (by rw [List.length_append, List.map_append]; exact h1) h2

/-- A row of the call's own reads as its list. -/
theorem reads_own {B : Nat} {w : World} {v : Value} {l : List Int} (h : w.ownsRow B 3 1 v l.length (l.map (Value.int .i64))) : ∃ A cap, v = .slice A l.length cap ∧ Reads w A l := by
  have ho : Own B w w v l := ⟨h, Below.refl _ _⟩
  rcases own_slice ho with ⟨e, rfl⟩ | ⟨g, c, rfl, _, _, h3, _, h5⟩
  · exact ⟨none, 0, by rw [e]; rfl, fun h => by rw [e] at h; simp at h⟩
  · exact ⟨_, c, rfl, fun _ => ⟨g, 0, rfl, h3, fun j hj => by rw [Nat.zero_add]; exact h5 j hj⟩⟩

set_option maxHeartbeats 2000000 in
theorem walkParts (a0 : Option Addr) (len0 cap0 : Nat) (z0 : List Int) (a1 : Option Addr) (len1 cap1 : Nat) (z1 : List Int) (a2 a3 a4 : Int) (w : World) (w0 : IsRow .i64 w a0 len0 cap0 z0) (w1 : IsRow .i64 w a1 len1 cap1 z1) (w2 : (Lit.int .i64 a2).wf = true) (w3 : (Lit.int .u8 a3).wf = true) (w4 : (Lit.int .u8 a4).wf = true) :
    Calls Try.prog 8 #[.slice a0 len0 cap0, .slice a1 len1 cap1, .int .i64 a2, .int .u8 a3, .int .u8 a4] w fun e w' => e = .returned (.bool true) ∧ Below w.heap.size w w' := by
  have n0 := row_nil w0
  have n1 := row_nil w1
  obtain ⟨hR, hlen, h1, h2⟩ := reads_row w0
  obtain ⟨hR1, hlen1, h3, h4⟩ := reads_row w1
  unfold maxLen at h2 h4
  have b3 := wf8 w3
  have b4 := wf8 w4
  clear w0 w1 w2 w3 w4
  generalize z0.take len0 = xs at hR hlen
  generalize z1.take len1 = ys at hR1 hlen1
  have HL := Lib.hid hlen.symm
  have HL1 := Lib.hid hlen1.symm
  have HN := Lib.hid n0
  have HN1 := Lib.hid n1
  have hb : Below w.heap.size w w := Below.refl _ _
  by_cases c1 : 40 < len0
  · clear hR hR1 hlen hlen1 n0 n1
    go_enter Try.func8, Try.ntmps8
    go_wp2_with (go_at_call 9; (with_reducible refine (awake_true _).mono ?_); rintro e w1 ⟨rfl, hb1⟩)
    go_ret
    exact ⟨rfl, hb1⟩
  by_cases c2 : 40 < len1
  · clear hR hR1 hlen hlen1 n0 n1
    go_enter Try.func8, Try.ntmps8
    go_wp2_with (go_at_call 9; (with_reducible refine (awake_true _).mono ?_); rintro e w1 ⟨rfl, hb1⟩)
    go_ret
    exact ⟨rfl, hb1⟩
  have hc : (xs ++ ys).length ≤ 80 := by simp; omega
  obtain ⟨Z, hZ⟩ : ∃ Z, Z = (xs ++ ys).length := ⟨_, rfl⟩
  rw [← hZ] at hc
  have HZ := Lib.hid hZ
  have hx40 : xs.length ≤ 1000 := by omega
  have hy40 : ys.length ≤ 1000 := by omega
  clear hlen hlen1 n0 n1 hZ
  obtain ⟨n, hn⟩ : ∃ n : Nat, a3 % 5 = (n : Int) := ⟨(a3 % 5).toNat, by omega⟩
  obtain ⟨k, hk⟩ : ∃ n : Nat, a4 % 10 + 1 = (n : Int) := ⟨(a4 % 10 + 1).toNat, by omega⟩
  have hn2 : n ≤ 4 := by omega
  have hk1 : 1 ≤ k := by omega
  have hk2 : k ≤ 10 := by omega
  have HR := Lib.hid hR
  have HR1 := Lib.hid hR1
  obtain ⟨c, hcd⟩ : ∃ c, c = xs ++ ys := ⟨_, rfl⟩
  have HC := Lib.hid hcd
  have HZC : Hid (Z = c.length) := Lib.hid (by rw [hcd]; exact HZ.out)
  clear hcd
  go_enter Try.func8, Try.ntmps8
  go_wp2_with (first
    | (go_at_call 9; (with_reducible refine (awake_true _).mono ?_); rintro e w1 ⟨rfl, hb1⟩; have hR := hR.below hb1; have hR1 := hR1.below hb1; have hb := below_step hb hb.size hb1; clear hb1)
    | (at_builtin; refine append_reads rfl _ _ rfl w.heap.size _ [] xs rfl (World.ownsRow_nil _ _ _ _) _ _ _ rfl HL.out hR HN.out (by simp) hx40 hb.size ?_; intro v1 w2 hown hg; have hb1 := (Below.refl _ _).grown hg (Nat.le_refl _) (fun k hk => by cases hk); have hR := hR.below hb1; have hR1 := hR1.below hb1; have hb := below_step hb hb.size hb1; clear hb1 hg; have hown := (show w2.ownsRow w.heap.size 3 1 v1 xs.length (xs.map (Value.int .i64)) by simpa using hown))
    | (at_builtin; refine append_reads rfl _ _ rfl w.heap.size v1 xs ys rfl hown _ _ _ rfl HL1.out hR1 HN1.out hx40 hy40 hb.size ?_; intro v2 w3 hown2 hg; have hb := hb.grown hg hb.size (fun r hr => (hown.lt r hr).1); rw [← HC.out] at hown2; obtain ⟨A, capc, rfl, hRc⟩ := reads_own hown2; rw [← HZC.out]; clear hg hown hown2 hR hR1; have hR := HR.out.below hb; have hR1 := HR1.out.below hb)
    | (go_at_call 15; (with_reducible refine (gap_at _ _ _ xs _ _ HL.out hR (by omega)).mono ?_); rintro e w4 ⟨x, hx, rfl, rfl⟩; have HX := Lib.hid hx; clear hx)
    | (go_at_call 15; (with_reducible refine (gap_at _ _ _ ys _ _ HL1.out hR1 (by omega)).mono ?_); rintro e w5 ⟨y, hy, rfl, rfl⟩; have HY := Lib.hid hy; clear hy)
    | (go_at_call 15; (with_reducible refine (gap_at _ _ _ c _ _ HZC.out hRc (by omega)).mono ?_); rintro e w6 ⟨z, hz, rfl, rfl⟩; rw [HC.out] at hz; have hp := gap_parts HX.out HY.out hz; have hx3 := gap_le HX.out; have hy3 := gap_le HY.out; have hm1 : imax (x : Int) (y : Int) ≤ (z : Int) := (by unfold imax; omega); have hm2 : (z : Int) ≤ (x : Int) + (y : Int) := (by omega); clear hz hp)
    | (go_at_call 13; (with_reducible refine (win_at _ _ _ c _ _ _ HZC.out hRc (by omega) (by omega) (by omega)).mono ?_); rintro e w7 ⟨b, hbt, rfl, hb1⟩; have hR := hR.below hb1; have hR1 := hR1.below hb1; have hb := below_step hb hb.size hb1; clear hb1 hRc; have HW := Lib.hid (fun e : b = true => win_parts (by have h5 := hbt.1 e; rw [HC.out] at h5; exact h5)); clear hbt; cases b)
    | (go_at_call 13; (with_reducible refine (win_yes _ _ _ xs _ _ _ HL.out hR (by omega) (by omega) (by omega) (HW.out (by decide)).1).mono ?_); rintro e w8 ⟨rfl, hb1⟩; have hR1 := hR1.below hb1; have hb := below_step hb hb.size hb1; clear hb1)
    | (go_at_call 13; (with_reducible refine (win_yes _ _ _ ys _ _ _ HL1.out hR1 (by omega) (by omega) (by omega) (HW.out (by decide)).2).mono ?_); rintro e w9 ⟨rfl, hb1⟩; have hb := below_step hb hb.size hb1; clear hb1))
  all_goals go_ret
  all_goals exact ⟨rfl, hb⟩
end Go.Proofs.Ytmeiohmdiklepaa
