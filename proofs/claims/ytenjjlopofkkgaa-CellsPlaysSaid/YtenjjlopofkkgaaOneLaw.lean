/- The call of the law of one access. -/
import Derived.Test.YtenjjlopofkkgaaTurnedLaw
import Derived.Test.YtenjjlopofkkgaaAct
namespace Go.Proofs.Ytenjjlopofkkgaa
open Go.RowKit
set_option linter.unusedVariables false

theorem get_ptv (L : List Int) (p v : Int) (k : Nat) (h : (ptv L p v).getD k 0 ≠ L.getD k 0) : (k : Int) = p := by
  unfold ptv at h
  cases hb : inB L p
  · rw [hb] at h; simp at h
  · rw [hb] at h
    have hi := in_yes hb
    by_cases e : p.toNat = k
    · omega
    · exfalso; apply h; simp [List.getD, e]
theorem get_swv (L : List Int) (p o v : Int) (k : Nat) (h : (swv L p o v).getD k 0 ≠ L.getD k 0) : (k : Int) = p := by
  unfold swv at h
  cases hb : swB L p o
  · rw [hb] at h; simp at h
  · rw [hb] at h
    have hi : inB L p = true := by unfold swB at hb; simp at hb; exact hb.1
    have hi := in_yes hi
    by_cases e : p.toNat = k
    · omega
    · exfalso; apply h; simp [List.getD, e]
theorem swv_false (L : List Int) (p o v : Int) (h : swB L p o = false) : swv L p o v = L := by unfold swv; rw [h]; simp
/-- The world in which the access lies boxed, and all that came in stands. -/
structure Begun1 (w w0 : World) (x : Ac) (A : Option Addr) (L : List Int) : Prop where
  bel : Below w.heap.size w w0
  size : w0.heap.size = w.heap.size + 1
  b1 : Boxed w0 w.heap.size x
  reads : Reads .u64 w0 A L
theorem Begun1.mk' {w : World} (x : Ac) {A : Option Addr} {L : List Int} (h : Reads .u64 w A L) : Begun1 w (w.alloc (boxO x)) x A L :=
  ⟨below_alloc0 (Below.refl _ _) _, by simp, boxed_new w x, h.below (below_alloc0 (Below.refl _ _) _) (Nat.le_refl _)⟩
theorem Begun1.box {w w0 wr : World} {x : Ac} {A : Option Addr} {L : List Int} (h : Begun1 w w0 x A L) (hb : Below w0.heap.size w0 wr) : Boxed wr w.heap.size x := h.b1.below hb (by rw [h.size]; omega)
theorem Begun1.reads' {w w0 wr : World} {x : Ac} {A : Option Addr} {L : List Int} (h : Begun1 w w0 x A L) (hb : Below w0.heap.size w0 wr) : Reads .u64 wr A L := h.reads.below hb (Nat.le_refl _)

/-- What is known in the loop. -/
structure Loop1 (w wr : World) (S D X n : Nat) (x : Ac) (A : Option Addr) (L M : List Int) : Prop where
  bel : Below w.heap.size w wr
  st : St wr S D M 1
  row : Row wr X M
  box : Boxed wr w.heap.size x
  reads : Reads .u64 wr A L
theorem Loop1.step {w wr w' : World} {S D X n : Nat} {x : Ac} {A : Option Addr} {L M : List Int} (h : Loop1 w wr S D X n x A L M) (hb : Below wr.heap.size wr w') : Loop1 w w' S D X n x A L M :=
  ⟨below_then h.bel hb, h.st.below hb, h.row.below hb, h.box.below hb (World.block_lt_of_cell? _ _ h.box.1), h.reads.below hb (Nat.le_refl _)⟩

/-- What the kinds of accesses leave: the words, and whether they may have changed. -/
def Kinds (L M : List Int) (d p o v : Int) (ch : Bool) : Prop :=
  M.length = L.length ∧ (∀ k : Nat, M.getD k 0 ≠ L.getD k 0 → ch = true ∧ (k : Int) = p) ∧
  ((d = 0 ∧ M = L ∧ ch = false) ∨ (d = 1 ∧ M = ptv L p v ∧ ch = true) ∨ (d = 2 ∧ M = swv L p o v ∧ ch = swB L p o) ∨ (2 < d ∧ M = adv L p v ∧ ch = true))
theorem kinds_of (L : List Int) (d p o v : Int) (h : 0 ≤ d) : ∃ M ch, Kinds L M d p o v ch := by
  by_cases d0 : d = 0
  · exact ⟨L, false, rfl, fun k hk => absurd rfl hk, .inl ⟨d0, rfl, rfl⟩⟩
  by_cases d1 : d = 1
  · exact ⟨_, true, ptv_len .., fun k hk => ⟨rfl, get_ptv L p v k hk⟩, .inr (.inl ⟨d1, rfl, rfl⟩)⟩
  by_cases d2 : d = 2
  · refine ⟨_, _, swv_len L p o v, fun k hk => ⟨?_, get_swv L p o v k hk⟩, .inr (.inr (.inl ⟨d2, rfl, rfl⟩))⟩
    cases hb : swB L p o
    · rw [swv_false L p o v hb] at hk; exact absurd rfl hk
    · rfl
  · exact ⟨_, true, adv_len .., fun k hk => ⟨rfl, get_ptv L p _ k hk⟩, .inr (.inr (.inr ⟨by omega, rfl, rfl⟩))⟩

set_option maxHeartbeats 16000000 in
set_option maxRecDepth 100000 in
theorem walkOne (A : Option Addr) (n cap : Nat) (zs : List Int) (x : Ac) (w : World) (hz : IsRow .u64 w A n cap zs) (wx : WfAc x) :
    Calls Try.prog 4 #[.slice A n cap, acV x] w fun e w' => e = .returned (.bool true) ∧ Below w.heap.size w w' := by
  obtain ⟨hr, hrl, _, _, _, _⟩ := reads_row hz
  clear hz
  obtain ⟨L, hL⟩ : ∃ L, L = zs.take n := ⟨_, rfl⟩
  rw [← hL] at hr hrl
  have hbg := Begun1.mk' x hr
  have HBG := Lib.hid hbg
  have HN := Lib.hid hrl.symm
  obtain ⟨W0, hW0⟩ : ∃ W0, W0 = w.alloc (boxO x) := ⟨_, rfl⟩
  have HW0 := Lib.hid hW0
  rw [← hW0] at HBG
  clear hL hr hbg hW0
  by_cases h60 : 200 < n
  · have h60' : (200 : Int) < (n : Int) := by omega
    clear hrl
    go_enter Try.func4, Try.ntmps4
    go_wp2_with (first
      | (go_at_call 9; (with_reducible refine (awake_any _).mono ?_); rintro r w1 ⟨rfl, hb⟩; rw [← HW0.out] at hb; have HB := Lib.hid hb; clear hb)
      | fail)
    go_ret
    exact ⟨rfl, below_then HBG.out.bel HB.out⟩
  obtain ⟨d, p, o, v⟩ := x
  have h60' : ¬ (200 : Int) < (n : Int) := by omega
  have hn2 : n ≤ 1000000 := by omega
  obtain ⟨M, ch, hML, hget, hkind⟩ := kinds_of L d p o v wx.1
  have HML : Hid (n = M.length) := Lib.hid (by rw [hML]; exact hrl.symm)
  have HG := Lib.hid hget
  clear hget hML hrl h60
  have key : (d = 0 ∧ Hid (L = M) ∧ Hid (ch = false)) ∨ (d = 1 ∧ Hid (ptv L p v = M) ∧ Hid (ch = true)) ∨ (d = 2 ∧ Hid (swv L p o v = M) ∧ Hid (swB L p o = ch)) ∨ (((d == 0) = false ∧ (d == 1) = false ∧ (d == 2) = false ∧ 2 < d) ∧ Hid (adv L p v = M) ∧ Hid (ch = true)) := by
    rcases hkind with ⟨a, b, c⟩ | ⟨a, b, c⟩ | ⟨a, b, c⟩ | ⟨a, b, c⟩
    · exact .inl ⟨a, Lib.hid b.symm, Lib.hid c⟩
    · exact .inr (.inl ⟨a, Lib.hid b.symm, Lib.hid c⟩)
    · exact .inr (.inr (.inl ⟨a, Lib.hid b.symm, Lib.hid c.symm⟩))
    · refine .inr (.inr (.inr ⟨⟨?_, ?_, ?_, a⟩, Lib.hid b.symm, Lib.hid c⟩)) <;> (rw [beq_eq_false_iff_ne]; omega)
  have hd0 : 0 ≤ d := wx.1
  clear hkind wx
  rcases key with ⟨rfl, HM, HC⟩ | ⟨rfl, HM, HC⟩ | ⟨rfl, HM, HC⟩ | ⟨⟨t0, t1, t2, t3⟩, HM, HC⟩
  all_goals
    go_enter Try.func4, Try.ntmps4
    go_wp2_with (first
      | (go_at_call 9; (with_reducible refine (awake_any _).mono ?_); rintro r w1 ⟨rfl, hb⟩; rw [← HW0.out] at hb; have HB := Lib.hid hb; obtain ⟨q0, q1, q2, q3⟩ := HBG.out.box hb; clear hb)
      | (go_at_call 10; (with_reducible refine (new_any A n cap L _ HN.out (HBG.out.reads' HB.out) hn2).mono ?_); rintro r w2 ⟨S, D, rfl, hS, hD, hs, hb⟩; have HK : Hid (Own W0.heap.size S D W0 w2 L 0) := Lib.hid (Own.of_new HB.out (Nat.le_refl _) hS hD hs hb); clear hs hb hS hD HB q0 q1 q2 q3; obtain ⟨q0, q1, q2, q3⟩ := HBG.out.box HK.out.bel)
      | (go_at_call 11; (with_reducible refine (load_any (L := L) (c := 0) p _ HK.out.st (by decide) (by decide)).mono ?_); rintro r w3 ⟨rfl, hk⟩; rw [HM.out] at hk; have HQ := Lib.hid (HK.out.left hk); clear hk q0 q1 q2 q3; obtain ⟨q0, q1, q2, q3⟩ := HBG.out.box HQ.out.bel)
      | (go_at_call 13; (with_reducible refine (put_any (L := L) (c := 0) p v _ HK.out.st (by decide) (by decide)).mono ?_); rintro r w3 ⟨rfl, hk⟩; rw [HM.out] at hk; have HQ := Lib.hid (HK.out.left hk); clear hk q0 q1 q2 q3; obtain ⟨q0, q1, q2, q3⟩ := HBG.out.box HQ.out.bel)
      | (go_at_call 16; (with_reducible refine (swap_any (L := L) (c := 0) p o v _ HK.out.st (by decide) (by decide)).mono ?_); rintro r w3 ⟨rfl, hk⟩; rw [HC.out]; rw [HM.out] at hk; have HQ := Lib.hid (HK.out.left hk); clear hk q0 q1 q2 q3; obtain ⟨q0, q1, q2, q3⟩ := HBG.out.box HQ.out.bel)
      | (go_at_call 18; (with_reducible refine (add_any (L := L) (c := 0) p v _ HK.out.st (by decide) (by decide)).mono ?_); rintro r w3 ⟨rfl, hk⟩; rw [HM.out] at hk; have HQ := Lib.hid (HK.out.left hk); clear hk q0 q1 q2 q3; obtain ⟨q0, q1, q2, q3⟩ := HBG.out.box HQ.out.bel)
      | (go_at_call 20; (with_reducible refine (all_some (S := S) (L := M) n _ HQ.out.st HML.out hn2).mono ?_); rintro r w4 ⟨X, rfl, hX, hrow, hb⟩; have HO := Lib.hid (HQ.out.step hb); have HW : Hid (Loop1 w w4 S D X n ⟨_, p, o, v⟩ A L M) := Lib.hid ⟨below_then HBG.out.bel HO.out.bel, HO.out.st, hrow, HBG.out.box HO.out.bel, HBG.out.reads' HO.out.bel⟩; clear hX hrow hb q0 q1 q2 q3)
      | fail)
  all_goals
    go_loopw [9] (fun i wr => ∃ k : Nat, k ≤ n ∧ i = .int .i64 (k : Int) ∧ Loop1 w wr S D X n ⟨_, p, o, v⟩ A L M) (fun i _ => n - (intOf i).toNat)
    case atStart => exact ⟨0, Nat.zero_le _, rfl, HW.out⟩
    case round =>
      obtain ⟨k, hk, rfl, hl⟩ := hrel
      by_cases hlt : k < n
      · obtain ⟨b, off, rfl, hbl, hc⟩ := hl.reads (by have := HN.out; omega)
        have c1 := hc k (by have := HN.out; omega)
        have c2 := hl.row.cell k (by have := HML.out; omega)
        obtain ⟨q0, q1, q2, q3⟩ := hl.box
        have HGK := Lib.hid (HG.out k)
        obtain ⟨y, hy⟩ : ∃ y, y = L.getD k 0 := ⟨_, rfl⟩
        obtain ⟨z, hz⟩ : ∃ z, z = M.getD k 0 := ⟨_, rfl⟩
        rw [← hy] at c1
        rw [← hz] at c2
        have HL := Lib.hid hl
        have hk0 : (0 : Int) ≤ (k : Int) := by omega
        have hk1 : (k : Int) < (n : Int) := by omega
        have hge : decide (n ≤ k) = false := by simp; omega
        by_cases e : z = y
        · have ht : (z != y) = false := by simp [e]
          have hud : ∀ b, (undef = Value.bool b) = False := fun b => eq_false (fun h => by cases h)
          have hud2 : ∀ b, (some undef = some (Value.bool b)) = False := fun b => eq_false (fun h => by cases h)
          clear hy hz hc hl hbl e hlt
          go_wp2_with (fail)
          go_quiet (fail)
          go_wp2_with (fail)
          go_roundw
          case rel => exact ⟨k + 1, by omega, by go_num, HL.out.step (below_drewN (Below.refl _ _) _)⟩
          case measure => simp [intOf]; omega
        · have ht : (z != y) = true := by simp [e]
          obtain ⟨hch, hkp⟩ := HGK.out (by rw [← hy, ← hz]; exact e)
          have ht2 : decide (n ≤ k) = false := hge
          clear hy hz hc hl hbl e hlt
          subst hch; subst hkp
          first
            | (exfalso; have := HC.out; cases this; done)
            | (go_wp2_with (fail)
               go_quiet (fail)
               go_wp2_with (fail)
               go_roundw
               case rel => exact ⟨k + 1, by omega, by go_num, HL.out.step (below_drewN (Below.refl _ _) _)⟩
               case measure => simp [intOf]; omega)
      · obtain rfl : k = n := by omega
        have HL := Lib.hid hl
        clear hl hlt
        go_wp2_with (first
          | (go_at_call 21; (with_reducible refine (cnt_any _ HL.out.st).mono ?_); rintro r w5 ⟨rfl, rfl⟩)
          | fail)
        go_ret
        exact ⟨rfl, HL.out.bel⟩
end Go.Proofs.Ytenjjlopofkkgaa
