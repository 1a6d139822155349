/- A store of the call's own under a map, and packets' machines over it: a step, and all steps. The law of what the pool holds: walked. The document's example of packets, walked. -/
import Derived.Test.YtbpfkhpnfkbacaaGreatJ20
import Derived.Test.YtbpfkhpnfkbacaaGreatJ17
import Derived.Test.YtbpfkhpnfkbacaaGreatJ22
namespace Go.Proofs.YtbpfkhpnfkbacaaGreat
open Go.RowKit
set_option linter.unusedVariables false
set_option linter.unusedSimpArgs false
open Lay (plcc plc shOf packN nodesN OkC Cfg Norm firstV Rep lenL things)

section
variable {B S D N : Nat} {c : Cfg} {w0 w w' : World} {L : List Int} {k t : Int} {X lo : Nat} {m : Pm}
/-- A machine in memory whose blocks are not below lo, apart from the store. -/
def PKX (lo : Nat) (w : World) (X S D : Nat) (c : Cfg) (N : Nat) (m : Pm) : Prop := ∃ O Dp, PKM w X O Dp c N m ∧ (∀ b, O b → lo ≤ b) ∧ ¬ Dp S ∧ ¬ Dp D
theorem PKX.of_new {E : Nat → Prop} {e : Ending} (h : PO B S D N c w0 w L k) (hn : NewP w c N E m e w') (e1 : ¬ E S) (e2 : ¬ E D) : ∃ X, e = .returned (ptr X) ∧ PKX w.heap.size w' X S D c N m ∧ PO B S D N c w0 w' L k ∧ Below w.heap.size w w' := by
  obtain ⟨X, O, Dp, rfl, hp, ho, hd, hb⟩ := hn
  have hl := h.lt
  exact ⟨X, rfl, ⟨O, Dp, hp, ho, fun d => by rcases hd S d with x | x; omega; exact e1 x, fun d => by rcases hd D d with x | x; omega; exact e2 x⟩, h.step hb, hb⟩
/-- A step of it. -/
theorem step_po (h : PO B S D N c w0 w L k) (hx : PKX lo w X S D c N m) (hlo : S < lo ∧ D < lo ∧ N < lo ∧ B ≤ lo ∧ lo ≤ w.heap.size) (wm : PW c t m) (hk : k ≤ 800000000) (ht : t ≤ 800000000) :
    Calls Tryz.prog 20 #[ptr X, ptr S] w fun e w' => e = .returned (.bool (decide ((pstp (gOf c) L m).2.pc = 0))) ∧ PO B S D N c w0 w' (pstp (gOf c) L m).1 (k + 1) ∧ PKX lo w' X S D c N (pstp (gOf c) L m).2 ∧
      UF (fun b => b = S ∨ b = D ∨ lo ≤ b) w w' := by
  obtain ⟨cc, h0, h1, hs⟩ := h.st
  obtain ⟨O, Dp, hp, ho, hS, hD⟩ := hx
  have hl := h.lt
  have hB := h.lo
  refine (step_pk h.ok hp hs h.mp hS hD (fun hh => by have := ho N hh; omega) h.ns.1 h.ns.2 wm h.ww h0 (by omega) (by omega)).mono ?_
  rintro e w' ⟨rfl, ⟨O', D', hp', ho', hd'⟩, hs', u⟩
  have u2 : UF (fun b => b = S ∨ b = D ∨ lo ≤ b) w w' := u.mono fun b _ hb => by
    rcases hb with hb | hb | hb
    · exact .inl hb
    · exact .inr (.inl hb)
    · exact .inr (.inr (ho b hb))
  refine ⟨rfl, ⟨⟨pcost m cc, ?_, ?_, hs'⟩, IsMap_same h.mp u2.size (u2.block N hl.2.2 (by have := h.ns; omega)), h.ok, h.ns, h.lo, (wm.step h.ww).2, below_uf h.bel h.lo.2.2 u2 (fun b hb => by omega)⟩, ⟨O', D', hp', fun b hb => ?_, fun hh => ?_, fun hh => ?_⟩, u2⟩
  · unfold pcost; split <;> omega
  · unfold pcost; split <;> omega
  · rcases ho' b hb with x | x
    · exact ho b x
    · omega
  · rcases hd' S hh with x | x
    · exact hS x
    · omega
  · rcases hd' D hh with x | x
    · exact hD x
    · omega
theorem packet_po (hx : PKX lo w X S D c N m) (wm : PW c t m) : Calls Tryz.prog 22 #[ptr X] w fun e w' => e = .returned (.int .i64 (pPacket m)) ∧ w = w' := by
  obtain ⟨O, Dp, hp, _⟩ := hx
  exact packet_pk hp wm

theorem pruns_succ (g : Pg) (i : Nat) (L : List Int) (m : Pm) : pstp g (pruns g i L m).1 (pruns g i L m).2 = pruns g (i + 1) L m := by
  rw [pruns_add g i 1]; rfl
theorem pw_runs {c : Cfg} : ∀ (i : Nat) {L : List Int} {m : Pm} {t : Int}, WW L → PW c t m → WW (pruns (gOf c) i L m).1 ∧ PW c (t + i) (pruns (gOf c) i L m).2
  | 0, L, m, t, h, h2 => ⟨h, (show PW c (t + ((0 : Nat) : Int)) m from h2.mono (by omega))⟩
  | i + 1, L, m, t, h, h2 => by
    have ih := pw_runs i h h2
    rw [← pruns_succ]
    have s := ih.2.step ih.1
    exact ⟨s.2, s.1.mono (by omega)⟩
/-- Behind i steps. -/
structure PRn (B S D N : Nat) (c : Cfg) (w0 w1 w : World) (lo X : Nat) (L : List Int) (m : Pm) (i : Nat) (k : Int) : Prop where
  po : PO B S D N c w0 w (pruns (gOf c) i L m).1 (k + i)
  mm : PKX lo w X S D c N (pruns (gOf c) i L m).2
  u : UF (fun b => b = S ∨ b = D ∨ lo ≤ b) w1 w
theorem PRn.start (h : PO B S D N c w0 w L k) (hx : PKX lo w X S D c N m) : PRn B S D N c w0 w w lo X L m 0 k := by
  refine ⟨?_, ?_, .refl _ _⟩
  · show PO B S D N c w0 w L (k + ((0 : Nat) : Int)); exact h.more (by omega)
  · exact hx
theorem run_step {w1 : World} {i : Nat} (h : PRn B S D N c w0 w1 w lo X L m i k) (hlo : S < lo ∧ D < lo ∧ N < lo ∧ B ≤ lo ∧ lo ≤ w1.heap.size) (wm : PW c t m) (ww : WW L) (hk : k + i ≤ 800000000) (ht : t + i ≤ 800000000) :
    Calls Tryz.prog 20 #[ptr X, ptr S] w fun e w' => e = .returned (.bool (decide ((pruns (gOf c) (i + 1) L m).2.pc = 0))) ∧ PRn B S D N c w0 w1 w' lo X L m (i + 1) k := by
  have hsz := h.u.size
  refine (step_po h.po h.mm ⟨hlo.1, hlo.2.1, hlo.2.2.1, hlo.2.2.2.1, by omega⟩ (pw_runs i ww wm).2 hk ht).mono ?_
  rintro e w' ⟨rfl, h1, h2, h3⟩
  rw [pruns_succ] at h1 h2 ⊢
  exact ⟨rfl, h1.more (by omega), h2, h.u.trans h3 (fun _ x => x) (fun _ _ x => x)⟩
end
attribute [local irreducible] pruns

set_option maxHeartbeats 2000000 in
theorem whole_pk {B S D N : Nat} {c : Cfg} {w0 w : World} {L : List Int} {k t : Int} {X lo : Nat} {m : Pm} (h : PO B S D N c w0 w L k) (hx : PKX lo w X S D c N m) (hlo : S < lo ∧ D < lo ∧ N < lo ∧ B ≤ lo ∧ lo ≤ w.heap.size) (wm : PW c t m) (hk : k ≤ 700000000) (ht : t ≤ 700000000) :
    Calls Tryz.prog 11 #[ptr X, ptr S] w fun e w' => e = .returned (.int .i64 (pPacket (pruns (gOf c) 14 L m).2)) ∧ PRn B S D N c w0 w w' lo X L m 14 k := by
  have HO := Lib.hid (PRn.start h hx)
  have HW := Lib.hid h.ww
  have HL := Lib.hid hlo
  have WM := Lib.hid wm
  have WM14 := Lib.hid (pw_runs 14 h.ww wm).2
  clear h hx hlo wm
  go_enter Tryz.func11, Tryz.ntmps11
  go_wp2
  refine wp_loop_rounds 15 ?_
  iterate 15
    all_goals try rw [rounds_succ]
    all_goals go_wp2_with (first
      | (go_at_call 20; (with_reducible refine (run_step HO.out HL.out WM.out HW.out (by omega) (by omega)).mono ?_); rintro r w1 ⟨rfl, ho⟩; have HO := Lib.hid ho; clear ho)
      | (go_at_call 22; (with_reducible refine (packet_po HO.out.mm WM14.out).mono ?_); rintro r w2 ⟨rfl, hw⟩; cases hw)
      | fail)
  go_ret
  exact ⟨rfl, HO.out⟩
end Go.Proofs.YtbpfkhpnfkbacaaGreat

namespace Go.Proofs.YtbpfkhpnfkbacaaGreat
open Go.RowKit
set_option linter.unusedVariables false
set_option linter.unusedSimpArgs false
open Lay (plcc plc shOf packN nodesN OkC Cfg Norm firstV Rep lenL things)

/-! How machines begin. -/
theorem pw_idle (c : Cfg) (kd : Nat) (hk : kd = 1 ∨ kd = 2 ∨ kd = 3) : PW c 0 ⟨kd, 0, [], 0, 0, mnone⟩ :=
  ⟨hk, by simp, fun _ => .inl rfl, fun e => by simp at e, fun e => by simp at e, ⟨by simp, by simp⟩, by simp, by simp, ⟨by simp, by simp, fun e => by simp at e⟩, fun e => by simp at e, by omega⟩
theorem pw_put (c : Cfg) (ts : List Int) (h : ∀ z ∈ ts, 0 ≤ z ∧ z ≤ 18446744073709551615) : PW c 0 (pPut (gOf c) ts) := by
  unfold pPut
  split
  · exact pw_idle c 1 (.inl rfl)
  · rename_i hne
    have hl : (ts.take 4).length ≤ 4 := by simp; omega
    have hne' : ts.take 4 ≠ [] := by
      intro e
      cases ts with
      | nil => exact hne rfl
      | cons a l => simp at e
    have hp := List.length_pos_iff.2 hne'
    exact ⟨.inl rfl, by simp, fun e => absurd rfl e, fun _ => ⟨wm_pop _, rfl, rfl, by simp [mPop]⟩, fun e => by simp at e, ⟨by simp, by simp⟩, fun z hz => h z (List.mem_of_mem_take hz), hl, ⟨by simp, by simp, fun _ => by simp only; omega⟩, fun _ => ⟨hne', fun _ => rfl⟩, by omega⟩
theorem pw_take (c : Cfg) : PW c 0 (pTake (gOf c)) :=
  ⟨.inr (.inl rfl), by simp [pTake], fun _ => .inr rfl, fun e => by simp [pTake] at e, fun _ => ⟨wm_pop _, rfl, by simp [pTake, mPop]⟩, ⟨by simp [pTake], by simp [pTake]⟩, by simp [pTake], by simp [pTake], ⟨by simp [pTake], by simp [pTake], fun e => by simp [pTake] at e⟩, fun e => by simp [pTake] at e, by omega⟩
theorem pw_back (c : Cfg) (n : Nat) (p : Int) : PW c 0 (pBack n (gOf c) p) := by
  unfold pBack
  split
  · exact pw_idle c 3 (.inr (.inr rfl))
  · exact ⟨.inr (.inr rfl), by simp, fun _ => .inr rfl, fun e => by simp at e, fun _ => ⟨wm_push _ _, rfl, by simp [mPush]⟩, ⟨by simp, by simp⟩, by simp, by simp, ⟨by simp, by simp, fun e => by simp at e⟩, fun e => by simp at e, by omega⟩

section
variable {B S D N : Nat} {c : Cfg} {w0 w w' : World} {L : List Int} {k t : Int}
theorem PO.start {a : Ending} {L : List Int} (hb : Below B w0 w) (hB : B ≤ w0.heap.size) (hm : Lay.IsMap w N c) (hok : OkC c) (ww : WW L) (h : SomeNew w L a w') : ∃ S D, a = .returned (ptr S) ∧ PO B S D N c w0 w' L 0 ∧ Below w.heap.size w w' := by
  obtain ⟨S, D, rfl, hS, hD, hs, hb'⟩ := h
  have hN := hm.1
  have hBw := Nat.le_trans hB hb.size
  exact ⟨S, D, rfl, ⟨⟨0, by omega, by omega, hs⟩, hm.below hb', hok, ⟨by omega, by omega⟩, ⟨by omega, by omega, hB⟩, ww, below_step hb hBw hb'⟩, hb'⟩
theorem put_po (h : PO B S D N c w0 w L k) (at' v : Int) (hv : 0 ≤ v ∧ v ≤ 18446744073709551615) (hk : k ≤ 900000000) :
    Calls Tryz.prog 25 #[ptr S, .int .i64 at', .int .u64 v] w fun a w' => a = .returned (.tuple #[]) ∧ PO B S D N c w0 w' (ptq L at' v) (k + 1) ∧ UF (fun b => b = S ∨ b = D) w w' := by
  obtain ⟨cc, h0, h1, hs⟩ := h.st
  have hl := h.lt
  have hB := h.lo
  refine (put_any at' v w hs h0 (by omega)).mono ?_
  rintro a w1 ⟨rfl, l⟩
  rw [ptv_eq] at l
  have u := UF.of_upd l.2
  exact ⟨rfl, ⟨⟨cc + 1, by omega, by omega, l.1⟩, IsMap_same h.mp u.size (u.block N hl.2.2 (by have := h.ns; omega)), h.ok, h.ns, h.lo, h.ww.put _ hv, below_uf h.bel h.lo.2.2 u (fun b hb => by omega)⟩, u⟩
theorem load_po (h : PO B S D N c w0 w L k) (at' : Int) (hk : k ≤ 900000000) :
    Calls Tryz.prog 61 #[ptr S, .int .i64 at'] w fun a w' => a = .returned (.int .u64 (ldq L at')) ∧ PO B S D N c w0 w' L (k + 1) ∧ UF (fun b => b = S ∨ b = D) w w' := by
  obtain ⟨cc, h0, h1, hs⟩ := h.st
  have hl := h.lt
  have hB := h.lo
  refine (load_any at' w hs h0 (by omega)).mono ?_
  rintro a w1 ⟨rfl, l⟩
  have u := UF.of_upd l.2
  exact ⟨by rw [ldv_eq], ⟨⟨cc + 1, by omega, by omega, l.1⟩, IsMap_same h.mp u.size (u.block N hl.2.2 (by have := h.ns; omega)), h.ok, h.ns, h.lo, h.ww, below_uf h.bel h.lo.2.2 u (fun b hb => by omega)⟩, u⟩
theorem all_po (h : PO B S D N c w0 w L k) (hl : L.length ≤ 1000000) :
    Calls Tryz.prog 13 #[ptr S] w fun a w' => a = .returned (.slice (some ⟨w.heap.size, 0, none⟩) L.length L.length) ∧ Reads .u64 w' (some ⟨w.heap.size, 0, none⟩) L ∧ PO B S D N c w0 w' L k ∧ Below w.heap.size w w' := by
  obtain ⟨cc, h0, h1, hs⟩ := h.st
  refine (all_any w hs hl).mono ?_
  rintro a w1 ⟨rfl, hr, hb⟩
  exact ⟨rfl, hr.reads, h.step hb, hb⟩
/-- A machine that puts, taken through all its steps. -/
theorem UF.far {F : Nat → Prop} (u : UF F w w') {b : Nat} (hb : b < w.heap.size) (hF : ¬ F b) (o : Nat) : w'.cell? ⟨b, o, none⟩ = w.cell? ⟨b, o, none⟩ :=
  World.cell?_of_block (w := w) (a := ⟨b, o, none⟩) (u.block b hb hF)
end
end Go.Proofs.YtbpfkhpnfkbacaaGreat

namespace Go.Proofs.YtbpfkhpnfkbacaaGreat
open Go.RowKit
set_option linter.unusedVariables false
set_option linter.unusedSimpArgs false
open Lay (plcc plc shOf packN nodesN OkC Cfg Norm firstV Rep lenL things)
attribute [local irreducible] pruns

def c0 : Cfg := ⟨1, 0, 0, 0, 0, 1, 1, 2, 1, 1, 1, 1⟩
theorem ok0 : OkC c0 := by constructor <;> decide
theorem new0 (w : World) : Calls Tryz.prog 6 #[.agg #[.int .i64 1, .int .i64 0, .int .i64 0, .int .i64 0, .int .i64 0, .int .i64 1, .int .i64 1, .int .i64 2, .int .i64 1, .int .i64 1, .int .i64 1, .int .i64 1]] w fun r w' => ∃ N, r = .returned (.tuple #[Lay.mapP N, .int .i64 0]) ∧ Lay.IsMap w' N c0 ∧ Below w.heap.size w w' := Lay.new_yes ok0 w
theorem reads_two (x y : Int) (T : TypeId) (w : World) : Reads .u64 (w.alloc (.cells #[.int .u64 x, .int .u64 y] T)) (some ⟨w.heap.size, 0, none⟩) [x, y] := fun _ => by
  refine ⟨_, _, rfl, by simp, fun j hj => ?_⟩
  rw [World.cell?_alloc_at _ _ _ _ rfl]
  match j, hj with
  | 0, _ => rfl
  | 1, _ => rfl
theorem at_no {b k : Nat} (h : k < b) : ¬ AtB (some ⟨b, 0, none⟩) k := fun ⟨off, e⟩ => by
  injection e with e; injection e with e1; omega
theorem pstp_len (g : Pg) (L : List Int) (m : Pm) : (pstp g L m).1.length = L.length := by
  have hs : ∀ m : Sm, (sstp L m).1.length = L.length := fun m => by
    unfold sstp swapS
    repeat' (first | rfl | exact pt_len _ _ _ | refine ite_ind (P := fun z : List Int × Sm => z.1.length = L.length) ?_ ?_)
  unfold pstp
  repeat' (first | rfl | exact hs _ | exact pt_len _ _ _ | refine ite_ind (P := fun z : List Int × Pm => z.1.length = L.length) ?_ ?_)
theorem pruns_len (g : Pg) : ∀ (i : Nat) (L : List Int) (m : Pm), (pruns g i L m).1.length = L.length
  | 0, L, m => by unfold pruns; rfl
  | i + 1, L, m => by rw [← pruns_succ, pstp_len, pruns_len g i]
theorem PKX.keep2 {lo : Nat} {wa wb wc : World} {X S D N : Nat} {c : Cfg} {m : Pm} (h : PKX lo wa X S D c N m) (hb : Below wa.heap.size wa wb) (u : UF (fun b => b = S ∨ b = D ∨ wa.heap.size ≤ b) wb wc) : PKX lo wc X S D c N m := by
  obtain ⟨O, Dp, hp, ho, hS, hD⟩ := h
  have hlt := hp.ins.2.2
  refine ⟨O, Dp, hp.keep (Nat.le_trans hb.size u.size) (fun k hk => ?_), ho, hS, hD⟩
  have := hlt k hk
  exact (u.block k (Nat.lt_of_lt_of_le this hb.size) (fun e => by rcases e with rfl | rfl | e; exact hS hk; exact hD hk; omega)).trans (hb.block k this)
/-- What is known of the example. -/
structure Exm (L : List Int) : Prop where
  a8 : ∀ i, i ≤ 8 → (pruns (gOf c0) i L (pPut (gOf c0) [7, 8])).2.pc ≠ 0
  a9 : (pruns (gOf c0) 9 L (pPut (gOf c0) [7, 8])).2.pc = 0
  ap : pPacket (pruns (gOf c0) 9 L (pPut (gOf c0) [7, 8])).2 = 1
  h : heldL c0 (pruns (gOf c0) 9 L (pPut (gOf c0) [7, 8])).1 = [7, 8]
  b2 : ∀ i, i ≤ 2 → (pruns (gOf c0) i (pruns (gOf c0) 9 L (pPut (gOf c0) [7, 8])).1 (pTake (gOf c0))).2.pc ≠ 0
  b3 : (pruns (gOf c0) 3 (pruns (gOf c0) 9 L (pPut (gOf c0) [7, 8])).1 (pTake (gOf c0))).2.pc = 0
  bp : pPacket (pruns (gOf c0) 3 (pruns (gOf c0) 9 L (pPut (gOf c0) [7, 8])).1 (pTake (gOf c0))).2 = 1
theorem exm {L : List Int} (h : Rep (shOf c0) L (firstV c0)) : Exm L := by
  obtain ⟨Hs, Hp⟩ := stk_first ok0 h
  have hn := pkn_is ok0
  have hp0 := (Lay.bds ok0).p0
  have G : Gp (pkn c0) L.length (gOf c0) := by rw [h.1]; exact gp_of ok0
  obtain ⟨m, hm⟩ : ∃ m, pkn c0 = m + 1 := ⟨pkn c0 - 1, by omega⟩
  have hE : ∃ R, En (pkn c0) = 1 :: R := by rw [hm]; exact ⟨_, by unfold En; rw [List.range_succ_eq_map, List.map_cons]; rfl⟩
  obtain ⟨R, hR⟩ := hE
  have PA0 : PA (pkn c0) (gOf c0) L 0 [] [] := ⟨0, En (pkn c0), 0, [], G, Hs, Hp, by omega, by omega, by simp, trivial⟩
  have Hs' := Hs
  rw [hR] at Hs'
  obtain ⟨x8, x9, xp, Hp1⟩ := put_two (a := 7) (b := 8) G Hs' Hp (by omega) (by omega) (by simp)
  obtain ⟨_, _, PA1⟩ := PA0.put (ts := [7, 8]) (by omega) (by simp) (by simp) (by simp; omega)
  have e14 := done_still (g := gOf c0) (L := L) (i := 9) (j := 14) (by omega) x9
  rw [e14] at PA1
  have hh := heldL_pa ok0 PA1
  obtain ⟨y2, y3, yp⟩ := take_one (g := gOf c0) Hp1 (by omega)
  refine ⟨fun i hi => not_yet hi (by rw [x8]; decide), x9, ?_, by simpa using hh, fun i hi => not_yet hi (by rw [y2]; decide), y3, ?_⟩
  · unfold pPacket; rw [x9, xp]; rfl
  · unfold pPacket; rw [y3, yp]; rfl

set_option maxHeartbeats 8000000 in
set_option maxRecDepth 100000 in
theorem awake_true (w : World) : Calls Tryz.prog 4 #[] w fun e w' => e = .returned (.bool true) ∧ Below w.heap.size w w' := by
  have HW2 : Hid (∀ z ∈ [(7 : Int), 8], 0 ≤ z ∧ z ≤ 18446744073709551615) := Lib.hid (by intro z hz; simp at hz; omega)
  have HOK := Lib.hid ok0
  go_enter Tryz.func4, Tryz.ntmps4
  go_wp2_with (first
    | (go_at_call 6; (with_reducible refine (new0 _).mono ?_); rintro e w3 ⟨N, rfl, hm, hb⟩; have HM := Lib.hid hm; have HB := Lib.hid hb; clear hb hm)
    | (go_at_call 10; (with_reducible refine (first_any HOK.out N _ HM.out).mono ?_); rintro e w4 ⟨G, n, L, rfl, hn, hr, hrep, hb⟩; have HB := Lib.hid (below_step HB.out HB.out.size hb); have HM := Lib.hid (HM.out.below hb); have HN := Lib.hid hn; have HR := Lib.hid hr; have HRE := Lib.hid hrep; have HLE := Lib.hid (first_len HOK.out hrep); clear hb hn hr hrep)
    | (go_at_call 9; (with_reducible refine (new_any _ _ _ L _ HN.out HR.out (by have := HN.out; have := HLE.out; omega)).mono ?_); rintro e w5 hs; obtain ⟨S, D, rfl, hpo, hb⟩ := PO.start (B := w.heap.size) (w0 := w) HB.out (Nat.le_refl _) HM.out HOK.out (first_ww HOK.out HRE.out) hs; have HPO := Lib.hid hpo; have HPA := Lib.hid (hpo.step (below_alloc0 (Below.refl _ _) (.cells #[.int .u64 7, .int .u64 8] 45))); have HLT := Lib.hid hpo.lt; clear hs hpo hb)
    | (go_at_call 12; (with_reducible refine (put_pk HOK.out N _ 2 2 [7, 8] _ HPA.out.mp rfl (reads_two 7 8 45 w5) HW2.out (by omega) (by decide)).mono ?_); rintro e w6 hn; obtain ⟨X, rfl, hx, hp6, hb6⟩ := PKX.of_new HPA.out hn (at_no HLT.out.1) (at_no HLT.out.2.1); have HP6 := Lib.hid hp6; have HX6 := Lib.hid hx; have HS6 := Lib.hid hb6.size; clear hn hx hp6 hb6)
    | fail)
  have HLO := Lib.hid (show S < (w5.alloc (.cells #[.int .u64 7, .int .u64 8] 45)).heap.size ∧ D < (w5.alloc (.cells #[.int .u64 7, .int .u64 8] 45)).heap.size ∧ N < (w5.alloc (.cells #[.int .u64 7, .int .u64 8] 45)).heap.size ∧ w.heap.size ≤ (w5.alloc (.cells #[.int .u64 7, .int .u64 8] 45)).heap.size ∧ (w5.alloc (.cells #[.int .u64 7, .int .u64 8] 45)).heap.size ≤ w6.heap.size from ⟨HPA.out.lt.1, HPA.out.lt.2.1, HPA.out.lt.2.2, HPA.out.bel.size, HS6.out⟩)
  have HX := Lib.hid (exm HRE.out)
  have HWW := Lib.hid HP6.out.ww
  have HPW := Lib.hid (pw_put c0 [7, 8] HW2.out)
  have HST := Lib.hid (PRn.start HP6.out HX6.out)
  obtain ⟨lo, hlo⟩ : ∃ lo, lo = (w5.alloc (.cells #[.int .u64 7, .int .u64 8] 45)).heap.size := ⟨_, rfl⟩
  rw [← hlo] at HLO HST
  clear HX6 hlo HPA HS6 HN HR HB HM
  go_loopw [5] (fun n wr => ∃ i : Nat, i ≤ 8 ∧ n = .int .i64 ((i : Int) + 1) ∧ PRn w.heap.size S D N c0 w w6 wr lo X L (pPut (gOf c0) [7, 8]) i 0) (fun n _ => 20 - (intOf n).toNat)
  case atStart => exact ⟨0, by omega, rfl, HST.out⟩
  case round =>
    clear HST
    obtain ⟨i, hi, rfl, hrn⟩ := hrel
    have HRN := Lib.hid hrn
    clear hrn
    by_cases h8 : i = 8
    · subst h8
      have d1 : decide ((pruns (gOf c0) (8 + 1) L (pPut (gOf c0) [7, 8])).2.pc = 0) = true := by simpa using HX.out.a9
      go_wp2_with (first
        | (go_at_call 20; (with_reducible refine (run_step HRN.out HLO.out HPW.out HWW.out (by omega) (by omega)).mono ?_); rintro r w7 ⟨rfl, ho⟩; rw [d1]; have HRN9 := Lib.hid ho; clear ho)
        | (go_at_call 13; (with_reducible refine (all_po HRN9.out.po (by rw [pruns_len]; have := HLE.out; omega)).mono ?_); rintro r w8 ⟨rfl, hr, hpo, hb⟩; have HP8 := Lib.hid hpo; have HR8 := Lib.hid hr; have HB8 := Lib.hid hb; clear hr hpo hb)
        | (go_at_call 27; (with_reducible refine (held_pk2 HOK.out N _ _ _ _ _ HP8.out.mp (Eq.refl _) HR8.out (pw_runs 9 HWW.out HPW.out).1 (by rw [pruns_len]; have := HLE.out; omega)).mono ?_); rintro r w9 ⟨A, k, cap, rfl, hk, hrow, hb⟩; rw [HX.out.h] at hk hrow; have hk2 : k = 2 := hk; subst hk2; obtain ⟨b2, o2, rfl, hb1, hb2, hcl⟩ := hrow (by decide); have HP9 := Lib.hid (HP8.out.step hb); have HB9 := Lib.hid (below_step HB8.out HB8.out.size hb); have HCL := Lib.hid (And.intro (And.intro hb1 hb2) hcl); clear hrow hb hcl hk hb1 hb2)
        | (go_at_call 15; (with_reducible refine (take_pk HOK.out N _ HP9.out.mp).mono ?_); rintro r w10 hn; obtain ⟨Y, rfl, hy, hp10, hb10⟩ := PKX.of_new HP9.out hn (fun h => h) (fun h => h); have HP10 := Lib.hid hp10; have HY10 := Lib.hid hy; have HB10 := Lib.hid hb10; clear hn hy hp10 hb10)
        | fail)
      have HLO2 := Lib.hid (show S < w9.heap.size ∧ D < w9.heap.size ∧ N < w9.heap.size ∧ w.heap.size ≤ w9.heap.size ∧ w9.heap.size ≤ w10.heap.size from ⟨HP9.out.lt.1, HP9.out.lt.2.1, HP9.out.lt.2.2, HP9.out.bel.size, HB10.out.size⟩)
      have HWW2 := Lib.hid HP10.out.ww
      have HPW2 := Lib.hid (pw_take c0)
      have HST2 := Lib.hid (PRn.start HP10.out HY10.out)
      have HRO := Lib.hid (show b2 < w9.heap.size ∧ b2 ≠ S ∧ b2 ≠ D ∧ (∀ j, j < 2 → w10.cell? ⟨b2, o2 + j, none⟩ = some (.int .u64 (([7, 8] : List Int).getD j 0))) from ⟨HCL.out.1.2, by have := HCL.out.1.1; have := HRN9.out.po.lt; have := HB8.out.size; omega, by have := HCL.out.1.1; have := HRN9.out.po.lt; have := HB8.out.size; omega, fun j hj => (HB10.out.cell (p := ⟨b2, o2 + j, none⟩) HCL.out.1.2).trans (HCL.out.2 j hj)⟩)
      have HB71 := Lib.hid (below_step HB9.out HB9.out.size HB10.out)
      have HS79 := Lib.hid HB9.out.size
      clear HP8 HR8 HB8 HP9 HB9 HCL HP10 HY10 HB10
      go_loopw [8] (fun n wr => ∃ i : Nat, i ≤ 2 ∧ n = .int .i64 ((i : Int) + 1) ∧ PRn w.heap.size S D N c0 w w10 wr w9.heap.size Y (pruns (gOf c0) (8 + 1) L (pPut (gOf c0) [7, 8])).1 (pTake (gOf c0)) i (0 + ((8 + 1 : Nat) : Int))) (fun n _ => 20 - (intOf n).toNat)
      case atStart => exact ⟨0, by omega, rfl, HST2.out⟩
      case round =>
        clear HST2
        obtain ⟨i, hi, rfl, hrn⟩ := hrel
        have HRT := Lib.hid hrn
        clear hrn
        by_cases h2 : i = 2
        · subst h2
          have d2 : decide ((pruns (gOf c0) (2 + 1) (pruns (gOf c0) (8 + 1) L (pPut (gOf c0) [7, 8])).1 (pTake (gOf c0))).2.pc = 0) = true := by simpa using HX.out.b3
          go_wp2_with (first
            | (go_at_call 20; (with_reducible refine (run_step HRT.out HLO2.out HPW2.out HWW2.out (by simp) (by omega)).mono ?_); rintro r w11 ⟨rfl, ho⟩; rw [d2]; have HRT3 := Lib.hid ho; have HXK := Lib.hid (HRN9.out.mm.keep2 HB71.out (ho.u.mono fun b _ h => by rcases h with h | h | h; exact .inl h; exact .inr (.inl h); exact .inr (.inr (Nat.le_trans HS79.out h)))); have c81 : w11.cell? ⟨b2, o2 + 1, none⟩ = some (.int .u64 8) := (World.cell?_of_block (w := w10) (a := ⟨b2, o2 + 1, none⟩) (ho.u.block b2 (Nat.lt_of_lt_of_le HRO.out.1 HLO2.out.2.2.2.2) (by have := HRO.out; omega))).trans (HRO.out.2.2.2 1 (by omega)); clear ho)
            | (go_at_call 22; (with_reducible refine (packet_po HXK.out (pw_runs 9 HWW.out HPW.out).2).mono ?_); rintro r w12 ⟨rfl, hw⟩; cases hw; rw [HX.out.ap])
            | (go_at_call 22; (with_reducible refine (packet_po HRT3.out.mm (pw_runs 3 HWW2.out HPW2.out).2).mono ?_); rintro r w12 ⟨rfl, hw⟩; cases hw; rw [HX.out.bp])
            | fail)
          go_ret
          exact ⟨rfl, HRT3.out.po.bel⟩
        · have d2 : decide ((pruns (gOf c0) (i + 1) (pruns (gOf c0) (8 + 1) L (pPut (gOf c0) [7, 8])).1 (pTake (gOf c0))).2.pc = 0) = false := by simpa using HX.out.b2 (i + 1) (by omega)
          go_wp2_with (first
            | (go_at_call 20; (with_reducible refine (run_step HRT.out HLO2.out HPW2.out HWW2.out (by omega) (by omega)).mono ?_); rintro r w11 ⟨rfl, ho⟩; rw [d2]; have HRT3 := Lib.hid ho; clear ho)
            | fail)
          go_roundw
          case rel => exact ⟨i + 1, by omega, by go_num, HRT3.out⟩
          case measure => simp [intOf]; omega
    · have d1 : decide ((pruns (gOf c0) (i + 1) L (pPut (gOf c0) [7, 8])).2.pc = 0) = false := by simpa using HX.out.a8 (i + 1) (by omega)
      go_wp2_with (first
        | (go_at_call 20; (with_reducible refine (run_step HRN.out HLO.out HPW.out HWW.out (by omega) (by omega)).mono ?_); rintro r w7 ⟨rfl, ho⟩; rw [d1]; have HRN9 := Lib.hid ho; clear ho)
        | fail)
      go_roundw
      case rel => exact ⟨i + 1, by omega, by go_num, HRN9.out⟩
      case measure => simp [intOf]; omega
end Go.Proofs.YtbpfkhpnfkbacaaGreat
