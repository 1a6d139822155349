/- The law of six steps, walked. -/
import Derived.Test.YtjnenpflpckimaaPoke
import Derived.Test.YtjnenpflpckimaaSixBeg
import Derived.Test.YtjnenpflpckimaaSame
namespace Go.Proofs.Ytjnenpflpckimaa
open Go.RowKit
set_option linter.unusedVariables false
set_option linter.unusedSimpArgs false
attribute [local irreducible] runs

section
variable {w0 w w' : World} {M S D : Nat} {m : Mc} {L : List Int} {c : Int}
theorem Mi.step (h : Mi w0 w M S D m L c) (hb : Below w.heap.size w w') : Mi w0 w' M S D m L c := by
  obtain ⟨t, b, v, h, k⟩ := h; exact ⟨t, b, v, h.step hb, k⟩
theorem Mi.left (h : Mi w0 w M S D m L c) {L' : List Int} {c' : Int} (k : Left S D L' c' w w') : Mi w0 w' M S D m L' c' := by
  obtain ⟨t, b, v, h, j⟩ := h; exact ⟨t, b, v, h.left k, j⟩
theorem Mi.drew (h : Mi w0 w M S D m L c) : Mi w0 w.drew M S D m L c := h.step (Below.refl _ _).drew
end
theorem put_nn {L : List Int} (h : NN L) (a : Int) {v : Int} (hv : 0 ≤ v) : NN (ptv L a v) := by rw [ptv_eq]; exact h.pt a hv
theorem ptq_len (L : List Int) (a v : Int) : (ptq L a v).length = L.length := by unfold ptq; split <;> simp
theorem stp_len (L : List Int) (m : Mc) : (stp L m).1.length = L.length := by
  have key : ∀ P : List Int × Mc → Prop, (∀ m', P (L, m')) → (∀ a v m', P (ptq L a v, m')) → P (stp L m) := by
   intro P h1 h2
   unfold stp pushS popS stealS fin
   repeat' refine ite_ind (P := P) ?_ ?_
   all_goals first | exact h1 _ | exact h2 _ _ _
  exact key (fun z => z.1.length = L.length) (fun _ => rfl) (fun a v _ => ptq_len L a v)
/-- What is known at each of the six rounds. -/
structure S6 (w w1 wr : World) (M S D : Nat) (m : Mc) (L : List Int) (c i : Int) : Prop where
  mi : Mi w1 wr M S D m L c
  ws : Ws L m
  ok : okm m
  lf : (left m : Int) + i ≤ 6
  c0 : 0 ≤ c
  c1 : c ≤ 2 * i + 1
  bel : Below w.heap.size w w1
  lo : w.heap.size ≤ M ∧ w.heap.size ≤ S ∧ w.heap.size ≤ D
section
variable {w w1 wr w' : World} {M S D : Nat} {m : Mc} {L : List Int} {c i : Int}
theorem S6.below (h : S6 w w1 wr M S D m L c i) : Below w.heap.size w wr := by
  have lo := h.lo
  exact below_u3 h.bel (Nat.le_refl _) h.mi.u lo.1 lo.2.1 lo.2.2
/-- A step; then, perhaps, another one's word. -/
structure S6b (w w1 wr : World) (M S D : Nat) (m : Mc) (L : List Int) (c i : Int) : Prop where
  mi : Mi w1 wr M S D m L c
  ws : Ws L m
  ok : okm m
  lf : (left m : Int) + i + 1 ≤ 6
  c0 : 0 ≤ c
  c1 : c ≤ 2 * i + 2
  bel : Below w.heap.size w w1
  lo : w.heap.size ≤ M ∧ w.heap.size ≤ S ∧ w.heap.size ≤ D
theorem left_pos (ok : okm m) (hp : m.pc ≠ 0) : 1 ≤ left m := by
  obtain ⟨h, _⟩ := ok
  unfold left
  rw [if_neg hp]
  rcases h with ⟨h1, h2⟩ | ⟨h1, h2⟩ | ⟨h1, h2⟩
  · rw [if_neg (by omega)]; omega
  · rw [if_pos h1]; split <;> omega
  · rw [if_neg (by omega)]; omega
theorem left_zero (hp : m.pc = 0) : left m = 0 := by simp [left, hp]
theorem s6_step (h : S6 w w1 wr M S D m L c i) (hi : i < 6) (hi0 : 0 ≤ i) :
    Calls Try.prog 14 #[ptr M, ptr S] wr fun a w' => ∃ b m' L' c', a = .returned (.bool b) ∧ L'.length = L.length ∧ S6b w w1 w' M S D m' L' c' i := by
  have c1 := h.c1
  refine (step_any wr h.mi h.ws.wf h.c0 (by omega)).mono ?_
  rintro a w2 ⟨rfl, mi⟩
  have hc := cst_le m c
  obtain ⟨ok, hl, h6⟩ := okm_step (L := L) h.ok
  have hlf := h.lf
  have c0 := h.c0
  refine ⟨_, _, _, _, rfl, stp_len L m, mi, h.ws.stp, ok, ?_, by omega, by omega, h.bel, h.lo⟩
  by_cases hp : m.pc = 0
  · rw [stp_no hp]
    rw [left_zero hp]; omega
  · have := hl hp; omega
theorem S6b.no (h : S6b w w1 wr M S D m L c i) : S6 w w1 wr M S D m L c (i + 1) := ⟨h.mi, h.ws, h.ok, by have := h.lf; omega, h.c0, by have := h.c1; omega, h.bel, h.lo⟩
theorem S6b.drew (h : S6b w w1 wr M S D m L c i) : S6b w w1 wr.drew M S D m L c i := ⟨h.mi.drew, h.ws, h.ok, h.lf, h.c0, h.c1, h.bel, h.lo⟩
theorem S6b.below (h : S6b w w1 wr M S D m L c i) : Below w.heap.size w wr := by
  have lo := h.lo
  exact below_u3 h.bel (Nat.le_refl _) h.mi.u lo.1 lo.2.1 lo.2.2
theorem S6b.put (h : S6b w w1 wr M S D m L c i) (hi : i < 6) (hi0 : 0 ≤ i) (p v : Int) (hv : 0 ≤ v) : Calls Try.prog 17 #[ptr S, .int .i64 p, .int .u64 v] wr fun a w' => a = .returned (.tuple #[]) ∧ ∃ L' c', L'.length = L.length ∧ S6 w w1 w' M S D m L' c' (i + 1) := by
  have c1 := h.c1
  refine (put_any p v wr h.mi.st h.c0 (by omega)).mono ?_
  rintro a w2 ⟨rfl, k⟩
  have := h.lf
  have := h.c0
  exact ⟨rfl, _, _, ptv_len L p v, h.mi.left k, ⟨put_nn h.ws.nn p hv, h.ws.ok, h.ws.b, h.ws.t, h.ws.w⟩, h.ok, by omega, by omega, by omega, h.bel, h.lo⟩
/-- The end. -/
theorem S6.end (h : S6 w w1 wr M S D m L c 6) : m.pc = 0 ∧ 1 ≤ m.out ∧ m.out ≤ 4 := by
  have hp : m.pc = 0 := by
    by_cases hp : m.pc = 0
    · exact hp
    · have := left_pos h.ok hp; have := h.lf; omega
  exact ⟨hp, h.ok.2 hp⟩
theorem S6.step (h : S6 w w1 wr M S D m L c i) (hb : Below wr.heap.size wr w') : S6 w w1 w' M S D m L c i := ⟨h.mi.step hb, h.ws, h.ok, h.lf, h.c0, h.c1, h.bel, h.lo⟩
end
theorem okm_new (e : En) (v : Int) : okm (mPush e v) ∧ okm (mPop e) ∧ okm (mSteal e) ∧ left (mPush e v) ≤ 6 ∧ left (mPop e) ≤ 6 ∧ left (mSteal e) ≤ 6 := by
  refine ⟨⟨.inl ⟨rfl, ?_⟩, fun h => ?_⟩, ⟨.inr (.inl ⟨rfl, ?_⟩), fun h => ?_⟩, ⟨.inr (.inr ⟨rfl, ?_⟩), fun h => ?_⟩, ?_, ?_, ?_⟩ <;> first | (simp [mPush, mPop, mSteal] at h; done) | (simp [mPush, mPop, mSteal, left]; done)

set_option maxHeartbeats 16000000 in
set_option maxRecDepth 100000 in
theorem walkSix (A : Option Addr) (n cap : Nat) (zs : List Int) (e : En) (z v : Int) (P : Option Addr) (np capP : Nat) (pk : List Pok) (w : World) (hz : IsRow .u64 w A n cap zs) (wz : (Lit.int .u8 z).wf = true) (wv : (Lit.int .u64 v).wf = true) (hp : IsPoks w P np capP pk) :
    Calls Try.prog 5 #[.slice A n cap, enV e, .int .u8 z, .int .u64 v, .slice P np capP] w fun e w' => e = .returned (.bool true) ∧ Below w.heap.size w w' := by
  obtain ⟨hr, hrl, _, _, _, hwf⟩ := reads_row hz
  clear hz
  obtain ⟨L0, hL0⟩ : ∃ Z, Z = zs.take n := ⟨_, rfl⟩
  rw [← hL0] at hr hrl hwf
  obtain ⟨hpr, hpl, _, _, hpw⟩ := hp
  have hv0 : 0 ≤ v := by simp [Lit.wf, IntKind.min, IntKind.max, IntKind.bits, IntKind.signed] at wv; omega
  have hz0 : 0 ≤ z := by simp [Lit.wf, IntKind.min, IntKind.max, IntKind.bits, IntKind.signed] at wz; omega
  have HNN : Hid (NN L0) := Lib.hid (fun x hx => by have := hwf x hx; simp [Lit.wf, IntKind.min, IntKind.max, IntKind.bits, IntKind.signed] at this; omega)
  have HR := Lib.hid hr; have HL := Lib.hid hrl.symm; have HPR := Lib.hid hpr; have HPL := Lib.hid hpl; have HPW := Lib.hid hpw
  have HBX := Lib.hid (box_new w #[.int .i64 e.top, .int .i64 e.bot, .int .i64 e.ent, .int .i64 e.room] 25)
  have HB0 := Lib.hid (below_al w (.cells #[.int .i64 e.top, .int .i64 e.bot, .int .i64 e.ent, .int .i64 e.room] 25))
  obtain ⟨Wx, hWx⟩ : ∃ W, W = w.alloc (.cells #[.int .i64 e.top, .int .i64 e.bot, .int .i64 e.ent, .int .i64 e.room] 25) := ⟨_, rfl⟩
  have HWX := Lib.hid hWx
  rw [← hWx] at HBX HB0
  clear hr hwf hL0 wz wv hrl hpr hpl hpw hWx
  by_cases g0 : 60 < n
  · have g0' : (60 : Int) < (n : Int) := by omega
    go_enter Try.func5, Try.ntmps5
    go_wp2_with (first
      | (go_at_call 8; (with_reducible refine (awake_any _).mono ?_); rintro r w1 ⟨rfl, hb⟩; rw [← HWX.out] at hb; have HB1 := Lib.hid (below_step HB0.out HB0.out.size hb); have hbx := box_kept HBX.out hb; have x0 : w1.cell? ⟨w.heap.size, 0, none⟩ = some (.int .i64 e.top) := (by simp [World.cell?, hbx]); have x1 : w1.cell? ⟨w.heap.size, 1, none⟩ = some (.int .i64 e.bot) := (by simp [World.cell?, hbx]); have x2 : w1.cell? ⟨w.heap.size, 2, none⟩ = some (.int .i64 e.ent) := (by simp [World.cell?, hbx]); have x3 : w1.cell? ⟨w.heap.size, 3, none⟩ = some (.int .i64 e.room) := (by simp [World.cell?, hbx]); clear hb hbx)
      | fail)
    go_ret
    exact ⟨rfl, HB1.out⟩
  have g0' : ¬ (60 : Int) < (n : Int) := by omega
  by_cases g1 : 12 < np
  · have g1' : (12 : Int) < (np : Int) := by omega
    go_enter Try.func5, Try.ntmps5
    go_wp2_with (first
      | (go_at_call 8; (with_reducible refine (awake_any _).mono ?_); rintro r w1 ⟨rfl, hb⟩; rw [← HWX.out] at hb; have HB1 := Lib.hid (below_step HB0.out HB0.out.size hb); have hbx := box_kept HBX.out hb; have x0 : w1.cell? ⟨w.heap.size, 0, none⟩ = some (.int .i64 e.top) := (by simp [World.cell?, hbx]); have x1 : w1.cell? ⟨w.heap.size, 1, none⟩ = some (.int .i64 e.bot) := (by simp [World.cell?, hbx]); have x2 : w1.cell? ⟨w.heap.size, 2, none⟩ = some (.int .i64 e.ent) := (by simp [World.cell?, hbx]); have x3 : w1.cell? ⟨w.heap.size, 3, none⟩ = some (.int .i64 e.room) := (by simp [World.cell?, hbx]); clear hb hbx)
      | fail)
    go_ret
    exact ⟨rfl, HB1.out⟩
  have g1' : ¬ (12 : Int) < (np : Int) := by omega
  by_cases g2 : 1000 < e.ent
  · have g2' : 1000 < e.ent := by omega
    go_enter Try.func5, Try.ntmps5
    go_wp2_with (first
      | (go_at_call 8; (with_reducible refine (awake_any _).mono ?_); rintro r w1 ⟨rfl, hb⟩; rw [← HWX.out] at hb; have HB1 := Lib.hid (below_step HB0.out HB0.out.size hb); have hbx := box_kept HBX.out hb; have x0 : w1.cell? ⟨w.heap.size, 0, none⟩ = some (.int .i64 e.top) := (by simp [World.cell?, hbx]); have x1 : w1.cell? ⟨w.heap.size, 1, none⟩ = some (.int .i64 e.bot) := (by simp [World.cell?, hbx]); have x2 : w1.cell? ⟨w.heap.size, 2, none⟩ = some (.int .i64 e.ent) := (by simp [World.cell?, hbx]); have x3 : w1.cell? ⟨w.heap.size, 3, none⟩ = some (.int .i64 e.room) := (by simp [World.cell?, hbx]); clear hb hbx)
      | fail)
    go_ret
    exact ⟨rfl, HB1.out⟩
  have g2' : ¬ 1000 < e.ent := by omega
  by_cases g3 : e.ent < -1000
  · have g3' : e.ent < -1000 := by omega
    go_enter Try.func5, Try.ntmps5
    go_wp2_with (first
      | (go_at_call 8; (with_reducible refine (awake_any _).mono ?_); rintro r w1 ⟨rfl, hb⟩; rw [← HWX.out] at hb; have HB1 := Lib.hid (below_step HB0.out HB0.out.size hb); have hbx := box_kept HBX.out hb; have x0 : w1.cell? ⟨w.heap.size, 0, none⟩ = some (.int .i64 e.top) := (by simp [World.cell?, hbx]); have x1 : w1.cell? ⟨w.heap.size, 1, none⟩ = some (.int .i64 e.bot) := (by simp [World.cell?, hbx]); have x2 : w1.cell? ⟨w.heap.size, 2, none⟩ = some (.int .i64 e.ent) := (by simp [World.cell?, hbx]); have x3 : w1.cell? ⟨w.heap.size, 3, none⟩ = some (.int .i64 e.room) := (by simp [World.cell?, hbx]); clear hb hbx)
      | fail)
    go_ret
    exact ⟨rfl, HB1.out⟩
  have g3' : ¬ e.ent < -1000 := by omega
  by_cases g4 : 1000 < e.room
  · have g4' : 1000 < e.room := by omega
    go_enter Try.func5, Try.ntmps5
    go_wp2_with (first
      | (go_at_call 8; (with_reducible refine (awake_any _).mono ?_); rintro r w1 ⟨rfl, hb⟩; rw [← HWX.out] at hb; have HB1 := Lib.hid (below_step HB0.out HB0.out.size hb); have hbx := box_kept HBX.out hb; have x0 : w1.cell? ⟨w.heap.size, 0, none⟩ = some (.int .i64 e.top) := (by simp [World.cell?, hbx]); have x1 : w1.cell? ⟨w.heap.size, 1, none⟩ = some (.int .i64 e.bot) := (by simp [World.cell?, hbx]); have x2 : w1.cell? ⟨w.heap.size, 2, none⟩ = some (.int .i64 e.ent) := (by simp [World.cell?, hbx]); have x3 : w1.cell? ⟨w.heap.size, 3, none⟩ = some (.int .i64 e.room) := (by simp [World.cell?, hbx]); clear hb hbx)
      | fail)
    go_ret
    exact ⟨rfl, HB1.out⟩
  have g4' : ¬ 1000 < e.room := by omega
  have EOK := Lib.hid (show EnOk e from ⟨by omega, by omega, by omega⟩)
  have hn2 : n ≤ 1000000 := by omega
  have hzk : (z.tmod 3 = 0 ∧ z % 3 = 0) ∨ (z.tmod 3 = 1 ∧ z % 3 = 1) ∨ (z.tmod 3 = 2 ∧ z % 3 = 2) := by rw [Int.tmod_eq_emod_of_nonneg hz0]; omega
  clear g0 g1
  have key : ∃ m : Mc, (∀ w, Calls Try.prog 16 #[.int .u8 z, enV e, .int .u64 v] w (NewK w m)) ∧ okm m ∧ left m ≤ 6 ∧ Ws L0 m := by
    obtain ⟨o1, o2, o3, o4, o5, o6⟩ := okm_new e v
    rcases hzk with ⟨h1, h2⟩ | ⟨h1, h2⟩ | ⟨h1, h2⟩
    · exact ⟨_, kpush_any z h1 h2 e v, o1, o4, ws_push HNN.out EOK.out hv0⟩
    · exact ⟨_, kpop_any z h1 h2 e v, o2, o5, ws_pop HNN.out EOK.out⟩
    · exact ⟨_, ksteal_any z h1 h2 e v, o3, o6, ws_steal HNN.out EOK.out⟩
  obtain ⟨m, hcl, hok, hlf, hws⟩ := key
  have HC := Lib.hid hcl; have HOK := Lib.hid hok; have HLF := Lib.hid hlf; have HWS := Lib.hid hws
  clear hcl hok hlf hws hzk
  go_enter Try.func5, Try.ntmps5
  go_wp2_with (first
    | (go_at_call 8; (with_reducible refine (awake_any _).mono ?_); rintro r w1 ⟨rfl, hb⟩; rw [← HWX.out] at hb; have HB1 := Lib.hid (below_step HB0.out HB0.out.size hb); have hbx := box_kept HBX.out hb; have x0 : w1.cell? ⟨w.heap.size, 0, none⟩ = some (.int .i64 e.top) := (by simp [World.cell?, hbx]); have x1 : w1.cell? ⟨w.heap.size, 1, none⟩ = some (.int .i64 e.bot) := (by simp [World.cell?, hbx]); have x2 : w1.cell? ⟨w.heap.size, 2, none⟩ = some (.int .i64 e.ent) := (by simp [World.cell?, hbx]); have x3 : w1.cell? ⟨w.heap.size, 3, none⟩ = some (.int .i64 e.room) := (by simp [World.cell?, hbx]); clear hb hbx)
    | (go_at_call 16; (with_reducible refine (HC.out _).mono ?_); intro a w2 hk; obtain ⟨M, kd, e', v', rfl, hM, hm, hb⟩ := hk; have HM := Lib.hid (Nat.le_trans HB1.out.size hM); have HMM := Lib.hid (hm.below (below_al w2 (.cells #[.int .i64 kd, .int .i64 1, .int .i64 e'.top, .int .i64 e'.bot, .int .i64 e'.ent, .int .i64 e'.room, .int .u64 0, .int .u64 0, .int .u64 v', .bool false, .int .i64 0] 45))); have HB2 := Lib.hid (below_step (below_step HB1.out HB1.out.size hb) (Nat.le_trans HB1.out.size hb.size) (below_al w2 (.cells #[.int .i64 kd, .int .i64 1, .int .i64 e'.top, .int .i64 e'.bot, .int .i64 e'.ent, .int .i64 e'.room, .int .u64 0, .int .u64 0, .int .u64 v', .bool false, .int .i64 0] 45))); clear hM hm hb x0 x1 x2 x3)
    | (go_at_call 9; (with_reducible refine (new_any A n cap L0 _ HL.out (HR.out.below HB2.out (Nat.le_refl _)) hn2).mono ?_); intro a w3 hk; obtain ⟨S, D, rfl, hS, hD, hs, hb⟩ := hk; have hml := HMM.out.lt; have HS6 := Lib.hid (show S6 w w3 w3 M S D m L0 0 0 from ⟨(HMM.out.below hb).mi hs (by omega) (by omega), HWS.out, HOK.out, (by have := HLF.out; omega), Int.le_refl 0, (by omega), below_step HB2.out HB2.out.size hb, HM.out, Nat.le_trans HB2.out.size hS, Nat.le_trans HB2.out.size hD⟩); clear hS hD hs hb hml)
    | fail)
  clear HC HOK HLF HWS HB2 HMM HB1 HNN
  go_loopw [15] (fun i wr => ∃ j : Nat, j ≤ 6 ∧ i = .int .i64 (j : Int) ∧ ∃ m L c, L.length = n ∧ S6 w w3 wr M S D m L c j) (fun i _ => 6 - (intOf i).toNat)
  case atStart => exact ⟨0, Nat.zero_le _, rfl, _, _, _, HL.out.symm, HS6.out⟩
  case round =>
    clear HS6
    obtain ⟨j, hj, rfl, m2, L2, c2, hln, hs⟩ := hrel
    by_cases hlt : j < 6
    · have hj0 : (0 : Int) ≤ (j : Int) := by omega
      have hj1 : (j : Int) < 6 := by omega
      have HS := Lib.hid hs
      have HLN := Lib.hid hln
      have EJ := Lib.hid (show ((j + 1 : Nat) : Int) = (j : Int) + 1 by omega)
      clear hs hlt hln
      by_cases hnp : j < np
      · obtain ⟨b, off, rfl, hbl, hc⟩ := HPR.out (by have := HPL.out; omega)
        have hcj := hc j (by have := HPL.out; omega)
        obtain ⟨q, hq⟩ : ∃ q, q = atP pk j := ⟨_, rfl⟩
        rw [← hq] at hcj
        have HCJ := Lib.hid hcj
        have hqv : 0 ≤ q.v := by
          have hl := HPL.out
          have := HPW.out (atP pk j) (by unfold atP; rw [List.getD, List.getElem?_eq_getElem (by omega)]; exact List.getElem_mem (by omega))
          rw [hq]; exact this
        have hnp' : (j : Int) < (np : Int) := by omega
        clear hc hcj hq hnp
        go_wp2_with (first
          | (go_at_call 14; (with_reducible refine (s6_step HS.out hj1 hj0).mono ?_); rintro a w4 ⟨bb, m3, L3, c3, rfl, hl3, h⟩; have HF := Lib.hid h; have HFD := Lib.hid h.drew; have HCD := Lib.hid (And.intro ((h.drew.below.cell (p := ⟨b, off + j * 2, none⟩) hbl).trans HCJ.out.1) ((h.drew.below.cell (p := ⟨b, off + j * 2 + 1, none⟩) hbl).trans HCJ.out.2)); have HL3 := Lib.hid (hl3.trans HLN.out); have cp := (h.below.cell (p := ⟨b, off + j * 2, none⟩) hbl).trans HCJ.out.1; have cv := (h.below.cell (p := ⟨b, off + j * 2 + 1, none⟩) hbl).trans HCJ.out.2; clear h hl3)
          | fail)
        go_region_held3 (fun w' => w'.cell? ⟨b, off + j * 2, none⟩ = some (.int .i64 q.p) ∧ w'.cell? ⟨b, off + j * 2 + 1, none⟩ = some (.int .u64 q.v))
          (first | (with_reducible exact HCE.out) | (with_reducible exact HCD.out) | fail)
          (first
          | (go_at_call 17; (with_reducible refine (S6b.put HFD.out hj1 hj0 q.p q.v hqv).mono ?_); rintro a w5 ⟨rfl, L4, c4, hl4, h⟩; have HE := Lib.hid h; have HL4 := Lib.hid (hl4.trans HL3.out); have HCE := Lib.hid (And.intro ((h.below.cell (p := ⟨b, off + j * 2, none⟩) hbl).trans HCJ.out.1) ((h.below.cell (p := ⟨b, off + j * 2 + 1, none⟩) hbl).trans HCJ.out.2)); clear h hl4)
          | fail)
        go_wp2_with (fail)
        go_roundw
        case rel => exact ⟨j + 1, by omega, by go_num, _, _, _, HL4.out, by rw [EJ.out]; exact HE.out⟩
        case measure => simp [intOf]; omega
      · have hnp' : ¬ (j : Int) < (np : Int) := by omega
        clear hnp
        go_wp2_with (first
          | (go_at_call 14; (with_reducible refine (s6_step HS.out hj1 hj0).mono ?_); rintro a w4 ⟨bb, m3, L3, c3, rfl, hl3, h⟩; have HF := Lib.hid h; have HL3 := Lib.hid (hl3.trans HLN.out); clear h hl3)
          | fail)
        go_roundw
        case rel => exact ⟨j + 1, by omega, by go_num, _, _, _, HL3.out, by rw [EJ.out]; exact HF.out.no⟩
        case measure => simp [intOf]; omega
    · obtain rfl : j = 6 := by omega
      obtain ⟨hpc, ho1, ho2⟩ := hs.end
      obtain ⟨r1, r2⟩ := rOf_no hpc
      obtain ⟨o, ho⟩ : ∃ o, o = m2.out := ⟨_, rfl⟩
      rw [← ho] at r1 ho1 ho2
      have HR1 := Lib.hid r1; have HPC := Lib.hid hpc
      have HS := Lib.hid hs
      have hlen : Hid (L2.length ≤ 1000000) := Lib.hid (by omega)
      have HN2 : Hid (n = L2.length) := Lib.hid hln.symm

      clear hs hlt hpc r1 r2 ho
      go_wp2_with (first
        | (go_at_call 15; (with_reducible refine (res_any _ HS.out.mi.mm).mono ?_); rintro r w6 ⟨rfl, hb⟩; rw [HR1.out]; have HS := Lib.hid (HS.out.step hb); clear hb)
        | (go_at_call 14; (with_reducible refine (step_off _ HS.out.mi HPC.out).mono ?_); rintro r w8 ⟨rfl, rfl⟩)
        | (go_at_call 18; (with_reducible refine (all_any _ HS.out.mi.st hlen.out).mono ?_); rintro r w7 ⟨rfl, hrow, hb⟩; have HS := Lib.hid (HS.out.step hb); first | (have HW2 := Lib.hid hrow; have HW1 := Lib.hid (HW1.out.below hb)) | (have HW1 := Lib.hid hrow); clear hrow hb)
        | (go_at_call 19; (with_reducible refine (same_yes _ _ _ _ n n L2 _ HN2.out HN2.out HW2.out.reads HW1.out.reads hn2).mono ?_); rintro r w9 ⟨rfl, hb⟩; have HS := Lib.hid (HS.out.step hb); clear hb)
        | fail)
      go_ret
      exact ⟨rfl, HS.out.below⟩
end Go.Proofs.Ytjnenpflpckimaa
