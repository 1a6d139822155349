
import Derived.Test.YthoiaffeenhfgaaGreatScN
namespace Go.Proofs.YthoiaffeenhfgaaGreat
open Go.RowKit
set_option linter.unusedVariables false
set_option linter.unusedSimpArgs false
set_option maxRecDepth 100000
open Lay (plcc plc nodesN OkC Cfg slotsOf kindV)
section
variable {w0 w w' : World} {X S D N M : Nat} {c : Cfg} {z : Zc} {L : List Int} {cc : Int}
set_option maxHeartbeats 1000000 in
theorem mark_on (h : Zb w X (some ⟨N, 0, none⟩) z) (hp : z.cp = some ⟨M, 0, none⟩) (Q : World → Prop)
    (HS : Calls Tryz.prog 200 #[ptr M, ptr S] w fun e w' => e = .returned (.bool false) ∧ Q w') :
    Calls Tryz.prog 192 #[ptr X, ptr S] w fun e w' => e = .returned (.tuple #[]) ∧ Q w' := by
  have q9 := h.c9
  rw [hp] at q9
  have HH := Lib.hid HS
  clear h hp HS
  go_enter Tryz.func192, Tryz.ntmps192
  go_wp2_with (first
    | (go_at_call 200; (with_reducible refine HH.out.mono ?_); rintro r w1 ⟨rfl, hq⟩; have HQ := Lib.hid hq; clear hq)
    | fail)
  go_returns
  exact ⟨rfl, HQ.out⟩
set_option maxHeartbeats 4000000 in
theorem mark_lost (h : Zb w X (some ⟨N, 0, none⟩) z) (hp : z.cp = some ⟨M, 0, none⟩) (Q : World → Prop)
    (HS : Calls Tryz.prog 200 #[ptr M, ptr S] w fun e w' => e = .returned (.bool true) ∧ Q w')
    (HQ : ∀ w1, Q w1 → Zs w1 w1 X S D N c z L cc ∧ w1.cell? ⟨M, 5, none⟩ = some (.bool false)) :
    Calls Tryz.prog 192 #[ptr X, ptr S] w fun e w' => e = .returned (.tuple #[]) ∧ ∃ w1, Q w1 ∧ Zs w1 w' X S D N c { z with ek := 0, ea := 0, eb := 0, nx := if z.a < z.t then fnz 178 X else fnz 179 X } L cc := by
  have q9 := h.c9
  rw [hp] at q9
  have HH := Lib.hid HS; have HQQ := Lib.hid HQ; have HP := Lib.hid hp
  obtain ⟨nv, hnv⟩ : ∃ nv, nv = (if z.a < z.t then fnz 178 X else fnz 179 X) := ⟨_, rfl⟩
  rw [← hnv]
  have HNV := Lib.hid hnv
  clear h hp HS HQ hnv
  go_enter Tryz.func192, Tryz.ntmps192
  go_wp2_with (first
    | (go_at_call 200; (with_reducible refine HH.out.mono ?_); rintro r w1 ⟨rfl, hq⟩; have HQ := Lib.hid hq; have H1 := Lib.hid (HQQ.out w1 hq).1; have HW := Lib.hid (HQQ.out w1 hq).2; clear hq)
    | (go_at_call 201; (with_reducible refine (marked_no H1.out.mem HP.out HW.out).mono ?_); rintro r w2 ⟨rfl, hb⟩; have H2 := Lib.hid (H1.out.step hb); clear hb; obtain ⟨⟨e0, e1, e2⟩, e3, e4⟩ := H2.out.mem.ev; obtain ⟨⟨g0, g1, g2⟩, g3, g4⟩ := H2.out.mem.evf)
    | fail)
  have h3 := H2.out.pev 0 0 0
  obtain ⟨W, hW⟩ : ∃ W, W = evW w2 X 0 0 0 := ⟨_, rfl⟩
  rw [← hW] at h3
  unfold evW at hW
  rw [← hW]
  have H3 := Lib.hid h3
  clear hW h3 e0 e1 e2 e3 e4 g0 g1 g2 g3 g4
  have HD := Lib.hid H3.out.drew
  obtain ⟨⟨e0, e1, e2⟩, e3, e4⟩ := H3.out.mem.ev
  go_region_held3 (fun w' => (w'.cell? ⟨X, 11, none⟩ = some (.int .i64 0) ∧ w'.cell? ⟨X, 12, none⟩ = some (.int .i64 0) ∧ w'.cell? ⟨X, 13, none⟩ = some (.int .i64 0)) ∧ w'.cell? ⟨X, 14, none⟩ = some (.int .i64 0) ∧ w'.cell? ⟨X, 15, none⟩ = some (.int .i64 0))
    (first | (with_reducible exact H4.out.mem.ev) | (with_reducible exact HD.out.mem.ev) | fail)
    (first
      | (go_at_call 202; (with_reducible refine (none_any _).mono ?_); rintro r w4 ⟨rfl, hb⟩; have H4 := Lib.hid (HD.out.step hb); clear hb)
      | fail)
  go_wp2_with (first
    | (go_at_call 163; (with_reducible refine (goOnZ H4.out).mono ?_); rintro r w7 ⟨rfl, hk⟩; have H7 := Lib.hid hk; clear hk)
    | fail)
  go_returns
  have e := HNV.out
  refine ⟨rfl, w1, HQ.out, ?_⟩
  rw [e]; exact H7.out
set_option maxHeartbeats 4000000 in
theorem mark_won (h : Zb w X (some ⟨N, 0, none⟩) z) (hp : z.cp = some ⟨M, 0, none⟩) (c0 : 0 ≤ z.ch ∧ z.ch ≤ 4294967295) (i0 : 0 ≤ z.i) (i1 : z.i < c.mr) (Q : World → Prop)
    (HS : Calls Tryz.prog 200 #[ptr M, ptr S] w fun e w' => e = .returned (.bool true) ∧ Q w')
    (HQ : ∀ w1, Q w1 → Zs w1 w1 X S D N c z L cc ∧ w1.cell? ⟨M, 5, none⟩ = some (.bool true)) :
    Calls Tryz.prog 192 #[ptr X, ptr S] w fun e w' => e = .returned (.tuple #[]) ∧ ∃ w1, Q w1 ∧ ∃ X2 O2 D2, AKM w' X2 O2 D2 c N (aNew (eOf c z.i) (z.ch * 4294967296)) ∧ (∀ k, D2 k → w1.heap.size ≤ k) ∧
      Zs w1 w' X S D N c { z with ek := 1, ea := z.ch, eb := 0, ap := some ⟨X2, 0, none⟩, nx := fnz 190 X } L cc := by
  have q9 := h.c9
  rw [hp] at q9
  have HH := Lib.hid HS; have HQQ := Lib.hid HQ; have HP := Lib.hid hp; have HC := Lib.hid c0; have HI := Lib.hid (And.intro i0 i1)
  clear h hp HS HQ c0 i0 i1
  go_enter Tryz.func192, Tryz.ntmps192
  go_wp2_with (first
    | (go_at_call 200; (with_reducible refine HH.out.mono ?_); rintro r w1 ⟨rfl, hq⟩; have HQ := Lib.hid hq; have H1 := Lib.hid (HQQ.out w1 hq).1; have HW := Lib.hid (HQQ.out w1 hq).2; clear hq)
    | (go_at_call 201; (with_reducible refine (marked_yes H1.out.mem HP.out HC.out HW.out).mono ?_); rintro r w2 ⟨rfl, hb⟩; have H2 := Lib.hid (H1.out.step hb); clear hb; obtain ⟨⟨e0, e1, e2⟩, e3, e4⟩ := H2.out.mem.ev; obtain ⟨⟨g0, g1, g2⟩, g3, g4⟩ := H2.out.mem.evf)
    | fail)
  have h3 := H2.out.pev 1 z.ch 0
  obtain ⟨W, hW⟩ : ∃ W, W = evW w2 X 1 z.ch 0 := ⟨_, rfl⟩
  rw [← hW] at h3
  unfold evW at hW
  rw [← hW]
  have H3 := Lib.hid h3
  clear hW h3 e0 e1 e2 e3 e4 g0 g1 g2 g3 g4
  have HD := Lib.hid H3.out.drew
  obtain ⟨⟨e0, e1, e2⟩, e3, e4⟩ := H3.out.mem.ev
  go_region_held3 (fun w' => (w'.cell? ⟨X, 11, none⟩ = some (.int .i64 1) ∧ w'.cell? ⟨X, 12, none⟩ = some (.int .i64 0) ∧ w'.cell? ⟨X, 13, none⟩ = some (.int .i64 z.ch)) ∧ w'.cell? ⟨X, 14, none⟩ = some (.int .i64 0) ∧ w'.cell? ⟨X, 15, none⟩ = some (.int .i64 0))
    (first | (with_reducible exact H4.out.mem.ev) | (with_reducible exact HD.out.mem.ev) | fail)
    (first
      | (go_at_call 202; (with_reducible refine (none_any _).mono ?_); rintro r w4 ⟨rfl, hb⟩; have H4 := Lib.hid (HD.out.step hb); clear hb)
      | fail)
  have r8 := H4.out.mem.c8
  have HSZ := Lib.hid H4.out.u.size
  go_wp2_with (first
    | (go_at_call 177; (with_reducible refine (putZ H4.out z.ch 0 HI.out.1 HI.out.2 HC.out ⟨Int.le_refl _, by decide⟩).mono ?_); rintro r w7 ⟨rfl, X2, O2, D2, hk, hd, hz⟩; have HK := Lib.hid hk; have HDD := Lib.hid hd; have H7 := Lib.hid hz; clear hk hd hz)
    | fail)
  go_returns
  refine ⟨rfl, w1, HQ.out, X2, O2, D2, ?_, fun k hk => Nat.le_trans HSZ.out (HDD.out k hk), H7.out⟩
  have := HK.out; rwa [Int.add_zero] at this
set_option maxHeartbeats 1000000 in
theorem putOn_on (h : Zb w X (some ⟨N, 0, none⟩) z) (hp : z.ap = some ⟨M, 0, none⟩) (Q : World → Prop)
    (HS : Calls Tryz.prog 32 #[ptr M, ptr S] w fun e w' => e = .returned (.bool false) ∧ Q w') :
    Calls Tryz.prog 190 #[ptr X, ptr S] w fun e w' => e = .returned (.tuple #[]) ∧ Q w' := by
  have q9 := h.c10
  rw [hp] at q9
  have HH := Lib.hid HS
  clear h hp HS
  go_enter Tryz.func190, Tryz.ntmps190
  go_wp2_with (first
    | (go_at_call 32; (with_reducible refine HH.out.mono ?_); rintro r w1 ⟨rfl, hq⟩; have HQ := Lib.hid hq; clear hq)
    | fail)
  go_returns
  exact ⟨rfl, HQ.out⟩
set_option maxHeartbeats 1000000 in
theorem putOn_end (h : Zb w X (some ⟨N, 0, none⟩) z) (hp : z.ap = some ⟨M, 0, none⟩) (Q : World → Prop)
    (HS : Calls Tryz.prog 32 #[ptr M, ptr S] w fun e w' => e = .returned (.bool true) ∧ Q w')
    (HQ : ∀ w1, Q w1 → Zs w1 w1 X S D N c z L cc) :
    Calls Tryz.prog 190 #[ptr X, ptr S] w fun e w' => e = .returned (.tuple #[]) ∧ ∃ w1, Q w1 ∧ Zs w1 w' X S D N c { z with nx := if z.a < z.t then fnz 178 X else fnz 179 X } L cc := by
  have q9 := h.c10
  rw [hp] at q9
  have HH := Lib.hid HS; have HQQ := Lib.hid HQ
  obtain ⟨nv, hnv⟩ : ∃ nv, nv = (if z.a < z.t then fnz 178 X else fnz 179 X) := ⟨_, rfl⟩
  rw [← hnv]
  have HNV := Lib.hid hnv
  clear h hp HS HQ hnv
  go_enter Tryz.func190, Tryz.ntmps190
  go_wp2_with (first
    | (go_at_call 32; (with_reducible refine HH.out.mono ?_); rintro r w1 ⟨rfl, hq⟩; have HQ := Lib.hid hq; have H1 := Lib.hid (HQQ.out w1 hq); clear hq)
    | (go_at_call 163; (with_reducible refine (goOnZ H1.out).mono ?_); rintro r w7 ⟨rfl, hk⟩; have H7 := Lib.hid hk; clear hk)
    | fail)
  go_returns
  have e := HNV.out
  refine ⟨rfl, w1, HQ.out, ?_⟩
  rw [e]; exact H7.out
set_option maxHeartbeats 2000000 in
theorem zstep_raw {mp : Option Addr} {f : Nat} (h : Zb w X mp z) (hnx : z.nx = fnz f X) (hen : ∀ a w, (callFunc f a).run Tryz.prog w = .ok (.enter f a) w) (b : Bool) (Q : World → Prop)
    (HN : ∀ w1, Zb w1 X mp { z with ek := 0, ea := 0, eb := 0 } → UF (fun k => k = X) w w1 → Calls Tryz.prog f #[ptr X, ptr S] w1 fun e w' => e = .returned (.tuple #[]) ∧ Q w')
    (hQ : ∀ w', Q w' → (b = true ∧ w'.cell? ⟨X, 7, none⟩ = some .nilFunc) ∨ (b = false ∧ ∃ f', w'.cell? ⟨X, 7, none⟩ = some (fnz f' X))) :
    Calls Tryz.prog 238 #[ptr X, ptr S] w fun e w' => e = .returned (.bool b) ∧ Q w' := by
  have HB := Lib.hid h
  have HNX := Lib.hid hnx
  clear hnx
  cases b
  · have HNN := Lib.hid HN; have HQ := Lib.hid hQ; clear HN hQ h
    go_enter Tryz.func238, Tryz.ntmps238
    go_upto_region 4 with (first
      | (go_at_call 202; (with_reducible refine (none_any _).mono ?_); rintro r w2 ⟨rfl, hb⟩; have H2 := Lib.hid (HB.out.step hb); have HS2 := Lib.hid hb; clear hb; obtain ⟨⟨e0, e1, e2⟩, e3, e4⟩ := H2.out.ev; obtain ⟨⟨g0, g1, g2⟩, g3, g4⟩ := H2.out.evf)
      | fail)
    have h3 := H2.out.pev 0 0 0
    obtain ⟨W, hW⟩ : ∃ W, W = evW w2 X 0 0 0 := ⟨_, rfl⟩
    rw [← hW] at h3
    have HU : Hid (UF (fun k => k = X) w W) := Lib.hid (by rw [hW]; exact (UF.of_below HS2.out).trans (UF.evW w2 X 0 0 0) (fun _ x => x) (fun _ _ x => x))
    unfold evW at hW
    rw [← hW]
    have H3 := Lib.hid h3
    clear hW h3 e0 e1 e2 e3 e4 g0 g1 g2 g3 g4
    have c7 := H3.out.c7
    rw [show Zc.nx { z with ek := 0, ea := 0, eb := 0 } = fnz f X from HNX.out] at c7
    go_wp2_with (first
      | ((with_reducible refine (HNN.out _ H3.out HU.out).mono ?_); rintro r w1 ⟨rfl, hk⟩; have HK := Lib.hid hk; obtain ⟨f', d4⟩ : ∃ f', w1.cell? ⟨X, 7, none⟩ = some (fnz f' X) := (by rcases HQ.out w1 hk with ⟨h, _⟩ | ⟨_, h⟩; cases h; exact h); clear hk)
      | fail)
    go_ret
    exact ⟨rfl, HK.out⟩
  · have HNN := Lib.hid HN; have HQ := Lib.hid hQ; clear HN hQ h
    go_enter Tryz.func238, Tryz.ntmps238
    go_upto_region 4 with (first
      | (go_at_call 202; (with_reducible refine (none_any _).mono ?_); rintro r w2 ⟨rfl, hb⟩; have H2 := Lib.hid (HB.out.step hb); have HS2 := Lib.hid hb; clear hb; obtain ⟨⟨e0, e1, e2⟩, e3, e4⟩ := H2.out.ev; obtain ⟨⟨g0, g1, g2⟩, g3, g4⟩ := H2.out.evf)
      | fail)
    have h3 := H2.out.pev 0 0 0
    obtain ⟨W, hW⟩ : ∃ W, W = evW w2 X 0 0 0 := ⟨_, rfl⟩
    rw [← hW] at h3
    have HU : Hid (UF (fun k => k = X) w W) := Lib.hid (by rw [hW]; exact (UF.of_below HS2.out).trans (UF.evW w2 X 0 0 0) (fun _ x => x) (fun _ _ x => x))
    unfold evW at hW
    rw [← hW]
    have H3 := Lib.hid h3
    clear hW h3 e0 e1 e2 e3 e4 g0 g1 g2 g3 g4
    have c7 := H3.out.c7
    rw [show Zc.nx { z with ek := 0, ea := 0, eb := 0 } = fnz f X from HNX.out] at c7
    go_wp2_with (first
      | ((with_reducible refine (HNN.out _ H3.out HU.out).mono ?_); rintro r w1 ⟨rfl, hk⟩; have HK := Lib.hid hk; have d4 : w1.cell? ⟨X, 7, none⟩ = some .nilFunc := (by rcases HQ.out w1 hk with ⟨_, h⟩ | ⟨h, _⟩; exact h; cases h); clear hk)
      | fail)
    go_ret
    exact ⟨rfl, HK.out⟩
set_option maxHeartbeats 2000000 in
theorem zstep_off {mp : Option Addr} (v : Value) (h : Zb w X mp z) (hnx : z.nx = .nilFunc) :
    Calls Tryz.prog 238 #[ptr X, v] w fun e w' => e = .returned (.bool true) ∧ Zb w' X mp { z with ek := 0, ea := 0, eb := 0 } ∧ UF (fun k => k = X) w w' := by
  have HB := Lib.hid h
  have HNX := Lib.hid hnx
  clear hnx h
  go_enter Tryz.func238, Tryz.ntmps238
  go_upto_region 4 with (first
    | (go_at_call 202; (with_reducible refine (none_any _).mono ?_); rintro r w2 ⟨rfl, hb⟩; have H2 := Lib.hid (HB.out.step hb); have HS2 := Lib.hid hb; clear hb; obtain ⟨⟨e0, e1, e2⟩, e3, e4⟩ := H2.out.ev; obtain ⟨⟨g0, g1, g2⟩, g3, g4⟩ := H2.out.evf)
    | fail)
  have h3 := H2.out.pev 0 0 0
  obtain ⟨W, hW⟩ : ∃ W, W = evW w2 X 0 0 0 := ⟨_, rfl⟩
  rw [← hW] at h3
  have HU : Hid (UF (fun k => k = X) w W) := Lib.hid (by rw [hW]; exact (UF.of_below HS2.out).trans (UF.evW w2 X 0 0 0) (fun _ x => x) (fun _ _ x => x))
  unfold evW at hW
  rw [← hW]
  have H3 := Lib.hid h3
  clear hW h3 e0 e1 e2 e3 e4 g0 g1 g2 g3 g4
  have c7 := H3.out.c7
  rw [show Zc.nx { z with ek := 0, ea := 0, eb := 0 } = .nilFunc from HNX.out] at c7
  go_wp2_with (fail)
  go_ret
  exact ⟨rfl, H3.out, HU.out⟩
abbrev zc0 (i v fr cy : Int) (nx : Value) : Zc := ⟨i, v, fr, cy, 0, 0, nx, 0, none, none, 0, 0, 0⟩
set_option maxHeartbeats 2000000 in
theorem newZ_map (mN : Nat) (i tk cy : Int) (h0 : 0 ≤ tk) (h1 : tk ≤ 18446744073709551615) (w : World) :
    Calls Tryz.prog 125 #[.pointer (some ⟨mN, 0, none⟩), .int .i64 i, .int .u64 tk, .int .u64 cy] w fun e w' => ∃ X, e = .returned (ptr X) ∧ w.heap.size ≤ X ∧ Zb w' X (some ⟨mN, 0, none⟩) (zc0 i (tk / 4294967296) (tk % 4294967296) cy (fnz 142 X)) ∧ Below w.heap.size w w' := by
  have hmf : ∀ (fn : Fn) (first cap : Array Value) (w : World), (Instr.makeFunc fn first cap).run Tryz.prog w = .ok (.func fn first cap) w := fun _ _ _ _ => rfl
  have HT := Lib.hid (And.intro h0 h1)
  obtain ⟨v, hv⟩ : ∃ v, v = tk / 4294967296 := ⟨_, rfl⟩
  obtain ⟨fr, hf⟩ : ∃ v, v = tk % 4294967296 := ⟨_, rfl⟩
  rw [← hv, ← hf]
  have HV := Lib.hid hv; have HF := Lib.hid hf
  clear h0 h1 hv hf
  go_enter Tryz.func125, Tryz.ntmps125
  go_wp2_with (first
    | (go_at_call 126; (with_reducible refine (split_any tk HT.out.1 HT.out.2 _).mono ?_); rintro r w1 ⟨rfl, hb⟩; rw [← HV.out, ← HF.out]; have HB := Lib.hid hb; clear hb)
    | fail)
  go_ret
  exact ⟨w1.heap.size, rfl, HB.out.size, Go.heap_alloc_new _ _, below_alloc0 HB.out _⟩
end
end Go.Proofs.YthoiaffeenhfgaaGreat
