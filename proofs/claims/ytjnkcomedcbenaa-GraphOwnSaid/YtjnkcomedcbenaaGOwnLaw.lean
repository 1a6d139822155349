/- The call of the law of what a mutator's own operation leaves of the others. -/
import Derived.Test.YtjnkcomedcbenaaGWas
namespace Go.Proofs.Ytjnkcomedcbenaa
open Go.RowKit
set_option linter.unusedVariables false

structure Kw (w0 w' : World) (S : Nat) (T F : Nat → Prop) (g : Gr) (A : Option Addr) (c : Nat) (ls : List (List Int)) (b1 o1 : Nat) (v1 : Value) (b2 o2 : Nat) (v2 : Value) (R : List Int) : Prop where
  own : GOwn w0 w' S T F g
  rows : RowsAt (fun k => ¬ F k) w' A 3 c ls
  c1 : w'.cell? ⟨b1, o1, none⟩ = some v1
  c2 : w'.cell? ⟨b2, o2, none⟩ = some v2
  h1 : b1 < w'.heap.size
  h2 : b2 < w'.heap.size
  was : RowV (fun k => ¬ F k) w' v2 R
section
variable {w0 w' w2 : World} {S : Nat} {T F : Nat → Prop} {g : Gr} {A : Option Addr} {c : Nat} {ls : List (List Int)} {b1 o1 : Nat} {v1 : Value} {b2 o2 : Nat} {v2 : Value} {R : List Int}
theorem Kw.step (h : Kw w0 w' S T F g A c ls b1 o1 v1 b2 o2 v2 R) (hb : Below w'.heap.size w' w2) : Kw w0 w2 S T F g A c ls b1 o1 v1 b2 o2 v2 R :=
  ⟨h.own.step hb, h.rows.kept (Kept.below hb), (hb.cell (p := ⟨b1, o1, none⟩) h.h1).trans h.c1, (hb.cell (p := ⟨b2, o2, none⟩) h.h2).trans h.c2, Nat.lt_of_lt_of_le h.h1 hb.size, Nat.lt_of_lt_of_le h.h2 hb.size, h.was.kept (Kept.below hb)⟩
theorem Kw.drew (h : Kw w0 w' S T F g A c ls b1 o1 v1 b2 o2 v2 R) : Kw w0 w'.drew S T F g A c ls b1 o1 v1 b2 o2 v2 R := h.step (Below.refl _ _).drew
theorem Kw.all (h : Kw w0 w' S T F g A c ls b1 o1 v1 b2 o2 v2 R) : (w'.cell? ⟨b1, o1, none⟩ = some v1 ∧ w'.cell? ⟨b2, o2, none⟩ = some v2) ∧ Kw w0 w' S T F g A c ls b1 o1 v1 b2 o2 v2 R := ⟨⟨h.c1, h.c2⟩, h⟩
end

set_option maxHeartbeats 16000000 in
set_option maxRecDepth 100000 in
theorem walkOwn (A : Option Addr) (n capA : Nat) (l : List Op5) (w : World) (ha : IsOps w A n capA l) :
    Calls Try.prog 7 #[.slice A n capA] w fun e w' => e = .returned (.bool true) ∧ Below w.heap.size w w' := by
  obtain ⟨hra, hal, _, _, hwa⟩ := ha
  by_cases h60 : 60 < n
  · have h60' : (60 : Int) < (n : Int) := by omega
    clear hra hal hwa
    go_enter Try.func7, Try.ntmps7
    go_wp2_with (first
      | (go_at_call 10; (with_reducible refine (awake_any _).mono ?_); rintro r w1 ⟨rfl, hb⟩)
      | fail)
    go_ret
    exact ⟨rfl, hb⟩
  have h60' : ¬ (60 : Int) < (n : Int) := by omega
  have hn60 : n ≤ 60 := by omega
  have HA := Lib.hid hra; have HAL := Lib.hid hal
  obtain ⟨G0, hG0⟩ : ∃ G0, G0 = gNew 3 6 3 := ⟨_, rfl⟩
  have HG0 := Lib.hid hG0
  have HN0 : Hid (G0.nodes.length = 1 ∧ G0.roots.length = 3 ∧ G0.most = 6) := Lib.hid (by rw [hG0]; exact ⟨rfl, rfl, rfl⟩)
  clear hra hal hwa h60 hG0
  go_enter Try.func7, Try.ntmps7
  go_wp2_with (first
    | (go_at_call 10; (with_reducible refine (awake_any _).mono ?_); rintro r w1 ⟨rfl, hb⟩; have HBW := Lib.hid hb; clear hb)
    | (go_at_call 11; (with_reducible refine (new_q HBW.out 3 6 3 (by decide) (by decide)).mono ?_); rintro r w2 ⟨S, T, F, rfl, hg, -⟩; rw [← HG0.out] at hg; have HK := Lib.hid hg; clear hg HBW)
    | fail)
  go_loopw [5] (fun iv wr => ∃ (k : Nat) (T' F' : Nat → Prop), k ≤ n ∧ iv = .int .i64 (k : Int) ∧ GOwn w wr S T' F' (opsTo G0 l k)) (fun iv _ => n - (RowKit.intOf iv).toNat)
  case atStart => exact ⟨0, T, F, Nat.zero_le _, rfl, HK.out⟩
  case round =>
    clear HK
    rename World => W
    obtain ⟨k, T', F', hk, rfl, hg⟩ := hrel
    obtain ⟨G, hG⟩ : ∃ G, G = opsTo G0 l k := ⟨_, rfl⟩
    rw [← hG] at hg
    have hnr := opsTo_near G0 l k
    rw [← hG] at hnr
    have hn1 : G.nodes.length ≤ 61 := by have := hnr.1; have := HN0.out.1; omega
    have hr3 : G.roots.length = 3 := by have := hnr.2.2.1; have := HN0.out.2.1; omega
    have hm6 : G.most = 6 := by have := hnr.2.2.2; have := HN0.out.2.2; omega
    have HNN : Hid (G.nodes.length ≤ 1000) := Lib.hid (by omega)
    have HR3 := Lib.hid hr3
    by_cases hlt : k < n
    · obtain ⟨x, hx⟩ : ∃ x, x = atO l k := ⟨_, rfl⟩
      have hsucc : (gPlay G x).1 = opsTo G0 l (k + 1) := by rw [hx, hG]; rfl
      obtain ⟨g', y, z, hp⟩ : ∃ g' y z, gPlay G x = (g', y, z) := ⟨_, _, _, rfl⟩
      have HOWN : Hid (∀ m : Nat, (m : Int) ≠ x.m → m < 3 → rootsL g' m = rootsL G m) := Lib.hid fun m h1 h2 => by
        have := rootsL_own G x m h1 (by omega)
        rw [hp] at this; exact this
      have HLE : Hid (∀ m : Nat, (rootsL G m).length ≤ 1000) := Lib.hid fun m => by have := rootsL_le hg.ok (by omega) (m : Int); omega
      rw [hp] at hsucc
      have HP := Lib.hid hp; have HS : Hid (g' = opsTo G0 l (k + 1)) := Lib.hid hsucc
      have HNN2 : Hid (g'.nodes.length ≤ 1000) := Lib.hid (by have h1 := (opsTo_near G0 l (k + 1)).1; have h2 := HN0.out.1; rw [← HS.out] at h1; omega)
      have HCC : Hid (∀ wz, Below w.heap.size w wz → ∃ b off, A = some ⟨b, off, none⟩ ∧ b < wz.heap.size ∧ wz.cell? ⟨b, off + k * 5, none⟩ = some (.int .u8 x.d) ∧ wz.cell? ⟨b, off + k * 5 + 1, none⟩ = some (.int .i64 x.m) ∧ wz.cell? ⟨b, off + k * 5 + 2, none⟩ = some (.int .i64 x.a) ∧ wz.cell? ⟨b, off + k * 5 + 3, none⟩ = some (.int .i64 x.i) ∧ wz.cell? ⟨b, off + k * 5 + 4, none⟩ = some (.int .i64 x.b)) := Lib.hid fun wz hbz => by
        obtain ⟨b', off', e, d0, d1, d2, d3, d4⟩ := (HA.out.below hbz).at' k (by rw [HAL.out]; exact hlt)
        rw [← hx] at d0 d1 d2 d3 d4
        exact ⟨b', off', e, World.block_lt_of_cell? wz _ d0, d0, d1, d2, d3, d4⟩
      have hk0 : (0 : Int) ≤ (k : Int) := by omega
      have hk1 : (k : Int) < (n : Int) := by omega
      have HG := Lib.hid hg
      clear hx hp hsucc hg hG hnr hn1 hr3 hm6
      go_wp2_with (fail)
      go_loopw [6, 7] (fun sv mv wx => ∃ (m : Nat) (vs : List Value), m ≤ 3 ∧ mv = .int .i64 (m : Int) ∧ Was w W wx S T' F' G sv vs (was3 G m)) (fun _ mv _ => 3 - (RowKit.intOf mv).toNat)
      case atStart => exact ⟨0, [], by omega, rfl, Was.start HG.out⟩
      case round =>
        clear HG
        obtain ⟨m, vs, hm, rfl, hw⟩ := hrel
        by_cases hm3 : m < 3
        · have hm0 : (m : Int) < 3 := by omega
          have HW := Lib.hid hw
          clear hw hlt
          have HVL : Hid (vs.length ≤ 3) := Lib.hid (by have h1 := HW.out.rows.1; rw [was3_len] at h1; omega)
          go_wp2_with (first
            | (go_at_call 23; (with_reducible refine (roots_u (S := S) HW.out.now HNN.out (m : Int)).mono ?_); rintro r w3 ⟨v3, rfl, hv, hb⟩; have HV := Lib.hid hv; have HB := Lib.hid hb; obtain ⟨A3, c3, rfl, -⟩ := id hv; clear hv hb)
            | (at_builtin; refine append_more2 rfl _ _ 26 43 rfl Try.underlying26 info43 rfl (by decide) W.heap.size W u6 vs ((HW.out.row.step (Nat.le_refl _) HB.out).step (Nat.le_refl _) (below_alloc0 (Below.refl _ _) _)) (Nat.le_refl _) w3.heap.size 0 1 1 [.slice A3 (rootsL G (m : Int)).length c3] rfl rfl rfl (by decide) (by have := HVL.out; omega) (cells_lit _ _ _) (fun z hz => by rw [List.mem_singleton.1 hz]; rfl) ?_
               rintro v2 w4 ho2 hk2 hf2
               have HW2 := Lib.hid (HW.out.app HB.out HV.out ho2 hk2 hf2)
               clear ho2 hk2 hf2)
            | fail)
          go_roundw
          case rel => exact ⟨m + 1, _, by omega, by go_num, HW2.out⟩
          case measure => simp [RowKit.intOf]; omega
        · obtain rfl : m = 3 := by omega
          obtain ⟨ls, hls⟩ : ∃ ls, ls = was3 G 3 := ⟨_, rfl⟩
          have hl3 : ls.length = 3 := by rw [hls]; exact was3_len G 3
          have HLR : Hid (∀ m, m < 3 → row ls m = rootsL G m) := Lib.hid fun m h => by rw [hls]; exact was3_row G h
          rw [← hls] at hw
          have hat := hw.at'
          rw [hl3] at hat
          have HWN := Lib.hid hw.now
          clear hw
          obtain ⟨As, cs, rfl, hrows⟩ := hat
          have HRO := Lib.hid hrows
          have HG := Lib.hid HWN.out
          obtain ⟨b, off, hA, hbl, c0, c1, c2, c3, c4⟩ := HCC.out _ HG.out.bel
          subst hA
          have HM := Lib.hid (rfl : x.m = x.m)
          obtain ⟨xd, xm, xa, xi, xb⟩ := x
          clear hls hrows hlt hm3 hl3 HM HWN
          go_wp2_with (first
            | (go_at_call 13; (with_reducible refine (play_q HG.out HNN.out ⟨xd, xm, xa, xi, xb⟩ HP.out).mono ?_); rintro r w3 ⟨T2, F2, rfl, hg, hu, hF, -⟩; have HRO2 := Lib.hid (rows_op HRO.out hu hF); have HG2 := Lib.hid hg; clear hg hu hF c0 c1 c2 c3 c4)
            | fail)
          go_loopw [8] (fun mv wy => ∃ m : Nat, m ≤ 3 ∧ mv = .int .i64 (m : Int) ∧ GOwn w wy S T2 F2 g' ∧ RowsAt (fun k => ¬ F2 k) wy As 3 cs ls) (fun mv _ => 3 - (RowKit.intOf mv).toNat)
          case atStart => exact ⟨0, by omega, rfl, HG2.out, HRO2.out⟩
          case round =>
            clear HG2 HRO2 HG HRO
            obtain ⟨m, hm, rfl, hg, hro⟩ := hrel
            by_cases hm3 : m < 3
            · obtain ⟨b', off', hA, hbl', c0, c1, c2, c3, c4⟩ := HCC.out _ hg.bel
              cases hA
              obtain ⟨bs, os, Bm, d, rfl, hbs, hcs, hrd, hq1, hq2, hq3⟩ := hro.get m hm3
              obtain ⟨R, hR⟩ : ∃ R, R = row ls m := ⟨_, rfl⟩
              rw [← hR] at hcs hrd hq1
              have HRR := Lib.hid hR
              have hrl : R.length ≤ 1000 := by rw [hR, HLR.out m hm3]; exact HLE.out m
              have HKW : Hid (Kw w _ S T2 F2 g' (some ⟨bs, os, none⟩) cs ls b (off + k * 5 + 1) (.int .i64 xm) bs (os + m) (.slice Bm R.length d) R) := Lib.hid ⟨hg, hro, c1, hcs, hbl', hbs, ⟨Bm, d, rfl, hrd, hq1, hq2, hq3⟩⟩
              have hm0 : (0 : Int) ≤ (m : Int) := by omega
              have hm1 : (m : Int) < 3 := by omega
              clear hg hro hR hrd hq3 c0 c2 c3 c4
              by_cases hxm : (m : Int) = xm
              · have hd : ((m : Int) != xm) = false := by simp [hxm]
                clear hxm
                go_wp2
                go_quiet (fail)
                have HKD := Lib.hid fun q => HKW.out.step (below_drewN (Below.refl _ _) q)
                go_wp2
                go_roundw
                case rel => exact ⟨m + 1, by omega, by go_num, (HKD.out _).own, (HKD.out _).rows⟩
                case measure => simp [RowKit.intOf]; omega
              · have hd : ((m : Int) != xm) = true := by simp [hxm]
                have hsame := HOWN.out m hxm hm3
                rw [← HLR.out m hm3, ← HRR.out] at hsame
                have HSM := Lib.hid hsame
                have HRL : Hid (R.length ≤ 1000000) := Lib.hid (by omega)
                have hkw := HKW.out
                have HKD := Lib.hid HKW.out.drew
                clear hxm hsame hrl
                go_wp2
                go_region_held3 (fun w' => (w'.cell? ⟨b, off + k * 5 + 1, none⟩ = some (.int .i64 xm) ∧ w'.cell? ⟨bs, os + m, none⟩ = some (.slice Bm R.length d)) ∧ Kw w w' S T2 F2 g' (some ⟨bs, os, none⟩) cs ls b (off + k * 5 + 1) (.int .i64 xm) bs (os + m) (.slice Bm R.length d) R)
                  (first | exact Kw.all (by assumption) | exact Kw.all (Kw.drew (by assumption)) | go_keep)
                  (first
                    | (go_at_call 23; (with_reducible refine (roots_q (S := S) HKD.out.own HNN2.out (m : Int)).mono ?_); rintro r w4 ⟨v4, rfl, hv, hb⟩; rw [HSM.out] at hv; have HV := Lib.hid hv; have hkw4 := HKD.out.step hb; have HK4 := Lib.hid hkw4; clear hv hb)
                    | (go_at_call 20; (with_reducible refine (same_yes v4 _ R _ HV.out HK4.out.was HRL.out).mono ?_); rintro r w5 ⟨rfl, hb⟩; have hkw5 := HK4.out.step hb; have HK5 := Lib.hid hkw5; clear hb)
                    | fail)
                go_wp2
                go_roundw
                case rel => exact ⟨m + 1, by omega, by go_num, HK5.out.own, HK5.out.rows⟩
                case measure => simp [RowKit.intOf]; omega
            · obtain rfl : m = 3 := by omega
              have HF := Lib.hid hg
              clear hg hm3 hro
              go_wp2_with (fail)
              go_roundw
              case rel => exact ⟨k + 1, T2, F2, by omega, by go_num, by rw [← HS.out]; exact HF.out⟩
              case measure => simp [RowKit.intOf]; omega
    · obtain rfl : k = n := by omega
      have HE := Lib.hid (Em.start hg.ok hr3 (by omega) (by omega))
      have HG := Lib.hid hg
      clear hg hG hnr hn1 hr3 hm6 hlt
      go_wp2_with (fail)
      go_loopw [9] (fun mv wx => ∃ (m : Nat) (T F : Nat → Prop) (g : Gr), m ≤ 3 ∧ mv = .int .i64 (m : Int) ∧ GOwn w wx S T F g ∧ Em g m 0) (fun mv _ => 3 - (RowKit.intOf mv).toNat)
      case atStart => exact ⟨0, _, _, _, by omega, rfl, HG.out, HE.out⟩
      case round =>
        clear HG HE
        obtain ⟨m, T3, F3, g, hm, rfl, hg, he⟩ := hrel
        by_cases hm3 : m < 3
        · have hm1 : (m : Int) < 3 := by omega
          have HG := Lib.hid hg; have HE := Lib.hid he
          clear hg he
          go_wp2_with (fail)
          go_loopw [10] (fun kv wy => ∃ (j : Nat) (T F : Nat → Prop) (g : Gr), j ≤ 6 ∧ kv = .int .i64 (j : Int) ∧ GOwn w wy S T F g ∧ Em g m j) (fun kv _ => 6 - (RowKit.intOf kv).toNat)
          case atStart => exact ⟨0, _, _, _, by omega, rfl, HG.out, HE.out⟩
          case round =>
            clear HG HE
            obtain ⟨j, T4, F4, g4, hj, rfl, hg, he⟩ := hrel
            by_cases hj6 : j < 6
            · have hj1 : (j : Int) < 6 := by omega
              have HG := Lib.hid hg
              have HN : Hid (g4.nodes.length ≤ 1000) := Lib.hid he.n
              obtain ⟨g5, pb, hp⟩ : ∃ g5 pb, gPop g4 (m : Int) = (g5, pb) := ⟨_, _, rfl⟩
              have HE := Lib.hid (he.pop' hm3 hj6 hp)
              have HP := Lib.hid hp
              clear hg he hp hj6
              go_wp2_with (first
                | (go_at_call 25; (with_reducible refine (pop_q (S := S) HG.out HN.out (m : Int) HP.out).mono ?_); rintro r w4 ⟨T5, F5, rfl, hg, -⟩; have HG5 := Lib.hid hg; clear hg)
                | fail)
              go_roundw
              case rel => exact ⟨j + 1, T5, F5, g5, by omega, by go_num, HG5.out, HE.out⟩
              case measure => simp [RowKit.intOf]; omega
            · obtain rfl : j = 6 := by omega
              have HG := Lib.hid hg
              have HN : Hid (g4.nodes.length ≤ 1000) := Lib.hid he.n
              have HP := Lib.hid (he.last hm3)
              have HE := Lib.hid (he.next hm3)
              clear hg he hj6
              go_wp2_with (first
                | (go_at_call 25; (with_reducible refine (pop_q (S := S) HG.out HN.out (m : Int) HP.out).mono ?_); rintro r w4 ⟨T5, F5, rfl, hg, -⟩; have HG5 := Lib.hid hg; clear hg)
                | fail)
              go_roundw
              case rel => exact ⟨m + 1, T5, F5, g4, by omega, by go_num, HG5.out, HE.out⟩
              case measure => simp [RowKit.intOf]; omega
        · obtain rfl : m = 3 := by omega
          have HG := Lib.hid hg
          have HN : Hid (g.nodes.length ≤ 1000) := Lib.hid he.n
          have HRE := Lib.hid he.none
          clear hg he hm3
          go_wp2_with (first
            | (go_at_call 21; (with_reducible refine (reach_q (S := S) HG.out HN.out).mono ?_); rintro r w4 ⟨v4, rfl, hv, hb⟩; rw [HRE.out] at hv; obtain ⟨A4, c4, rfl, -⟩ := hv; have HG5 := Lib.hid (HG.out.step hb); clear hb)
            | fail)
          go_ret
          exact ⟨rfl, HG5.out.bel⟩
end Go.Proofs.Ytjnkcomedcbenaa
