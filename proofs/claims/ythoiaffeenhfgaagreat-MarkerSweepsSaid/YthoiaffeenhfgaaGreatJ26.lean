/-  -/
import Derived.Test.YthoiaffeenhfgaaGreatJ22
import Derived.Test.YthoiaffeenhfgaaGreatJ27
import Derived.Test.YthoiaffeenhfgaaGreatJ21
import Derived.Test.YthoiaffeenhfgaaGreatJ7
import Derived.Test.YthoiaffeenhfgaaGreatJ13
import Derived.Test.YthoiaffeenhfgaaGreatJ25
namespace Go.Proofs.YthoiaffeenhfgaaGreat
open Go.RowKit
set_option linter.unusedVariables false
set_option linter.unusedSimpArgs false
set_option maxRecDepth 100000
open Lay (plcc plc shOf packN nodesN OkC Cfg Norm firstV Rep lenL things)
structure DX (d : Dg.Mc) : Prop where
  kd : d.kind = 2 ∨ d.kind = 3
  ok : Dg.EnOk d.e
  b : 0 ≤ d.b ∧ d.b ≤ 18446744073709551615
  w : 0 ≤ d.w ∧ d.w ≤ 18446744073709551615
  t : 0 ≤ d.t
theorem DX.pop {e : Dg.En} (ok : Dg.EnOk e) : DX (Dg.mPop e) := ⟨.inl rfl, ok, by simp [Dg.mPop], by simp [Dg.mPop], by simp [Dg.mPop]⟩
theorem DX.steal {e : Dg.En} (ok : Dg.EnOk e) : DX (Dg.mSteal e) := ⟨.inr rfl, ok, by simp [Dg.mSteal], by simp [Dg.mSteal], by simp [Dg.mSteal]⟩
theorem DX.step {L : List Int} {m : Dg.Mc} (h : DX m) (ww : WW L) : DX (Dg.stp L m).2 ∧ WW (Dg.stp L m).1 := by
  obtain ⟨hk, hok, hb, hw, ht⟩ := h
  have u := u64w_rng
  have l := ww.ldq
  by_cases hp : m.pc = 0
  · rw [Dg.stp_no hp]; exact ⟨⟨hk, hok, hb, hw, ht⟩, ww⟩
  · have key : ∀ P : List Int × Dg.Mc → Prop, (∀ L' m', WW L' → m'.kind = m.kind → m'.e = m.e → (0 ≤ m'.b ∧ m'.b ≤ 18446744073709551615) → (0 ≤ m'.w ∧ m'.w ≤ 18446744073709551615) → 0 ≤ m'.t → P (L', m')) → P (Dg.stp L m) := by
      intro P hP
      rcases hk with hk | hk
      · have es : Dg.stp L m = Dg.popS L m := by simp [Dg.stp, hp, hk]
        rw [es]
        unfold Dg.popS Dg.fin
        repeat' refine Dg.ite_ind (P := P) ?_ ?_
        all_goals apply hP
        all_goals try (by_cases hwon : m.won = true <;> simp only [hwon, if_true, if_false, Bool.false_eq_true])
        all_goals first
          | exact ww
          | exact hb
          | exact hw
          | exact ht
          | exact u _
          | exact l _
          | exact (l _).1
          | exact ww.put _ hb
          | exact ww.put _ (u _)
          | exact ⟨Int.le_refl 0, (by decide : (0 : Int) ≤ 18446744073709551615)⟩
      · have es : Dg.stp L m = Dg.stealS L m := by simp [Dg.stp, hp, hk]
        rw [es]
        unfold Dg.stealS Dg.fin
        repeat' refine Dg.ite_ind (P := P) ?_ ?_
        all_goals apply hP
        all_goals first
          | exact ww
          | exact hb
          | exact hw
          | exact ht
          | exact u _
          | exact l _
          | exact (l _).1
          | exact ww.put _ hb
          | exact ww.put _ (u _)
          | rfl
          | exact ⟨Int.le_refl 0, (by decide : (0 : Int) ≤ 18446744073709551615)⟩
    exact key (fun z => DX z.2 ∧ WW z.1) fun L' m' a b c d e f => ⟨⟨by rw [b]; exact hk, by rw [c]; exact hok, d, e, f⟩, a⟩
structure KW (c : Cfg) (t : Int) (m : Km) : Prop where
  pc : m.pc ≤ 6
  dr : -9223372036854775808 ≤ m.draw ∧ m.draw ≤ 9223372036854775807
  bp : (Lit.int .i64 m.bag.p).wf = true
  bt : m.pc ≠ 0 → 0 ≤ m.bag.t ∧ m.bag.t ≤ 4 ∧ 0 ≤ m.bag.n ∧ m.bag.n ≤ 4
  b2 : m.pc = 2 → m.bag.t < m.bag.n
  d : m.pc = 1 ∨ m.pc = 6 → DX m.d
  p : m.pc = 3 ∨ m.pc = 4 ∨ m.pc = 5 → PW c t m.p
  p5 : m.pc = 5 → m.p.pc = 0
  tk : 0 ≤ m.task ∧ m.task ≤ 18446744073709551615
  t0 : 0 ≤ t
section
variable {c : Cfg} {t u : Int} {m : Km} {L : List Int}
theorem KW.mono (h : KW c t m) (k : t ≤ u) : KW c u m := ⟨h.pc, h.dr, h.bp, h.bt, h.b2, h.d, fun e => (h.p e).mono k, h.p5, h.tk, by have := h.t0; omega⟩
theorem wf_0 : (Lit.int .i64 0).wf = true := by decide
theorem kw_ask {b : Bg} (h : KW c t m) (hb : (Lit.int .i64 b.p).wf = true) (hr : 0 ≤ b.t ∧ b.t ≤ 4 ∧ 0 ≤ b.n ∧ b.n ≤ 4) : KW c t (kask (gOf c) { m with bag := b }) := by
  have t0 := h.t0
  refine ⟨by simp [kask], h.dr, hb, fun _ => hr, fun e => by simp [kask] at e, fun e => by simp [kask] at e, fun _ => (pw_take c).mono t0, fun e => by simp [kask] at e, h.tk, t0⟩
theorem kw_bag (h : KW c t m) (h0 : m.pc ≠ 0) (n : Nat) : KW c t (kbag n (gOf c) m) := by
  have t0 := h.t0
  have bt := h.bt h0
  unfold kbag
  split
  · exact kw_ask (b := m.bag) h h.bp bt
  · split
    · rename_i ht
      exact ⟨by simp, h.dr, h.bp, fun _ => bt, fun _ => ht.2, fun e => by simp at e, fun e => by simp at e, fun e => by simp at e, h.tk, t0⟩
    · split
      · exact kw_ask (b := bg0) h wf_0 (by simp [bg0])
      · exact ⟨by simp, h.dr, wf_0, fun _ => by simp [bg0], fun e => by simp at e, fun e => by simp at e, fun _ => (pw_back c n m.bag.p).mono t0, fun e => by simp at e, h.tk, t0⟩
theorem KW.new {e : Dg.En} {i draw : Int} {b : Bg} (ok : Dg.EnOk e) (hd : -9223372036854775808 ≤ draw ∧ draw ≤ 9223372036854775807) (hb : (Lit.int .i64 b.p).wf = true) : KW c 0 (kNew e i b draw) := by
  have k : ∀ x, 0 ≤ kbd x ∧ kbd x ≤ 4 := fun x => by unfold kbd; split <;> (try split) <;> omega
  have k1 := k b.t
  have k2 := k b.n
  exact ⟨by simp [kNew], hd, hb, fun _ => ⟨k1.1, k1.2, k2.1, k2.2⟩, fun e => by simp [kNew] at e, fun _ => DX.pop ok, fun e => by simp [kNew] at e, fun e => by simp [kNew] at e, by simp [kNew], by omega⟩
theorem kw_own (hc : OkC c) (h : KW c t m) (hp : m.pc = 1 ∨ m.pc = 6) {d : Dg.Mc} (hd : DX d) (n : Nat) : KW c t (kown n (gOf c) m d) := by
  have t0 := h.t0
  have hm : KW c t { m with d := d } := ⟨h.pc, h.dr, h.bp, h.bt, h.b2, fun _ => hd, h.p, h.p5, h.tk, t0⟩
  unfold kown
  split
  · split
    · exact ⟨by simp [kfin], h.dr, h.bp, fun e => by simp [kfin] at e, fun e => by simp [kfin] at e, fun e => by simp [kfin] at e, fun e => by simp [kfin] at e, fun e => by simp [kfin] at e, hd.w, t0⟩
    · split
      · exact kw_bag hm (by show m.pc ≠ 0; omega) n
      · exact ⟨by simp, h.dr, h.bp, fun e => by simp at e, fun e => by simp at e, fun e => by simp at e, fun e => by simp at e, fun e => by simp at e, h.tk, t0⟩
  · exact hm
theorem kw_pak (hc : OkC c) (h : KW c t m) (hp : m.pc = 3 ∨ m.pc = 4) {p : Pm} (hd : PW c u p) (htu : t ≤ u) : KW c u (kpak (gOf c) (eOf c) c.mr m p) := by
  have t0 := h.t0
  have hm : KW c u { m with p := p } := ⟨h.pc, h.dr, h.bp, h.bt, h.b2, h.d, fun _ => hd, fun e => by have e : m.pc = 5 := e; omega, h.tk, by omega⟩
  have bt := h.bt (by omega)
  unfold kpak
  split
  · rename_i hp0
    split
    · exact kw_ask (m := { m with p := p }) (b := m.bag) hm h.bp bt
    · split
      · unfold kvict
        split
        · exact ⟨by simp, h.dr, h.bp, fun e => by simp at e, fun e => by simp at e, fun e => by simp at e, fun e => by simp at e, fun e => by simp at e, h.tk, by omega⟩
        · exact ⟨by simp, h.dr, h.bp, fun _ => bt, fun e => by simp at e, fun _ => DX.steal (eok_of hc _), fun e => by simp at e, fun e => by simp at e, h.tk, by omega⟩
      · exact ⟨by simp, h.dr, h.bp, fun _ => bt, fun e => by simp at e, fun e => by simp at e, fun _ => hd, fun _ => hp0, h.tk, by omega⟩
  · exact hm
theorem KW.step (hc : OkC c) (h : KW c t m) (ww : WW L) : KW c (t + 1) (kstp (pkn c) (gOf c) (eOf c) c.mr L m).2 ∧ WW (kstp (pkn c) (gOf c) (eOf c) c.mr L m).1 := by
  have t0 := h.t0
  unfold kstp
  by_cases p1 : m.pc = 1 ∨ m.pc = 6
  · rw [if_pos p1]
    obtain ⟨k1, k2⟩ := (h.d p1).step ww
    exact ⟨(kw_own hc h p1 k1 _).mono (by omega), k2⟩
  · rw [if_neg p1]
    by_cases p2 : m.pc = 2
    · rw [if_pos p2]
      exact ⟨⟨by simp [kfin], h.dr, h.bp, fun e => by simp [kfin] at e, fun e => by simp [kfin] at e, fun e => by simp [kfin] at e, fun e => by simp [kfin] at e, fun e => by simp [kfin] at e, ww.ldq _, by omega⟩, ww⟩
    · rw [if_neg p2]
      by_cases p3 : m.pc = 3 ∨ m.pc = 4
      · rw [if_pos p3]
        obtain ⟨k1, k2⟩ := (h.p (by omega)).step ww
        exact ⟨kw_pak hc h p3 k1 (by omega), k2⟩
      · rw [if_neg p3]
        by_cases p5 : m.pc = 5
        · rw [if_pos p5]
          have hp := (h.p (by omega)).p
          have k : 0 ≤ k4 (ldq L ((gOf c).mn m.p.p)) ∧ k4 (ldq L ((gOf c).mn m.p.p)) ≤ 4 := by
            have := ww.ldq ((gOf c).mn m.p.p)
            unfold k4; split <;> omega
          have hm : KW c t { m with bag := ⟨m.p.p, 0, k4 (ldq L ((gOf c).mn m.p.p))⟩ } := ⟨h.pc, h.dr, Lay.wf_i64 (by dsimp only; omega) (by dsimp only; omega), fun _ => by dsimp only; omega, fun e => absurd e p2, h.d, h.p, h.p5, h.tk, t0⟩
          exact ⟨(kw_bag hm (by show m.pc ≠ 0; omega) _).mono (by omega), ww⟩
        · rw [if_neg p5]
          exact ⟨h.mono (by omega), ww⟩
end
end Go.Proofs.YthoiaffeenhfgaaGreat

namespace Go.Proofs.YthoiaffeenhfgaaGreat
open Go.RowKit
set_option linter.unusedVariables false
set_option linter.unusedSimpArgs false
set_option maxRecDepth 100000
open Lay (plcc plc nodesN OkC Cfg slotsOf kindV roomsI ksOf)
def zgOf (c : Cfg) : Zg := ⟨fun v => plcc c 14 v 0, fun v j => plcc c 18 v j, fun v => plcc c 16 v 0, (roomsI c).length, fun v => (roomsI c).getD (v - 1).toNat 0, c.ch, 1⟩
theorem zg_nn {c : Cfg} (hc : OkC c) : (zgOf c).nn = nodesN c := by
  show ((roomsI c).length : Int) = _
  rw [Lay.rooms_len]; exact Lay.ks_len hc
theorem nodes60 {c : Cfg} (hc : OkC c) : 0 ≤ nodesN c ∧ nodesN c ≤ 60 := by
  have := Lay.ks_len hc; have := Lay.ks_len60 c; omega
theorem zg_room {c : Cfg} (hc : OkC c) {v : Int} (h1 : 1 ≤ v) (h2 : v ≤ nodesN c) : (zgOf c).room v = slotsOf (kindV c v) := by
  have hl := Lay.ks_len hc
  have hk : (v - 1).toNat < (ksOf c).length := by omega
  show (roomsI c).getD (v - 1).toNat 0 = _
  rw [Lay.rooms_get c _ hk, Lay.ks_get _ hk, show (((v - 1).toNat : Nat) : Int) + 1 = v by omega]
theorem kind_out {c : Cfg} (hc : OkC c) {v : Int} (h : v < 1 ∨ nodesN c < v) : slotsOf (kindV c v) = 0 := by
  have e : nodesN c = c.a + c.b + c.c + c.d + c.e := rfl
  rcases Lay.kindV_cases hc v with ⟨k, _⟩ | ⟨k, h1⟩ | ⟨k, h1⟩ | ⟨k, h1⟩ | ⟨k, h1⟩ | ⟨k, h1⟩
  · rw [k]; rfl
  all_goals (have a0 := hc.a0; have b0 := hc.b0; have c0 := hc.c0; have d0 := hc.d0; have e0 := hc.e0; omega)
theorem plc_out {c : Cfg} (hc : OkC c) {k v : Int} (hk : 14 ≤ k) (hk2 : k ≤ 17) (h : v < 1 ∨ nodesN c < v) : plcc c k v 0 = -1 := by
  have := Lay.shr_len hc
  unfold plcc plc
  simp only
  rw [if_neg (by omega), if_neg (by omega), if_neg (by omega), if_neg (by omega), if_neg (by omega), if_neg (by omega), if_neg (by omega), if_neg (by omega), if_neg (by omega), if_neg (by omega), if_pos hk2, if_neg (by omega)]
theorem ldc_neg (L : List Int) {p : Int} (h : p < 0) : ldc L p = 0 := by unfold ldc; rw [if_neg (by omega)]
theorem zn_is {c : Cfg} (hc : OkC c) (L : List Int) (v : Int) : zn (zgOf c) L v = nZ c L v := by
  unfold zn nZ
  rw [zg_nn hc, ldv_cl]
  by_cases h : 1 ≤ v ∧ v ≤ nodesN c
  · rw [if_pos h, zg_room hc h.1 h.2]; rfl
  · rw [if_neg h, kind_out hc (by omega), plc_out hc (by omega) (by omega) (by omega), ldc_neg L (by omega)]; rfl
theorem nZ_bd {c : Cfg} {L : List Int} (h : WW L) (v : Int) : 0 ≤ nZ c L v ∧ nZ c L v ≤ 16 := by
  have a := h.ld (plcc c 14 v 0); have b := Lay.slots_bd (kindV c v)
  unfold nZ Lay.imin; split <;> omega
theorem ww_ptc {L : List Int} (h : WW L) (a : Int) {v : Int} (hv : 0 ≤ v ∧ v ≤ 18446744073709551615) : WW (ptc L a v) := by
  unfold ptc
  split
  · intro x hx
    rcases List.mem_or_eq_of_mem_set hx with h1 | rfl
    · exact h x h1
    · exact hv
  · exact h
theorem ww_adc {L : List Int} (h : WW L) (a d : Int) : WW (adc L a d) := ww_ptc h a (by omega)
structure ZW (c : Cfg) (t : Int) (m : Zm) : Prop where
  pc : m.pc ≤ 6
  v : 0 ≤ m.v ∧ m.v ≤ 4294967295
  fr : 0 ≤ m.fr ∧ m.fr ≤ 4294967295
  cy : 0 ≤ m.cy ∧ m.cy ≤ 18446744073709551615
  a : 0 ≤ m.at' ∧ m.at' ≤ 1000
  tt : 0 ≤ m.to ∧ m.to ≤ 1000
  lt : m.pc = 4 → m.at' < m.to
  w : 0 ≤ m.w ∧ m.w ≤ 60
  c5 : m.pc = 5 → m.c.pc ≠ 0 ∧ m.c.pc ≤ 4 ∧ m.c.cy = m.cy
  d : m.pc = 3 → m.d.pc ≠ 0 ∧ AW c t m.d
  t0 : 0 ≤ t
theorem ZW.mono {c : Cfg} {t u : Int} {m : Zm} (h : ZW c t m) (k : t ≤ u) : ZW c u m := { h with d := fun e => ⟨(h.d e).1, (h.d e).2.mono k⟩, t0 := by have := h.t0; omega }
theorem ZW.ev {c : Cfg} {t : Int} {m : Zm} (h : ZW c t m) (k a b : Int) : ZW c t { m with ek := k, ea := a, eb := b } := ⟨h.pc, h.v, h.fr, h.cy, h.a, h.tt, h.lt, h.w, h.c5, h.d, h.t0⟩
theorem ZW.rest {c : Cfg} {t : Int} {m : Zm} (h : ZW c t m) : ZW c t (zrest m) := by
  refine ⟨?_, h.v, h.fr, h.cy, h.a, h.tt, fun e => ?_, h.w, fun e => ?_, fun e => ?_, h.t0⟩
  · show (if m.at' < m.to then 4 else 6) ≤ 6; split <;> omega
  · have e : (if m.at' < m.to then 4 else 6) = 4 := e
    by_cases hh : m.at' < m.to
    · exact hh
    · rw [if_neg hh] at e; omega
  · have e : (if m.at' < m.to then 4 else 6) = 5 := e
    split at e <;> omega
  · have e : (if m.at' < m.to then 4 else 6) = 3 := e
    split at e <;> omega
theorem pairZ_bd (v fr : Int) : 0 ≤ pairZ v fr ∧ pairZ v fr ≤ 18446744073709551615 := by unfold pairZ; omega
theorem ZW.give {c : Cfg} {t : Int} {m : Zm} {i : Int} (hc : OkC c) (h : ZW c t m) (x y : Int) : ZW c t (zgive (aNew (eOf c i)) m x y) := by
  refine ⟨by simp [zgive], h.v, h.fr, h.cy, h.a, h.tt, fun e => by simp [zgive] at e, h.w, fun e => by simp [zgive] at e, fun _ => ⟨by simp [zgive, aNew], ((AW.new (eok_of hc i) (pairZ_bd x y)).mono (by have := h.t0; omega))⟩, h.t0⟩
theorem cstp_ww {L : List Int} {m : Cm} (h : WW L) (hcy : 0 ≤ m.cy ∧ m.cy ≤ 18446744073709551615) : WW (cstp 1 L m).1 := by
  unfold cstp
  split
  · exact h
  split
  · exact ww_adc h _ _
  split
  · split
    · exact ww_ptc h _ hcy
    · exact h
  split
  · exact ww_adc h _ _
  · exact h
theorem ZW.step {c : Cfg} {t : Int} {m : Zm} {i : Int} {L : List Int} (hc : OkC c) (h : ZW c t m) (ww : WW L) : ZW c (t + 1) (zstp (zgOf c) (gOf c) (aNew (eOf c i)) L m).2 ∧ WW (zstp (zgOf c) (gOf c) (aNew (eOf c i)) L m).1 := by
  have h1 : ZW c (t + 1) m := h.mono (by omega)
  unfold zstp
  simp only
  by_cases p1 : m.pc = 1
  · rw [if_pos p1]
    refine ⟨?_, ww⟩
    have nb := nZ_bd (c := c) ww m.v
    rw [← zn_is hc] at nb
    have tb := toZ_bd (fr := m.fr) (ch := (zgOf c).chunk) nb.1 (by omega)
    have f0 := h.fr
    unfold zhead
    simp only
    generalize zn (zgOf c) L m.v = n at *
    generalize toZ n m.fr (zgOf c).chunk = T at *
    have fb : 0 ≤ (if n < m.fr then n else m.fr) ∧ (if n < m.fr then n else m.fr) ≤ 1000 := by split <;> omega
    generalize (if n < m.fr then n else m.fr) = F at *
    refine ⟨?_, h.v, h.fr, h.cy, fb, ⟨tb.1, by simp only; omega⟩, fun e => ?_, h.w, fun e => ?_, fun e => ?_, h1.t0⟩
    · show (if T < n then 2 else if F < T then 4 else 6) ≤ 6
      repeat' split
      all_goals omega
    · have e : (if T < n then 2 else if F < T then 4 else 6) = 4 := e
      show F < T
      by_cases h2 : T < n
      · rw [if_pos h2] at e; omega
      · rw [if_neg h2] at e
        by_cases h3 : F < T
        · exact h3
        · rw [if_neg h3] at e; omega
    · have e : (if T < n then 2 else if F < T then 4 else 6) = 5 := e
      repeat' split at e
      all_goals omega
    · have e : (if T < n then 2 else if F < T then 4 else 6) = 3 := e
      repeat' split at e
      all_goals omega
  rw [if_neg p1]
  by_cases p2 : m.pc = 2
  · rw [if_pos p2]
    exact ⟨(h1.ev 2 m.v m.to).give hc _ _, ww_adc ww _ _⟩
  rw [if_neg p2]
  by_cases p3 : m.pc = 3
  · rw [if_pos p3]
    obtain ⟨k1, k2⟩ := (h.d p3).2.step ww
    refine ⟨?_, k2⟩
    by_cases e0 : (astp (gOf c) L m.d).2.pc = 0
    · rw [if_pos e0]
      exact ((⟨by simp only; omega, h1.v, h1.fr, h1.cy, h1.a, h1.tt, h1.lt, h1.w, h1.c5, h1.d, h1.t0⟩ : ZW c (t + 1) { m with ek := 0, ea := 0, eb := 0 }).rest) |> fun z => ⟨z.pc, z.v, z.fr, z.cy, z.a, z.tt, z.lt, z.w, z.c5, fun e => by
        have e : (if m.at' < m.to then 4 else 6) = 3 := e
        split at e <;> omega, z.t0⟩
    · rw [if_neg e0]
      exact ⟨h1.pc, h1.v, h1.fr, h1.cy, h1.a, h1.tt, h1.lt, h1.w, h1.c5, fun _ => ⟨e0, k1⟩, h1.t0⟩
  rw [if_neg p3]
  by_cases p4 : m.pc = 4
  · rw [if_pos p4]
    refine ⟨?_, ww⟩
    have hlt := h.lt p4; have ha := h.a; have ht := h.tt
    by_cases hx : 1 ≤ ldc L ((zgOf c).sl m.v m.at') ∧ ldc L ((zgOf c).sl m.v m.at') ≤ (zgOf c).nn
    · rw [if_pos hx]
      have hn := hx.2
      rw [zg_nn hc] at hn
      have := nodes60 hc
      exact ⟨by simp, h1.v, h1.fr, h1.cy, ⟨by simp only; omega, by simp only; omega⟩, h1.tt, fun e => by simp at e, ⟨by simp only; omega, by simp only; omega⟩, fun _ => ⟨by simp [cNew], by simp [cNew], rfl⟩, fun e => by simp at e, h1.t0⟩
    · rw [if_neg hx]
      exact ZW.rest (m := { m with ek := 3, ea := m.v, eb := m.at', at' := m.at' + 1, pc := 6 }) ⟨by simp, h1.v, h1.fr, h1.cy, ⟨by simp only; omega, by simp only; omega⟩, h1.tt, fun e => by simp at e, h1.w, fun e => by simp at e, fun e => by simp at e, h1.t0⟩
  rw [if_neg p4]
  by_cases p5 : m.pc = 5
  · rw [if_pos p5]
    obtain ⟨c0, c4, cy⟩ := h.c5 p5
    have hcy : 0 ≤ m.c.cy ∧ m.c.cy ≤ 18446744073709551615 := by rw [cy]; exact h.cy
    refine ⟨?_, cstp_ww ww hcy⟩
    have key := cdue_step (zgOf c).wk L m.c c4
    have hb : ∀ p : Nat, p ≤ 6 → p ≠ 3 → p ≠ 4 → p ≠ 5 → ZW c (t + 1) { m with ek := 0, ea := 0, eb := 0, c := (cstp (zgOf c).wk L m.c).2, pc := p } := fun p h6 h3 h4 h5 =>
      ⟨h6, h1.v, h1.fr, h1.cy, h1.a, h1.tt, fun e => absurd e h4, h1.w, fun e => absurd e h5, fun e => absurd e h3, h1.t0⟩
    by_cases e0 : (cstp (zgOf c).wk L m.c).2.pc ≠ 0
    · rw [if_pos e0]
      exact ⟨h1.pc, h1.v, h1.fr, h1.cy, h1.a, h1.tt, h1.lt, h1.w, fun _ => ⟨e0, key.2.1, key.2.2.2.trans cy⟩, h1.d, h1.t0⟩
    · rw [if_neg e0]
      by_cases ew : (cstp (zgOf c).wk L m.c).2.won = true
      · rw [if_pos ew]
        exact ((((hb 6 (by omega) (by omega) (by omega) (by omega)).rest).ev 1 m.w 0).give hc m.w 0)
      · rw [if_neg ew]
        exact (hb 6 (by omega) (by omega) (by omega) (by omega)).rest
  rw [if_neg p5]
  by_cases p6 : m.pc = 6
  · rw [if_pos p6]
    exact ⟨⟨by simp, h1.v, h1.fr, h1.cy, h1.a, h1.tt, fun e => by simp at e, h1.w, fun e => by simp at e, fun e => by simp at e, h1.t0⟩, ww_adc ww _ _⟩
  · rw [if_neg p6]
    exact ⟨h1.ev 0 0 0, ww⟩
end Go.Proofs.YthoiaffeenhfgaaGreat

namespace Go.Proofs.YthoiaffeenhfgaaGreat
open Go.RowKit
set_option linter.unusedVariables false
set_option linter.unusedSimpArgs false
set_option maxRecDepth 100000
open Lay (plcc plc nodesN OkC Cfg)
structure Mk where
  i : Int
  dg : Nat
  se : Km
  zm : Zm
  sw : Wn
  bag : Bg
  tk : Int
  hs : Bool
  ek : Int
  ea : Int
  eb : Int
def mq (m : Mk) : Mk := { m with ek := 0, ea := 0, eb := 0 }
def cm1 (c : Cfg) : Cm := ⟨0, plcc c 16 0 0, 0, 0, false⟩
def am1 : Am := ⟨0, 0, Dg.mPush ⟨0, 0, 0, 0⟩ 0, pnone, false⟩
def Mks (L : List Int) : Prop := ldq L 0 % 8 = 3 ∨ ldq L 0 % 8 = 4
instance (L : List Int) : Decidable (Mks L) := inferInstanceAs (Decidable (_ ∨ _))
def mlook (c : Cfg) (L : List Int) (dr : Int) (m : Mk) : Mk :=
  if Mks L then { mq m with se := kNew (eOf c m.i) m.i m.bag dr, dg := 1 }
  else if ldq L 0 % 8 = 5 then { mq m with sw := wNew (ldq L 0 / 8), dg := 4 }
  else mq m
def mwait (c : Cfg) (L : List Int) (m : Mk) : Mk :=
  if Mks L then { mq m with zm := zNew (m.tk / 4294967296) (m.tk % 4294967296) (ldq L 0 / 8) (cm1 c) am1, dg := 3 } else mq m
def mseek (m : Mk) (s : Km) : Mk :=
  if s.pc = 0 then (if s.found = true then { mq m with se := s, bag := s.bag, tk := s.task, hs := true, dg := 2 } else { mq m with se := s, bag := s.bag, tk := 0, hs := false, dg := 0 })
  else { mq m with se := s }
def mscan (m : Mk) (z : Zm) : Mk :=
  if z.pc = 0 then { m with zm := z, ek := z.ek, ea := z.ea, eb := z.eb, tk := 0, hs := false, dg := 0 } else { m with zm := z, ek := z.ek, ea := z.ea, eb := z.eb }
def mswp (m : Mk) (x : Wn) : Mk :=
  if x.pc = 0 then { m with sw := x, ek := x.ek, ea := x.ea, eb := 0, tk := 0, hs := false, dg := 0 } else { m with sw := x, ek := x.ek, ea := x.ea, eb := 0 }
abbrev kstc (c : Cfg) (L : List Int) (m : Km) : List Int × Km := kstp (pkn c) (gOf c) (eOf c) c.mr L m
abbrev zstc (c : Cfg) (i : Int) (L : List Int) (m : Zm) : List Int × Zm := zstp (zgOf c) (gOf c) (aNew (eOf c i)) L m
def mstp (c : Cfg) (L : List Int) (dr : Int) (m : Mk) : List Int × Mk :=
  if m.dg = 1 then ((kstc c L m.se).1, mseek m (kstc c L m.se).2)
  else if m.dg = 3 then ((zstc c m.i L m.zm).1, mscan m (zstc c m.i L m.zm).2)
  else if m.dg = 4 then ((wstp (wOf c) L m.sw).1, mswp m (wstp (wOf c) L m.sw).2)
  else if m.dg = 2 then (L, mwait c L m)
  else (L, mlook c L dr m)
def bag0 : Bg := ⟨0, 0, 0⟩
def mNew (c : Cfg) (i : Int) : Mk := ⟨i, 0, kNone i bag0 0, zNew 0 0 0 (cm1 c) am1, wNew 0, bag0, 0, false, 0, 0, 0⟩
structure MW (c : Cfg) (t : Int) (m : Mk) : Prop where
  dg : m.dg ≤ 4
  i : 0 ≤ m.i ∧ m.i < c.mr
  k : m.dg = 1 → KW c t m.se ∧ m.se.pc ≠ 0 ∧ m.se.found = false
  z : m.dg = 3 → ZW c t m.zm ∧ m.zm.pc ≠ 0
  w : m.dg = 4 → WKW c t m.sw ∧ m.sw.pc ≠ 0
  tk : 0 ≤ m.tk ∧ m.tk ≤ 18446744073709551615
  bp : (Lit.int .i64 m.bag.p).wf = true
  nh : m.dg ≠ 2 → m.dg ≠ 3 → m.tk = 0 ∧ m.hs = false
  t0 : 0 ≤ t
theorem ztask {c : Cfg} {x cy : Int} (h : 0 ≤ x ∧ x ≤ 18446744073709551615) (hy : 0 ≤ cy ∧ cy ≤ 18446744073709551615) (c0 : Cm) (d0 : Am) : ZW c 0 (zNew (x / 4294967296) (x % 4294967296) cy c0 d0) :=
  ⟨by simp [zNew], by show 0 ≤ x / 4294967296 ∧ x / 4294967296 ≤ 4294967295; omega, by show 0 ≤ x % 4294967296 ∧ x % 4294967296 ≤ 4294967295; omega, hy, by simp [zNew], by simp [zNew], fun e => by simp [zNew] at e, by simp [zNew], fun e => by simp [zNew] at e, fun e => by simp [zNew] at e, by omega⟩
theorem mw_new {c : Cfg} {i : Int} (h0 : 0 ≤ i) (h1 : i < c.mr) : MW c 0 (mNew c i) :=
  ⟨by simp [mNew], ⟨h0, h1⟩, fun e => by simp [mNew] at e, fun e => by simp [mNew] at e, fun e => by simp [mNew] at e, by simp [mNew], by show (Lit.int .i64 0).wf = true; decide, fun _ _ => ⟨rfl, rfl⟩, by omega⟩
theorem MW.mono {c : Cfg} {t u : Int} {m : Mk} (h : MW c t m) (k : t ≤ u) : MW c u m :=
  ⟨h.dg, h.i, fun e => ⟨(h.k e).1.mono k, (h.k e).2⟩, fun e => ⟨(h.z e).1.mono k, (h.z e).2⟩, fun e => ⟨(h.w e).1.mono k, (h.w e).2⟩, h.tk, h.bp, h.nh, by have := h.t0; omega⟩
theorem kfound {c : Cfg} {L : List Int} {s : Km} (h : s.found = false) (hp : (kstc c L s).2.pc ≠ 0) : (kstc c L s).2.found = false := by
  revert hp
  unfold kstc kstp kown kpak kbag kask kvict kfin
  dsimp only
  repeat' split
  all_goals (intro hp; first | exact h | exact absurd rfl hp)
theorem MW.step {c : Cfg} {t dr : Int} {m : Mk} {L : List Int} (hc : OkC c) (h : MW c t m) (ww : WW L) (hd : -9223372036854775808 ≤ dr ∧ dr ≤ 9223372036854775807) : MW c (t + 1) (mstp c L dr m).2 ∧ WW (mstp c L dr m).1 := by
  have t0 := h.t0
  have hw := ww.ldq 0
  unfold mstp
  by_cases d1 : m.dg = 1
  · rw [if_pos d1]
    obtain ⟨hk, hp, hf⟩ := h.k d1
    have s := hk.step hc ww
    refine ⟨?_, s.2⟩
    have s1 := s.1
    unfold mseek
    by_cases p0 : (kstc c L m.se).2.pc = 0
    · rw [if_pos p0]
      split
      · exact ⟨by simp, h.i, fun e => by simp at e, fun e => by simp at e, fun e => by simp at e, s1.tk, s1.bp, fun e => by simp at e, by omega⟩
      · exact ⟨by simp, h.i, fun e => by simp at e, fun e => by simp at e, fun e => by simp at e, by simp, s1.bp, fun _ _ => ⟨rfl, rfl⟩, by omega⟩
    · rw [if_neg p0]
      refine ⟨h.dg, h.i, fun _ => ⟨s1, p0, kfound hf p0⟩, fun e => ?_, fun e => ?_, h.tk, h.bp, h.nh, by omega⟩
      · have e : m.dg = 3 := e
        omega
      · have e : m.dg = 4 := e
        omega
  rw [if_neg d1]
  by_cases d3 : m.dg = 3
  · rw [if_pos d3]
    obtain ⟨hk, hp⟩ := h.z d3
    have s := hk.step (i := m.i) hc ww
    refine ⟨?_, s.2⟩
    have s1 := s.1
    unfold mscan
    by_cases p0 : (zstc c m.i L m.zm).2.pc = 0
    · rw [if_pos p0]
      exact ⟨by simp, h.i, fun e => by simp at e, fun e => by simp at e, fun e => by simp at e, by simp, h.bp, fun _ _ => ⟨rfl, rfl⟩, by omega⟩
    · rw [if_neg p0]
      refine ⟨h.dg, h.i, fun e => ?_, fun _ => ⟨s1, p0⟩, fun e => ?_, h.tk, h.bp, h.nh, by omega⟩
      · have e : m.dg = 1 := e
        omega
      · have e : m.dg = 4 := e
        omega
  rw [if_neg d3]
  by_cases d4 : m.dg = 4
  · rw [if_pos d4]
    obtain ⟨hk, hp⟩ := h.w d4
    have s := hk.step hc ww
    refine ⟨?_, s.2⟩
    have s1 := s.1
    unfold mswp
    by_cases p0 : (wstp (wOf c) L m.sw).2.pc = 0
    · rw [if_pos p0]
      exact ⟨by simp, h.i, fun e => by simp at e, fun e => by simp at e, fun e => by simp at e, by simp, h.bp, fun _ _ => ⟨rfl, rfl⟩, by omega⟩
    · rw [if_neg p0]
      refine ⟨h.dg, h.i, fun e => ?_, fun e => ?_, fun _ => ⟨s1, p0⟩, h.tk, h.bp, h.nh, by omega⟩
      · have e : m.dg = 1 := e
        omega
      · have e : m.dg = 3 := e
        omega
  rw [if_neg d4]
  by_cases d2 : m.dg = 2
  · rw [if_pos d2]
    refine ⟨?_, ww⟩
    unfold mwait
    split
    · refine ⟨by simp, h.i, fun e => by simp at e, fun _ => ⟨(ztask h.tk ⟨by omega, by omega⟩ _ _).mono (by omega), by simp [zNew]⟩, fun e => by simp at e, h.tk, h.bp, fun _ e => by simp at e, by omega⟩
    · exact ⟨h.dg, h.i, fun e => absurd e d1, fun e => absurd e d3, fun e => absurd e d4, h.tk, h.bp, h.nh, by omega⟩
  rw [if_neg d2]
  refine ⟨?_, ww⟩
  have hn := h.nh d2 d3
  unfold mlook
  split
  · refine ⟨by simp, h.i, fun _ => ⟨(KW.new (eok_of hc m.i) hd h.bp).mono (by omega), by simp [kNew], rfl⟩, fun e => by simp at e, fun e => by simp at e, h.tk, h.bp, fun _ _ => hn, by omega⟩
  split
  · refine ⟨by simp, h.i, fun e => by simp at e, fun e => by simp at e, fun _ => ⟨(wkw_new hc ⟨by omega, by omega⟩).mono (by omega), by simp [wNew]⟩, h.tk, h.bp, fun _ _ => hn, by omega⟩
  · exact ⟨h.dg, h.i, fun e => absurd e d1, fun e => absurd e d3, fun e => absurd e d4, h.tk, h.bp, h.nh, by omega⟩
end Go.Proofs.YthoiaffeenhfgaaGreat
