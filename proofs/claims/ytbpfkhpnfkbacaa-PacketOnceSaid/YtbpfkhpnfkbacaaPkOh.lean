/- Three packets' machines: what holds at the loop's head. -/
import Derived.Test.YtbpfkhpnfkbacaaPkOm
namespace Go.Proofs.Ytbpfkhpnfkbacaa
open Go.RowKit
set_option linter.unusedVariables false
set_option linter.unusedSimpArgs false
open Lay (plcc plc shOf packN nodesN OkC Cfg Norm firstV Rep lenL things)
attribute [local irreducible] pruns

/-- What is known beside memory. -/
structure Wq where
  put : Nat
  S : List Int
  hs : Nat → List Int
  ws : Nat → List Int
  rs : Nat → Int
/-- What a machine's cells in the rows are. -/
structure Ln (x : Vq) (y : Wq) (j : Nat) : Prop where
  lv : x.lv j = decide ((x.ms j).pc ≠ 0)
  wv : x.wv j = (if x.lv j = true then ptr (x.A j) else .pointer none)
  kd : x.lv j = true → x.kd j = (x.ms j).kind - 1 ∧ ((x.ms j).kind = 1 ∨ (x.ms j).kind = 2 ∨ (x.ms j).kind = 3)
  h1 : x.lv j = true → (x.ms j).kind = 1 → x.hv j = 0
  h2 : ¬ (x.lv j = true ∧ (x.ms j).kind = 1) → x.hv j = (y.hs j).headD 0
structure HQ (q : Cq) (c : Cfg) (B : Nat) (w0 wr : World) (len i : Nat) (x : Vq) (y : Wq) : Prop where
  so : SQ q c B w0 wr (4 * (i : Int)) x
  pf : PN (pkn c) (gOf c) x.L i y.put y.S x.ms y.hs y.ws y.rs
  ln : ∀ j, j < 3 → Ln x y j
  du : ∀ j, j < 3 → (x.ms j).pc ≠ 0 → Due len i j (y.rs j)
  sl : x.se.length = 400
  sn : ∀ t, t < 400 → x.se.getD t 0 = (y.S.count (t : Int) : Int)
  ii : i ≤ len + 90 ∧ len ≤ 400
  ll : x.L.length ≤ 10000
section
variable {q : Cq} {c : Cfg} {B : Nat} {w0 wr w' : World} {len i : Nat} {x : Vq} {y : Wq} {k : Nat}
theorem HQ.step (h : HQ q c B w0 wr len i x y) (hb : Below wr.heap.size wr w') : HQ q c B w0 w' len i x y := ⟨h.so.below hb, h.pf, h.ln, h.du, h.sl, h.sn, h.ii, h.ll⟩
theorem HQ.put (h : HQ q c B w0 wr len i x y) : y.put ≤ 250 := by have := h.pf.bound; have := h.ii; omega
theorem HQ.cellW (h : HQ q c B w0 wr len i x y) (hk : k < 3) : wr.cell? ⟨q.WK, k, none⟩ = some (if x.lv k = true then ptr (x.A k) else .pointer none) := by rw [h.so.wk.cell hk, (h.ln k hk).wv]
theorem HQ.live (h : HQ q c B w0 wr len i x y) (hk : k < 3) (hl : x.lv k = true) : (x.ms k).pc ≠ 0 := by
  have := (h.ln k hk).lv; rw [hl] at this; simpa using this.symm
theorem HQ.rest (h : HQ q c B w0 wr len i x y) (hk : k < 3) (hl : ¬ x.lv k = true) : (x.ms k).pc = 0 := by
  have := (h.ln k hk).lv
  cases hb : x.lv k with
  | true => exact absurd hb hl
  | false => rw [hb] at this; simpa using this.symm
/-- A turn of one that rests, when no more are begun. -/
theorem HQ.skip (h : HQ q c B w0 wr len i x y) (hk : k < 3) (hl : ¬ x.lv k = true) (hi : len ≤ i) (hi2 : i < len + 90) (hm : i % 3 = k) : HQ q c B w0 wr len (i + 1) x y := by
  have hr := h.rest hk hl
  refine ⟨h.so.more (by omega), h.pf.more (by omega), h.ln, fun j hj hp => ?_, h.sl, h.sn, ⟨by omega, h.ii.2⟩, h.ll⟩
  have hjk : j ≠ k := fun e => hp (e ▸ hr)
  have := due_other hj (h.du j hj hp) (by omega) (by omega)
  simpa using this
/-- One is begun. -/
theorem HQ.begun {w2 : World} {m : Pm} {A' : Nat} {O' D' : Nat → Prop} {kd' : Int} {put' : Nat} {ws' : List Int} (h : HQ q c B w0 wr len i x y) (hk : k < 3) (hl : ¬ x.lv k = true) (hi : i < len)
    (s : SQ q c B w0 w2 (4 * (i : Int)) { x with kd := upd3 x.kd k kd', ms := upd3 x.ms k m, A := upd3 x.A k A', O := upd3 x.O k O', Dq := upd3 x.Dq k D', lv := upd3 x.lv k true, wv := upd3 x.wv k (ptr A') })
    (pf : PN (pkn c) (gOf c) x.L i put' y.S (upd3 x.ms k m) y.hs (upd3 y.ws k ws') (fun _ => 22)) (hp : m.pc ≠ 0) (hkd : kd' = m.kind - 1 ∧ (m.kind = 1 ∨ m.kind = 2 ∨ m.kind = 3)) (h1 : m.kind = 1 → y.hs k = []) :
    HQ q c B w0 w2 len i { x with kd := upd3 x.kd k kd', ms := upd3 x.ms k m, A := upd3 x.A k A', O := upd3 x.O k O', Dq := upd3 x.Dq k D', lv := upd3 x.lv k true, wv := upd3 x.wv k (ptr A') } { y with put := put', ws := upd3 y.ws k ws', rs := fun _ => 22 } := by
  refine ⟨s, pf, fun j hj => ?_, fun j hj hp => dueT (by omega) j hj, h.sl, h.sn, h.ii, h.ll⟩
  by_cases e : j = k
  · subst e
    have hh := (h.ln j hj).h2 (fun a => hl a.1)
    refine ⟨by simp [upd3_same, hp], by simp [upd3_same], fun _ => by simp only [upd3_same]; exact hkd, fun _ hk1 => ?_, fun _ => hh⟩
    simp only [upd3_same] at hk1
    simp only
    rw [hh, h1 hk1]; rfl
  · have := h.ln j hj
    refine ⟨?_, ?_, ?_, ?_, ?_⟩
    · simp only [upd3_other _ _ e]; exact this.lv
    · simp only [upd3_other _ _ e]; exact this.wv
    · simp only [upd3_other _ _ e]; exact this.kd
    · simp only [upd3_other _ _ e]; exact this.h1
    · simp only [upd3_other _ _ e]; exact this.h2
/-- How due goes on behind a step of number k. -/
theorem HQ.due (h : HQ q c B w0 wr len i x y) (hk : k < 3) (hi2 : i < len + 90) (hm : len ≤ i → i % 3 = k) {ms' : Nat → Pm} (hms : ∀ j, j ≠ k → ms' j = x.ms j) (hkk : (x.ms k).pc ≠ 0) : ∃ rs' : Nat → Int, (∀ j, j < 3 → (ms' j).pc ≠ 0 → Due len (i + 1 : Nat) j (rs' j)) ∧
    ∀ {n : Nat} {g : Pg} {L : List Int} {ii : Int} {put : Nat} {S : List Int} {hs ws : Nat → List Int}, PN n g L ii put S ms' hs ws (upd3 y.rs k (y.rs k - 1)) → PN n g L ii put S ms' hs ws rs' := by
  by_cases hi : i + 1 ≤ len
  · exact ⟨fun _ => 22, fun j hj _ => dueT (by omega) j hj, fun p => p.top⟩
  · refine ⟨upd3 y.rs k (y.rs k - 1), fun j hj hp => ?_, fun p => p⟩
    have hmk := hm (by omega)
    by_cases e : j = k
    · subst e
      rw [upd3_same]
      have := due_own hj (h.du j hj hkk) (by omega) (by omega)
      simpa using this
    · rw [upd3_other _ _ e]
      rw [hms j e] at hp
      have := due_other hj (h.du j hj hp) (by omega) (by omega)
      simpa using this
/-- It goes on. -/
theorem HQ.on {O' D' : Nat → Prop} {h' : List Int} (h : HQ q c B w0 wr len i x y) (hk : k < 3) (hl : x.lv k = true) (hi2 : i < len + 90) (hm : len ≤ i → i % 3 = k)
    (s : SQ q c B w0 w' (4 * (i : Int) + 1) { x with L := (pstp (gOf c) x.L (x.ms k)).1, ms := upd3 x.ms k (pstp (gOf c) x.L (x.ms k)).2, O := upd3 x.O k O', Dq := upd3 x.Dq k D' })
    (hp : (pstp (gOf c) x.L (x.ms k)).2.pc ≠ 0) (hh : (x.ms k).kind ≠ 1 → h' = y.hs k)
    (pf : PN (pkn c) (gOf c) (pstp (gOf c) x.L (x.ms k)).1 (i + 1) y.put y.S (upd3 x.ms k (pstp (gOf c) x.L (x.ms k)).2) (upd3 y.hs k h') y.ws (upd3 y.rs k (y.rs k - 1))) :
    ∃ x' y', y'.put = y.put ∧ HQ q c B w0 w' len (i + 1) x' y' := by
  obtain ⟨rs', hd, hpn⟩ := h.due (ms' := upd3 x.ms k (pstp (gOf c) x.L (x.ms k)).2) hk hi2 hm (fun j e => upd3_other _ _ e) (h.live hk hl)
  refine ⟨_, { y with hs := upd3 y.hs k h', rs := rs' }, rfl, s.more (by omega), by have := hpn pf; simpa using this, fun j hj => ?_, hd, h.sl, h.sn, ⟨by omega, h.ii.2⟩, by rw [pstp_len]; exact h.ll⟩
  have hkd := pstp_kind (gOf c) x.L (x.ms k)
  have l := h.ln j hj
  by_cases e : j = k
  · subst e
    refine ⟨by simp only [upd3_same]; rw [hl]; simp [hp], l.wv, fun a => ?_, fun a b => ?_, fun a => ?_⟩
    · simp only [upd3_same]; rw [hkd]; exact l.kd a
    · simp only [upd3_same] at b; rw [hkd] at b; exact l.h1 a b
    · simp only [upd3_same] at a ⊢
      rw [hkd] at a
      have hne : (x.ms j).kind ≠ 1 := fun e => a ⟨hl, e⟩
      rw [hh hne]; exact l.h2 a
  · refine ⟨?_, l.wv, ?_, ?_, ?_⟩
    · simp only [upd3_other _ _ e]; exact l.lv
    · simp only [upd3_other _ _ e]; exact l.kd
    · simp only [upd3_other _ _ e]; exact l.h1
    · simp only [upd3_other _ _ e]; exact l.h2
/-- It is finished, and gone. -/
theorem HQ.gone {L' : List Int} {m' : Pm} {O' D' : Nat → Prop} {hv' : Int} {S' : List Int} {se' : List Int} {h' ws' : List Int} (h : HQ q c B w0 wr len i x y) (hk : k < 3) (hl : x.lv k = true) (hi2 : i < len + 90) (hm : len ≤ i → i % 3 = k)
    (s : SQ q c B w0 w' (4 * (i : Int) + 4) { x with L := L', ms := upd3 x.ms k m', O := upd3 x.O k O', Dq := upd3 x.Dq k D', hv := upd3 x.hv k hv', se := se', wv := upd3 x.wv k (.pointer none), lv := upd3 x.lv k false })
    (hp : m'.pc = 0) (hL : L'.length = x.L.length) (hh : hv' = h'.headD 0) (hs1 : se'.length = 400) (hs2 : ∀ t, t < 400 → se'.getD t 0 = (S'.count (t : Int) : Int))
    (pf : PN (pkn c) (gOf c) L' (i + 1) y.put S' (upd3 x.ms k m') (upd3 y.hs k h') (upd3 y.ws k ws') (upd3 y.rs k (y.rs k - 1))) :
    ∃ x' y', y'.put = y.put ∧ HQ q c B w0 w' len (i + 1) x' y' := by
  obtain ⟨rs', hd, hpn⟩ := h.due (ms' := upd3 x.ms k m') hk hi2 hm (fun j e => upd3_other _ _ e) (h.live hk hl)
  refine ⟨_, { y with S := S', hs := upd3 y.hs k h', ws := upd3 y.ws k ws', rs := rs' }, rfl, s.more (by omega), by have := hpn pf; simpa using this, fun j hj => ?_, hd, hs1, hs2, ⟨by omega, h.ii.2⟩, by rw [hL]; exact h.ll⟩
  have l := h.ln j hj
  by_cases e : j = k
  · subst e
    refine ⟨by simp [upd3_same, hp], by simp [upd3_same], fun a => ?_, fun a => ?_, fun _ => ?_⟩
    · simp [upd3_same] at a
    · simp [upd3_same] at a
    · simp only [upd3_same]; exact hh
  · refine ⟨?_, ?_, ?_, ?_, ?_⟩
    · simp only [upd3_other _ _ e]; exact l.lv
    · simp only [upd3_other _ _ e]; exact l.wv
    · simp only [upd3_other _ _ e]; exact l.kd
    · simp only [upd3_other _ _ e]; exact l.h1
    · simp only [upd3_other _ _ e]; exact l.h2
/-- In the end all rest. -/
theorem HQ.ended (h : HQ q c B w0 wr len (len + 90) x y) : ∃ Q, heldL c x.L = Q ∧ (y.S ++ Q).Perm (En y.put) ∧ (∀ t ∈ Q, 1 ≤ t ∧ t ≤ (y.put : Int)) ∧ Q.length ≤ pkn c := by
  have h0 : ∀ j, j < 3 → (x.ms j).pc = 0 := fun j hj => by
    by_cases e : (x.ms j).pc = 0
    · exact e
    · exact (due_end (len := (len : Int)) hj (by simpa using h.du j hj e) (h.pf.left hj e)).elim
  obtain ⟨T, Q, hst, hp, hq, hl⟩ := h.pf.end h0
  have G : Gp (pkn c) x.L.length (gOf c) := Pw.G h.pf
  refine ⟨Q.map (tw (gOf c) x.L), ?_, hp, fun t ht => ?_, by simpa using hl⟩
  · rw [heldL_stk h.so.po.ok hst]
    exact heldT_one G (fun z hz => ⟨(hq z hz).1, hst.rng z hz⟩)
  · obtain ⟨z, hz, rfl⟩ := List.mem_map.1 ht
    exact (hq z hz).2
end
end Go.Proofs.Ytbpfkhpnfkbacaa
