
import Derived.Test.YthoiaffeenhfgaaGreatJ6
namespace Go.Proofs.YthoiaffeenhfgaaGreat.Lay
open Go.RowKit
set_option linter.unusedVariables false
def packN (c : Cfg) : Int := nodesN c + 2 * c.mr + c.mu + c.a * piecesOf 1 c.ch + c.b * piecesOf 2 c.ch + c.c * piecesOf 4 c.ch + c.d * piecesOf 8 c.ch + c.e * piecesOf 16 c.ch
def at2 (c : Cfg) : Int := 6 + c.mu
def at3 (c : Cfg) : Int := 11 + c.mu
def at4 (c : Cfg) : Int := at3 c + c.mr * (2 + c.dq)
def at50 (c : Cfg) : Int := at4 c + packN c * 6
def at51 (c : Cfg) : Int := at50 c + c.a * 5
def at52 (c : Cfg) : Int := at51 c + c.b * 6
def at53 (c : Cfg) : Int := at52 c + c.c * 8
def at54 (c : Cfg) : Int := at53 c + c.d * 12
def at55 (c : Cfg) : Int := at54 c + c.e * 20
theorem pieces_bd (n d : Int) (h0 : 0 ≤ n) (h : 1 ≤ d) : 0 ≤ piecesOf n d ∧ piecesOf n d ≤ n := by
  unfold piecesOf; rw [if_neg (by omega)]
  refine ⟨Int.ediv_nonneg (by omega) (by omega), ?_⟩
  have h2 : n * 1 ≤ n * d := Int.mul_le_mul_of_nonneg_left h h0
  have : (n + d - 1) / d < n + 1 := Int.ediv_lt_of_lt_mul (by omega) (by rw [Int.add_mul]; omega)
  omega
structure Bds (c : Cfg) : Prop where
  n0 : 1 ≤ nodesN c
  n1 : nodesN c ≤ 60
  p0 : 1 ≤ packN c
  p1 : packN c ≤ 1000
  t3 : 0 ≤ at3 c
  t3' : at3 c ≤ 15
  t4 : 0 ≤ at4 c
  t4' : at4 c ≤ 60
  t50 : 0 ≤ at50 c
  t50' : at50 c ≤ 6100
  t51 : 0 ≤ at51 c
  t51' : at51 c ≤ 6200
  t52 : 0 ≤ at52 c
  t52' : at52 c ≤ 6300
  t53 : 0 ≤ at53 c
  t53' : at53 c ≤ 6400
  t54 : 0 ≤ at54 c
  t54' : at54 c ≤ 6600
  t55 : at50 c < at55 c
  t55' : at55 c ≤ 7000
theorem bds {c : Cfg} (h : OkC c) : Bds c := by
  obtain ⟨a0, a1, b0, b1, c0, c1, d0, d1, e0, e1, s0, k0, k1, u0, u1, q0, q1, h0, h1, f0, f1, r0, r1, w0, w1⟩ := h
  obtain ⟨x0, x1⟩ := pieces_bd 1 c.ch (by omega) h0
  obtain ⟨y0, y1⟩ := pieces_bd 2 c.ch (by omega) h0
  obtain ⟨z0, z1⟩ := pieces_bd 4 c.ch (by omega) h0
  obtain ⟨u0', u1'⟩ := pieces_bd 8 c.ch (by omega) h0
  obtain ⟨v0, v1⟩ := pieces_bd 16 c.ch (by omega) h0
  obtain ⟨m0, m1⟩ := mul_bd a0 a1 x0 x1
  obtain ⟨m2, m3⟩ := mul_bd b0 b1 y0 y1
  obtain ⟨m4, m5⟩ := mul_bd c0 c1 z0 z1
  obtain ⟨m6, m7⟩ := mul_bd d0 d1 u0' u1'
  obtain ⟨m8, m9⟩ := mul_bd e0 e1 v0 v1
  obtain ⟨l0, l1⟩ := mul_bd (by omega : 0 ≤ c.mr) k1 (by omega : 0 ≤ 2 + c.dq) (by omega : 2 + c.dq ≤ 10)
  have hn : 1 ≤ nodesN c ∧ nodesN c ≤ 60 := by unfold nodesN; omega
  have hp : 1 ≤ packN c ∧ packN c ≤ 1000 := by
    unfold packN
    generalize c.a * piecesOf 1 c.ch = m at *
    generalize c.b * piecesOf 2 c.ch = m at *
    generalize c.c * piecesOf 4 c.ch = m at *
    generalize c.d * piecesOf 8 c.ch = m at *
    generalize c.e * piecesOf 16 c.ch = m at *
    omega
  have h3 : at3 c = 11 + c.mu := rfl
  have h4 : at4 c = at3 c + c.mr * (2 + c.dq) := rfl
  have h50 : at50 c = at4 c + packN c * 6 := rfl
  have h51 : at51 c = at50 c + c.a * 5 := rfl
  have h52 : at52 c = at51 c + c.b * 6 := rfl
  have h53 : at53 c = at52 c + c.c * 8 := rfl
  have h54 : at54 c = at53 c + c.d * 12 := rfl
  have h55 : at55 c = at54 c + c.e * 20 := rfl
  generalize c.mr * (2 + c.dq) = l at *
  refine ⟨by omega, by omega, by omega, by omega, by omega, by omega, by omega, by omega, by omega, by omega, by omega, by omega, by omega, by omega, by omega, by omega, by omega, by omega, by omega, by omega⟩
def mapL (c : Cfg) : List Int := [c.a, c.b, c.c, c.d, c.e, c.mr, c.mu, c.dq, c.ch, c.bf, c.rt, c.sw,
  0, 0, 1, 6, 0,  6, 0, c.mu, 1, 0,  at2 c, 0, 5, 1, 0,  at3 c, 0, c.mr, 2, c.dq,  at4 c, 1, packN c, 2, 4,
  at50 c, 1, c.a, 4, 1,  at51 c, 1 + c.a, c.b, 4, 2,  at52 c, 1 + c.a + c.b, c.c, 4, 4,  at53 c, 1 + c.a + c.b + c.c, c.d, 4, 8,  at54 c, 1 + c.a + c.b + c.c + c.d, c.e, 4, 16]
def IsMap (w : World) (N : Nat) (c : Cfg) : Prop := N < w.heap.size ∧ ∀ i, i < 62 → w.cell? ⟨N, i, none⟩ = some (.int .i64 ((mapL c).getD i 0))
theorem IsMap.below {w w' : World} {N : Nat} {c : Cfg} (h : IsMap w N c) (hb : Below w.heap.size w w') : IsMap w' N c :=
  ⟨Nat.lt_of_lt_of_le h.1 hb.size, fun i hi => (hb.cell (p := ⟨N, i, none⟩) h.1).trans (h.2 i hi)⟩
theorem IsMap.drew {w : World} {N : Nat} {c : Cfg} (h : IsMap w N c) : IsMap w.drew N c := h.below ((Below.refl _ _).drew)
theorem IsMap.alloc {w : World} {N : Nat} {c : Cfg} (h : IsMap w N c) (o : Obj) : IsMap (w.alloc o) N c := h.below (below_alloc0 (Below.refl _ _) o)
abbrev mapP (N : Nat) : Value := .pointer (some ⟨N, 0, none⟩)
theorem laid_any (N : Nat) (w : World) : Calls Tryz.prog 65 #[mapP N] w fun e w' => e = .returned (mapP N) ∧ w = w' := by
  go_enter Tryz.func65, Tryz.ntmps65
  go_wp2
  go_ret
  exact ⟨rfl, rfl⟩
theorem ok12 {c : Cfg} (h : OkC c) : RowOk 0 0 1 6 0 := by
  have := bds h
  obtain ⟨⟩ := this
  obtain ⟨⟩ := h
  have e2 : at2 c = 6 + c.mu := rfl
  exact ⟨by omega, by omega, by omega, by omega, by omega, by omega, by omega, by omega, by omega, by omega⟩
theorem row12 {w : World} {N : Nat} {c : Cfg} (h : IsMap w N c) : w.cell? ⟨N, 12, none⟩ = some (.int .i64 0) ∧ w.cell? ⟨N, 13, none⟩ = some (.int .i64 0) ∧ w.cell? ⟨N, 14, none⟩ = some (.int .i64 1) ∧ w.cell? ⟨N, 15, none⟩ = some (.int .i64 6) ∧ w.cell? ⟨N, 16, none⟩ = some (.int .i64 0) :=
  ⟨h.2 12 (by omega), h.2 13 (by omega), h.2 14 (by omega), h.2 15 (by omega), h.2 16 (by omega)⟩
theorem ok17 {c : Cfg} (h : OkC c) : RowOk 6 0 c.mu 1 0 := by
  have := bds h
  obtain ⟨⟩ := this
  obtain ⟨⟩ := h
  have e2 : at2 c = 6 + c.mu := rfl
  exact ⟨by omega, by omega, by omega, by omega, by omega, by omega, by omega, by omega, by omega, by omega⟩
theorem ok22 {c : Cfg} (h : OkC c) : RowOk (at2 c) 0 5 1 0 := by
  have := bds h
  obtain ⟨⟩ := this
  obtain ⟨⟩ := h
  have e2 : at2 c = 6 + c.mu := rfl
  exact ⟨by omega, by omega, by omega, by omega, by omega, by omega, by omega, by omega, by omega, by omega⟩
theorem row22 {w : World} {N : Nat} {c : Cfg} (h : IsMap w N c) : w.cell? ⟨N, 22, none⟩ = some (.int .i64 (at2 c)) ∧ w.cell? ⟨N, 23, none⟩ = some (.int .i64 0) ∧ w.cell? ⟨N, 24, none⟩ = some (.int .i64 5) ∧ w.cell? ⟨N, 25, none⟩ = some (.int .i64 1) ∧ w.cell? ⟨N, 26, none⟩ = some (.int .i64 0) :=
  ⟨h.2 22 (by omega), h.2 23 (by omega), h.2 24 (by omega), h.2 25 (by omega), h.2 26 (by omega)⟩
theorem ok27 {c : Cfg} (h : OkC c) : RowOk (at3 c) 0 c.mr 2 c.dq := by
  have := bds h
  obtain ⟨⟩ := this
  obtain ⟨⟩ := h
  have e2 : at2 c = 6 + c.mu := rfl
  exact ⟨by omega, by omega, by omega, by omega, by omega, by omega, by omega, by omega, by omega, by omega⟩
theorem row27 {w : World} {N : Nat} {c : Cfg} (h : IsMap w N c) : w.cell? ⟨N, 27, none⟩ = some (.int .i64 (at3 c)) ∧ w.cell? ⟨N, 28, none⟩ = some (.int .i64 0) ∧ w.cell? ⟨N, 29, none⟩ = some (.int .i64 c.mr) ∧ w.cell? ⟨N, 30, none⟩ = some (.int .i64 2) ∧ w.cell? ⟨N, 31, none⟩ = some (.int .i64 c.dq) :=
  ⟨h.2 27 (by omega), h.2 28 (by omega), h.2 29 (by omega), h.2 30 (by omega), h.2 31 (by omega)⟩
theorem ok32 {c : Cfg} (h : OkC c) : RowOk (at4 c) 1 (packN c) 2 4 := by
  have := bds h
  obtain ⟨⟩ := this
  obtain ⟨⟩ := h
  have e2 : at2 c = 6 + c.mu := rfl
  exact ⟨by omega, by omega, by omega, by omega, by omega, by omega, by omega, by omega, by omega, by omega⟩
theorem row32 {w : World} {N : Nat} {c : Cfg} (h : IsMap w N c) : w.cell? ⟨N, 32, none⟩ = some (.int .i64 (at4 c)) ∧ w.cell? ⟨N, 33, none⟩ = some (.int .i64 1) ∧ w.cell? ⟨N, 34, none⟩ = some (.int .i64 (packN c)) ∧ w.cell? ⟨N, 35, none⟩ = some (.int .i64 2) ∧ w.cell? ⟨N, 36, none⟩ = some (.int .i64 4) :=
  ⟨h.2 32 (by omega), h.2 33 (by omega), h.2 34 (by omega), h.2 35 (by omega), h.2 36 (by omega)⟩
theorem ok37 {c : Cfg} (h : OkC c) : RowOk (at50 c) 1 c.a 4 1 := by
  have := bds h
  obtain ⟨⟩ := this
  obtain ⟨⟩ := h
  have e2 : at2 c = 6 + c.mu := rfl
  exact ⟨by omega, by omega, by omega, by omega, by omega, by omega, by omega, by omega, by omega, by omega⟩
theorem row37 {w : World} {N : Nat} {c : Cfg} (h : IsMap w N c) : w.cell? ⟨N, 37, none⟩ = some (.int .i64 (at50 c)) ∧ w.cell? ⟨N, 38, none⟩ = some (.int .i64 1) ∧ w.cell? ⟨N, 39, none⟩ = some (.int .i64 c.a) ∧ w.cell? ⟨N, 40, none⟩ = some (.int .i64 4) ∧ w.cell? ⟨N, 41, none⟩ = some (.int .i64 1) :=
  ⟨h.2 37 (by omega), h.2 38 (by omega), h.2 39 (by omega), h.2 40 (by omega), h.2 41 (by omega)⟩
theorem ok42 {c : Cfg} (h : OkC c) : RowOk (at51 c) (1 + c.a) c.b 4 2 := by
  have := bds h
  obtain ⟨⟩ := this
  obtain ⟨⟩ := h
  have e2 : at2 c = 6 + c.mu := rfl
  exact ⟨by omega, by omega, by omega, by omega, by omega, by omega, by omega, by omega, by omega, by omega⟩
theorem row42 {w : World} {N : Nat} {c : Cfg} (h : IsMap w N c) : w.cell? ⟨N, 42, none⟩ = some (.int .i64 (at51 c)) ∧ w.cell? ⟨N, 43, none⟩ = some (.int .i64 (1 + c.a)) ∧ w.cell? ⟨N, 44, none⟩ = some (.int .i64 c.b) ∧ w.cell? ⟨N, 45, none⟩ = some (.int .i64 4) ∧ w.cell? ⟨N, 46, none⟩ = some (.int .i64 2) :=
  ⟨h.2 42 (by omega), h.2 43 (by omega), h.2 44 (by omega), h.2 45 (by omega), h.2 46 (by omega)⟩
theorem ok47 {c : Cfg} (h : OkC c) : RowOk (at52 c) (1 + c.a + c.b) c.c 4 4 := by
  have := bds h
  obtain ⟨⟩ := this
  obtain ⟨⟩ := h
  have e2 : at2 c = 6 + c.mu := rfl
  exact ⟨by omega, by omega, by omega, by omega, by omega, by omega, by omega, by omega, by omega, by omega⟩
theorem row47 {w : World} {N : Nat} {c : Cfg} (h : IsMap w N c) : w.cell? ⟨N, 47, none⟩ = some (.int .i64 (at52 c)) ∧ w.cell? ⟨N, 48, none⟩ = some (.int .i64 (1 + c.a + c.b)) ∧ w.cell? ⟨N, 49, none⟩ = some (.int .i64 c.c) ∧ w.cell? ⟨N, 50, none⟩ = some (.int .i64 4) ∧ w.cell? ⟨N, 51, none⟩ = some (.int .i64 4) :=
  ⟨h.2 47 (by omega), h.2 48 (by omega), h.2 49 (by omega), h.2 50 (by omega), h.2 51 (by omega)⟩
theorem ok52 {c : Cfg} (h : OkC c) : RowOk (at53 c) (1 + c.a + c.b + c.c) c.d 4 8 := by
  have := bds h
  obtain ⟨⟩ := this
  obtain ⟨⟩ := h
  have e2 : at2 c = 6 + c.mu := rfl
  exact ⟨by omega, by omega, by omega, by omega, by omega, by omega, by omega, by omega, by omega, by omega⟩
theorem row52 {w : World} {N : Nat} {c : Cfg} (h : IsMap w N c) : w.cell? ⟨N, 52, none⟩ = some (.int .i64 (at53 c)) ∧ w.cell? ⟨N, 53, none⟩ = some (.int .i64 (1 + c.a + c.b + c.c)) ∧ w.cell? ⟨N, 54, none⟩ = some (.int .i64 c.d) ∧ w.cell? ⟨N, 55, none⟩ = some (.int .i64 4) ∧ w.cell? ⟨N, 56, none⟩ = some (.int .i64 8) :=
  ⟨h.2 52 (by omega), h.2 53 (by omega), h.2 54 (by omega), h.2 55 (by omega), h.2 56 (by omega)⟩
theorem ok57 {c : Cfg} (h : OkC c) : RowOk (at54 c) (1 + c.a + c.b + c.c + c.d) c.e 4 16 := by
  have := bds h
  obtain ⟨⟩ := this
  obtain ⟨⟩ := h
  have e2 : at2 c = 6 + c.mu := rfl
  exact ⟨by omega, by omega, by omega, by omega, by omega, by omega, by omega, by omega, by omega, by omega⟩
theorem row57 {w : World} {N : Nat} {c : Cfg} (h : IsMap w N c) : w.cell? ⟨N, 57, none⟩ = some (.int .i64 (at54 c)) ∧ w.cell? ⟨N, 58, none⟩ = some (.int .i64 (1 + c.a + c.b + c.c + c.d)) ∧ w.cell? ⟨N, 59, none⟩ = some (.int .i64 c.e) ∧ w.cell? ⟨N, 60, none⟩ = some (.int .i64 4) ∧ w.cell? ⟨N, 61, none⟩ = some (.int .i64 16) :=
  ⟨h.2 57 (by omega), h.2 58 (by omega), h.2 59 (by omega), h.2 60 (by omega), h.2 61 (by omega)⟩
theorem phase_w {c : Cfg} (N : Nat) (hc : OkC c) (w : World) (hm : IsMap w N c) : Calls Tryz.prog 37 #[mapP N] w fun e w' => e = .returned (.int .i64 (wordL 0 0 1 6 0 0 0)) ∧ Below w.heap.size w w' := by
  obtain ⟨r0, r1, r2, r3, r4⟩ := row12 hm
  have HK := Lib.hid (ok12 hc)
  clear hm hc
  go_enter Tryz.func37, Tryz.ntmps37
  go_wp2_with (first
    | (go_at_call 65; (with_reducible refine (laid_any _ _).mono ?_); rintro r w1 ⟨rfl, rfl⟩)
    | (go_at_call 71; (with_reducible refine (word_any _ _ HK.out (by decide) (by decide) _).mono ?_); rintro r w1 ⟨rfl, hb1⟩))
  go_ret
  exact ⟨rfl, hb1⟩
theorem work_w {c : Cfg} (N : Nat) (hc : OkC c) (w : World) (hm : IsMap w N c) : Calls Tryz.prog 29 #[mapP N] w fun e w' => e = .returned (.int .i64 (wordL 0 0 1 6 0 0 1)) ∧ Below w.heap.size w w' := by
  obtain ⟨r0, r1, r2, r3, r4⟩ := row12 hm
  have HK := Lib.hid (ok12 hc)
  clear hm hc
  go_enter Tryz.func29, Tryz.ntmps29
  go_wp2_with (first
    | (go_at_call 65; (with_reducible refine (laid_any _ _).mono ?_); rintro r w1 ⟨rfl, rfl⟩)
    | (go_at_call 71; (with_reducible refine (word_any _ _ HK.out (by decide) (by decide) _).mono ?_); rintro r w1 ⟨rfl, hb1⟩))
  go_ret
  exact ⟨rfl, hb1⟩
theorem sweep_w {c : Cfg} (N : Nat) (hc : OkC c) (w : World) (hm : IsMap w N c) : Calls Tryz.prog 62 #[mapP N] w fun e w' => e = .returned (.int .i64 (wordL 0 0 1 6 0 0 2)) ∧ Below w.heap.size w w' := by
  obtain ⟨r0, r1, r2, r3, r4⟩ := row12 hm
  have HK := Lib.hid (ok12 hc)
  clear hm hc
  go_enter Tryz.func62, Tryz.ntmps62
  go_wp2_with (first
    | (go_at_call 65; (with_reducible refine (laid_any _ _).mono ?_); rintro r w1 ⟨rfl, rfl⟩)
    | (go_at_call 71; (with_reducible refine (word_any _ _ HK.out (by decide) (by decide) _).mono ?_); rintro r w1 ⟨rfl, hb1⟩))
  go_ret
  exact ⟨rfl, hb1⟩
theorem done_w {c : Cfg} (N : Nat) (hc : OkC c) (w : World) (hm : IsMap w N c) : Calls Tryz.prog 36 #[mapP N] w fun e w' => e = .returned (.int .i64 (wordL 0 0 1 6 0 0 3)) ∧ Below w.heap.size w w' := by
  obtain ⟨r0, r1, r2, r3, r4⟩ := row12 hm
  have HK := Lib.hid (ok12 hc)
  clear hm hc
  go_enter Tryz.func36, Tryz.ntmps36
  go_wp2_with (first
    | (go_at_call 65; (with_reducible refine (laid_any _ _).mono ?_); rintro r w1 ⟨rfl, rfl⟩)
    | (go_at_call 71; (with_reducible refine (word_any _ _ HK.out (by decide) (by decide) _).mono ?_); rintro r w1 ⟨rfl, hb1⟩))
  go_ret
  exact ⟨rfl, hb1⟩
theorem pool_w {c : Cfg} (N : Nat) (hc : OkC c) (w : World) (hm : IsMap w N c) : Calls Tryz.prog 152 #[mapP N] w fun e w' => e = .returned (.int .i64 (wordL 0 0 1 6 0 0 4)) ∧ Below w.heap.size w w' := by
  obtain ⟨r0, r1, r2, r3, r4⟩ := row12 hm
  have HK := Lib.hid (ok12 hc)
  clear hm hc
  go_enter Tryz.func152, Tryz.ntmps152
  go_wp2_with (first
    | (go_at_call 65; (with_reducible refine (laid_any _ _).mono ?_); rintro r w1 ⟨rfl, rfl⟩)
    | (go_at_call 71; (with_reducible refine (word_any _ _ HK.out (by decide) (by decide) _).mono ?_); rintro r w1 ⟨rfl, hb1⟩))
  go_ret
  exact ⟨rfl, hb1⟩
theorem spare_w {c : Cfg} (N : Nat) (hc : OkC c) (w : World) (hm : IsMap w N c) : Calls Tryz.prog 52 #[mapP N] w fun e w' => e = .returned (.int .i64 (wordL 0 0 1 6 0 0 5)) ∧ Below w.heap.size w w' := by
  obtain ⟨r0, r1, r2, r3, r4⟩ := row12 hm
  have HK := Lib.hid (ok12 hc)
  clear hm hc
  go_enter Tryz.func52, Tryz.ntmps52
  go_wp2_with (first
    | (go_at_call 65; (with_reducible refine (laid_any _ _).mono ?_); rintro r w1 ⟨rfl, rfl⟩)
    | (go_at_call 71; (with_reducible refine (word_any _ _ HK.out (by decide) (by decide) _).mono ?_); rintro r w1 ⟨rfl, hb1⟩))
  go_ret
  exact ⟨rfl, hb1⟩
theorem head_w {c : Cfg} (N : Nat) (i : Int) (hi : (Lit.int .i64 i).wf = true) (hc : OkC c) (w : World) (hm : IsMap w N c) : Calls Tryz.prog 50 #[mapP N, .int .i64 i] w fun e w' => e = .returned (.int .i64 (wordL (at2 c) 0 5 1 0 i 0)) ∧ Below w.heap.size w w' := by
  obtain ⟨r0, r1, r2, r3, r4⟩ := row22 hm
  have HK := Lib.hid (ok22 hc)
  have HI := Lib.hid hi; clear hi
  clear hm hc
  go_enter Tryz.func50, Tryz.ntmps50
  go_wp2_with (first
    | (go_at_call 65; (with_reducible refine (laid_any _ _).mono ?_); rintro r w1 ⟨rfl, rfl⟩)
    | (go_at_call 71; (with_reducible refine (word_any _ _ HK.out HI.out (by decide) _).mono ?_); rintro r w1 ⟨rfl, hb1⟩))
  go_ret
  exact ⟨rfl, hb1⟩
theorem top_w {c : Cfg} (N : Nat) (i : Int) (hi : (Lit.int .i64 i).wf = true) (hc : OkC c) (w : World) (hm : IsMap w N c) : Calls Tryz.prog 55 #[mapP N, .int .i64 i] w fun e w' => e = .returned (.int .i64 (wordL (at3 c) 0 c.mr 2 c.dq i 0)) ∧ Below w.heap.size w w' := by
  obtain ⟨r0, r1, r2, r3, r4⟩ := row27 hm
  have HK := Lib.hid (ok27 hc)
  have HI := Lib.hid hi; clear hi
  clear hm hc
  go_enter Tryz.func55, Tryz.ntmps55
  go_wp2_with (first
    | (go_at_call 65; (with_reducible refine (laid_any _ _).mono ?_); rintro r w1 ⟨rfl, rfl⟩)
    | (go_at_call 71; (with_reducible refine (word_any _ _ HK.out HI.out (by decide) _).mono ?_); rintro r w1 ⟨rfl, hb1⟩))
  go_ret
  exact ⟨rfl, hb1⟩
theorem bottom_w {c : Cfg} (N : Nat) (i : Int) (hi : (Lit.int .i64 i).wf = true) (hc : OkC c) (w : World) (hm : IsMap w N c) : Calls Tryz.prog 88 #[mapP N, .int .i64 i] w fun e w' => e = .returned (.int .i64 (wordL (at3 c) 0 c.mr 2 c.dq i 1)) ∧ Below w.heap.size w w' := by
  obtain ⟨r0, r1, r2, r3, r4⟩ := row27 hm
  have HK := Lib.hid (ok27 hc)
  have HI := Lib.hid hi; clear hi
  clear hm hc
  go_enter Tryz.func88, Tryz.ntmps88
  go_wp2_with (first
    | (go_at_call 65; (with_reducible refine (laid_any _ _).mono ?_); rintro r w1 ⟨rfl, rfl⟩)
    | (go_at_call 71; (with_reducible refine (word_any _ _ HK.out HI.out (by decide) _).mono ?_); rintro r w1 ⟨rfl, hb1⟩))
  go_ret
  exact ⟨rfl, hb1⟩
theorem many_w {c : Cfg} (N : Nat) (i : Int) (hi : (Lit.int .i64 i).wf = true) (hc : OkC c) (w : World) (hm : IsMap w N c) : Calls Tryz.prog 149 #[mapP N, .int .i64 i] w fun e w' => e = .returned (.int .i64 (wordL (at4 c) 1 (packN c) 2 4 i 0)) ∧ Below w.heap.size w w' := by
  obtain ⟨r0, r1, r2, r3, r4⟩ := row32 hm
  have HK := Lib.hid (ok32 hc)
  have HI := Lib.hid hi; clear hi
  clear hm hc
  go_enter Tryz.func149, Tryz.ntmps149
  go_wp2_with (first
    | (go_at_call 65; (with_reducible refine (laid_any _ _).mono ?_); rintro r w1 ⟨rfl, rfl⟩)
    | (go_at_call 71; (with_reducible refine (word_any _ _ HK.out HI.out (by decide) _).mono ?_); rintro r w1 ⟨rfl, hb1⟩))
  go_ret
  exact ⟨rfl, hb1⟩
theorem link_w {c : Cfg} (N : Nat) (i : Int) (hi : (Lit.int .i64 i).wf = true) (hc : OkC c) (w : World) (hm : IsMap w N c) : Calls Tryz.prog 53 #[mapP N, .int .i64 i] w fun e w' => e = .returned (.int .i64 (wordL (at4 c) 1 (packN c) 2 4 i 1)) ∧ Below w.heap.size w w' := by
  obtain ⟨r0, r1, r2, r3, r4⟩ := row32 hm
  have HK := Lib.hid (ok32 hc)
  have HI := Lib.hid hi; clear hi
  clear hm hc
  go_enter Tryz.func53, Tryz.ntmps53
  go_wp2_with (first
    | (go_at_call 65; (with_reducible refine (laid_any _ _).mono ?_); rintro r w1 ⟨rfl, rfl⟩)
    | (go_at_call 71; (with_reducible refine (word_any _ _ HK.out HI.out (by decide) _).mono ?_); rintro r w1 ⟨rfl, hb1⟩))
  go_ret
  exact ⟨rfl, hb1⟩
theorem entry_w {c : Cfg} (N : Nat) (i j : Int) (hi : (Lit.int .i64 i).wf = true) (hc : OkC c) (w : World) (hm : IsMap w N c) : Calls Tryz.prog 89 #[mapP N, .int .i64 i, .int .i64 j] w fun e w' => e = .returned (.int .i64 (itemL (at3 c) 0 c.mr 2 c.dq i j)) ∧ Below w.heap.size w w' := by
  obtain ⟨r0, r1, r2, r3, r4⟩ := row27 hm
  have HK := Lib.hid (ok27 hc)
  have HI := Lib.hid hi; clear hi
  clear hm hc
  go_enter Tryz.func89, Tryz.ntmps89
  go_wp2_with (first
    | (go_at_call 65; (with_reducible refine (laid_any _ _).mono ?_); rintro r w1 ⟨rfl, rfl⟩)
    | (go_at_call 69; (with_reducible refine (item_any _ _ HK.out HI.out _).mono ?_); rintro r w1 ⟨rfl, hb1⟩))
  go_ret
  exact ⟨rfl, hb1⟩
theorem task_w {c : Cfg} (N : Nat) (i j : Int) (hi : (Lit.int .i64 i).wf = true) (hc : OkC c) (w : World) (hm : IsMap w N c) : Calls Tryz.prog 132 #[mapP N, .int .i64 i, .int .i64 j] w fun e w' => e = .returned (.int .i64 (itemL (at4 c) 1 (packN c) 2 4 i j)) ∧ Below w.heap.size w w' := by
  obtain ⟨r0, r1, r2, r3, r4⟩ := row32 hm
  have HK := Lib.hid (ok32 hc)
  have HI := Lib.hid hi; clear hi
  clear hm hc
  go_enter Tryz.func132, Tryz.ntmps132
  go_wp2_with (first
    | (go_at_call 65; (with_reducible refine (laid_any _ _).mono ?_); rintro r w1 ⟨rfl, rfl⟩)
    | (go_at_call 69; (with_reducible refine (item_any _ _ HK.out HI.out _).mono ?_); rintro r w1 ⟨rfl, hb1⟩))
  go_ret
  exact ⟨rfl, hb1⟩
end Go.Proofs.YthoiaffeenhfgaaGreat.Lay
