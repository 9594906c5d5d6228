/-
  The rounds of the method block of dromondref05.Form, as a loop alone. Conditions: those of block.
-/
import Derived.Test.YtfahmbkeibeceaaDoorTc
namespace Go.Proofs.YtfahmbkeibeceaaDoor
open Go.ChangeShapes Go.WideShapes Go.ChangeAt Go.RowKit Go.Great
open Sha
set_option linter.unusedVariables false

/-- The loops of a code, the outermost alone. -/
def loopsOf : Code → List Code
  | .loop c => [c]
  | .seq a b => loopsOf a ++ loopsOf b
  | .block _ c => loopsOf c
  | .scope c => loopsOf c
  | .cond _ a b => loopsOf a ++ loopsOf b
  | _ => []
/-- The rounds' loop. -/
noncomputable def refRounds : Code := ((Tryd.f25.body.bind fun c => (loopsOf c)[1]?)).getD .skip

set_option maxRecDepth 100000 in
set_option maxHeartbeats 8000000 in
theorem refLoop3_32 {w : World} {Kb : Nat} {s : St} {m : Nat → Nat} {l : List Nat} {c0 c1 c2 c5 c6 c8 c9 c10 c20 c21 c22 c23 c24 c25 c26 c27 c28 c29 c30 c31 c32 c33 c34 c35 c36 c37 c38 c39 c40 c41 c42 c43 c44 c45 c46 c47 c48 c49 c50 c51 c52 c53 c54 c55 c56 c57 c58 c59 c60 c61 c62 c63 c64 c65 c66 c67 c68 c69 c70 c71 c72 c73 c74 c75 c76 c77 c78 c79 c80 c81 c175 c176 c177 c178 c179 c180 c181 c182 c183 c184 c185 c186 c187 c188 c189 c190 b14 b15 b16 b17 b18 b19 b82 b83 b84 b85 b86 b87 b88 b89 b90 b91 b92 b93 b94 b95 b96 b97 b98 b99 b100 b101 b102 b103 b104 b105 b106 b107 b108 b109 b110 b111 b112 b113 b114 b115 b116 b117 b118 b119 b120 b121 b122 b123 b124 b125 b126 b127 b128 b129 b130 b131 b132 b133 b134 b135 b136 b137 b138 b139 b140 b141 b142 b143 b144 b145 b146 b147 b148 b149 b150 b151 b152 b153 b154 b155 b156 b157 b158 b159 b160 b161 b162 b163 b164 b165 b166 b167 b168 b169 b170 b171 b172 b173 b174 : Value} {Q0 : Exit → Act → World → Prop} {wr : World}
    (HML : RowKit.Hid (∀ i, word 32 m i < 2 ^ 32)) (HS : RowKit.Hid (s.Small 32)) (HL : RowKit.Hid (l = upTo 32 m 64))
    (HX : ∀ (d13 d14 d15 d16 d17 d18 d19 d82 d83 d84 d85 d86 d87 d88 d89 d90 d91 d92 d93 d94 d95 d96 d97 d98 d99 d100 d101 d102 d103 d104 d105 d106 d107 d108 d109 d110 d111 d112 d113 d114 d115 d116 d117 d118 d119 d120 d121 d122 d123 d124 d125 d126 d127 d128 d129 d130 d131 d132 d133 d134 d135 d136 d137 d138 d139 d140 d141 d142 d143 d144 d145 d146 d147 d148 d149 d150 d151 d152 d153 d154 d155 d156 d157 d158 d159 d160 d161 d162 d163 d164 d165 d166 d167 d168 d169 d170 d171 d172 d173 d174 : Value) (w2 : World), Bb32 w Kb l s.list (Sha.rounds 32 (kAt 32) m 64 s).list w2 → Q0 (.exit 4) ⟨List.toArray (c0 :: c1 :: c2 :: .pointer (some ⟨w.heap.size, 0, none⟩) :: .pointer (some ⟨w.heap.size + 1, 0, none⟩) :: c5 :: c6 :: .pointer (some ⟨w.heap.size + 1 + 1 + 1, 0, none⟩) :: c8 :: c9 :: c10 :: .pointer (some ⟨Kb, 0, none⟩) :: .pointer (some ⟨Kb + 1, 0, none⟩) :: d13 :: d14 :: d15 :: d16 :: d17 :: d18 :: d19 :: c20 :: c21 :: c22 :: c23 :: c24 :: c25 :: c26 :: c27 :: c28 :: c29 :: c30 :: c31 :: c32 :: c33 :: c34 :: c35 :: c36 :: c37 :: c38 :: c39 :: c40 :: c41 :: c42 :: c43 :: c44 :: c45 :: c46 :: c47 :: c48 :: c49 :: c50 :: c51 :: c52 :: c53 :: c54 :: c55 :: c56 :: c57 :: c58 :: c59 :: c60 :: c61 :: c62 :: c63 :: c64 :: c65 :: c66 :: c67 :: c68 :: c69 :: c70 :: c71 :: c72 :: c73 :: c74 :: c75 :: c76 :: c77 :: c78 :: c79 :: c80 :: c81 :: d82 :: d83 :: d84 :: d85 :: d86 :: d87 :: d88 :: d89 :: d90 :: d91 :: d92 :: d93 :: d94 :: d95 :: d96 :: d97 :: d98 :: d99 :: d100 :: d101 :: d102 :: d103 :: d104 :: d105 :: d106 :: d107 :: d108 :: d109 :: d110 :: d111 :: d112 :: d113 :: d114 :: d115 :: d116 :: d117 :: d118 :: d119 :: d120 :: d121 :: d122 :: d123 :: d124 :: d125 :: d126 :: d127 :: d128 :: d129 :: d130 :: d131 :: d132 :: d133 :: d134 :: d135 :: d136 :: d137 :: d138 :: d139 :: d140 :: d141 :: d142 :: d143 :: d144 :: d145 :: d146 :: d147 :: d148 :: d149 :: d150 :: d151 :: d152 :: d153 :: d154 :: d155 :: d156 :: d157 :: d158 :: d159 :: d160 :: d161 :: d162 :: d163 :: d164 :: d165 :: d166 :: d167 :: d168 :: d169 :: d170 :: d171 :: d172 :: d173 :: d174 :: c175 :: c176 :: c177 :: c178 :: c179 :: c180 :: c181 :: c182 :: c183 :: c184 :: c185 :: c186 :: c187 :: c188 :: c189 :: c190 :: []), []⟩ w2)
    (hR0 : Bb32 w Kb l s.list s.list wr) :
    Code.wp Tryd.prog (.loop refRounds) Q0 ⟨List.toArray (c0 :: c1 :: c2 :: .pointer (some ⟨w.heap.size, 0, none⟩) :: .pointer (some ⟨w.heap.size + 1, 0, none⟩) :: c5 :: c6 :: .pointer (some ⟨w.heap.size + 1 + 1 + 1, 0, none⟩) :: c8 :: c9 :: c10 :: .pointer (some ⟨Kb, 0, none⟩) :: .pointer (some ⟨Kb + 1, 0, none⟩) :: .int .i64 0 :: b14 :: b15 :: b16 :: b17 :: b18 :: b19 :: c20 :: c21 :: c22 :: c23 :: c24 :: c25 :: c26 :: c27 :: c28 :: c29 :: c30 :: c31 :: c32 :: c33 :: c34 :: c35 :: c36 :: c37 :: c38 :: c39 :: c40 :: c41 :: c42 :: c43 :: c44 :: c45 :: c46 :: c47 :: c48 :: c49 :: c50 :: c51 :: c52 :: c53 :: c54 :: c55 :: c56 :: c57 :: c58 :: c59 :: c60 :: c61 :: c62 :: c63 :: c64 :: c65 :: c66 :: c67 :: c68 :: c69 :: c70 :: c71 :: c72 :: c73 :: c74 :: c75 :: c76 :: c77 :: c78 :: c79 :: c80 :: c81 :: b82 :: b83 :: b84 :: b85 :: b86 :: b87 :: b88 :: b89 :: b90 :: b91 :: b92 :: b93 :: b94 :: b95 :: b96 :: b97 :: b98 :: b99 :: b100 :: b101 :: b102 :: b103 :: b104 :: b105 :: b106 :: b107 :: b108 :: b109 :: b110 :: b111 :: b112 :: b113 :: b114 :: b115 :: b116 :: b117 :: b118 :: b119 :: b120 :: b121 :: b122 :: b123 :: b124 :: b125 :: b126 :: b127 :: b128 :: b129 :: b130 :: b131 :: b132 :: b133 :: b134 :: b135 :: b136 :: b137 :: b138 :: b139 :: b140 :: b141 :: b142 :: b143 :: b144 :: b145 :: b146 :: b147 :: b148 :: b149 :: b150 :: b151 :: b152 :: b153 :: b154 :: b155 :: b156 :: b157 :: b158 :: b159 :: b160 :: b161 :: b162 :: b163 :: b164 :: b165 :: b166 :: b167 :: b168 :: b169 :: b170 :: b171 :: b172 :: b173 :: b174 :: c175 :: c176 :: c177 :: c178 :: c179 :: c180 :: c181 :: c182 :: c183 :: c184 :: c185 :: c186 :: c187 :: c188 :: c189 :: c190 :: []), []⟩ wr := by
  have HY := Lib.hid HX; clear HX
  have HR0 := Lib.hid hR0; clear hR0
  conv => arg 2; arg 1; whnf
  go_loopw [13] (fun x wr => ∃ i : Nat, i ≤ 64 ∧ x = .int .i64 (i : Nat) ∧ Bb32 w Kb l s.list (Sha.rounds 32 (kAt 32) m i s).list wr) (fun x _ => 64 - (intOf x).toNat)
  case atStart => exact ⟨0, Nat.zero_le _, rfl, HR0.out⟩
  case round =>
    obtain ⟨i, hi, rfl, hR⟩ := hrel
    have hpr : wr.cell? ⟨w.heap.size, 1, none⟩ = some (.int .i64 64) := hR.form 1
    obtain ⟨v, hv⟩ : ∃ v, v = Sha.rounds 32 (kAt 32) m i s := ⟨_, rfl⟩
    by_cases hlt : i < 64
    · have hsm : v.Small 32 := by rw [hv]; exact rounds_small i HS.out
      have hnx : Sha.rounds 32 (kAt 32) m (i + 1) s = Sha.round 32 (kAt 32 i) (word 32 m i) v := by rw [hv]; rfl
      rw [← hv] at hR
      clear hv
      obtain ⟨x, hx⟩ : ∃ x, x = word 32 m i := ⟨_, rfl⟩
      have hxl : x < 4294967296 := by rw [hx]; exact HML.out i
      have hxi : l[i]? = some x := by rw [HL.out, upTo_get _ _ _ _ (by omega), if_pos hlt, hx]
      rw [← hx] at hnx
      have hkc := hR.hk.cell (ks_get i (by omega))
      have hkl := ks_at_lt i (by omega)
      obtain ⟨kc, ekc⟩ : ∃ kc, kc = kAt 32 i := ⟨_, rfl⟩
      rw [← ekc] at hnx
      have hkcl : kc < 4294967296 := by rw [ekc, kAt]; omega
      obtain ⟨kk, hkk⟩ : ∃ kk, kk = ks.getD i 0 := ⟨_, rfl⟩
      rw [← hkk] at hkc
      have k1 : (kk : Int) / 4294967296 = (kc : Int) := by rw [ekc, kAt, ← hkk]; omega
      have k2 : IntKind.u64.wrap (kc : Int) = (kc : Int) := by rw [IntKind.wrap_u64]; omega
      have hsg : IntKind.u64.signed = false := rfl
      obtain ⟨n1, n2, n3, n4, cc, m1, m2, m12, m3, mm, r1, r0, ta, tb, tc, td, t1, u, t2, zz, z, yy, y, e1, e2, e3, e4, f1, f2, f4, f3, f5, g1, g0, p1, p2, p3, p4, p5, p6, p7, K1p, K2p, K3p, K4p, K5p, hrd⟩ := ref_parts_32 kc x v hsm hxl hkcl
      rw [hrd] at hnx
      obtain ⟨a, b', c, d, e, f, g, h⟩ := v
      simp only at *
      have K1 := Lib.hid (show ∀ X, Calls Tryd.prog 38 #[.agg #[.int .i64 32, .int .i64 64, .int .u64 2, .int .u64 13, .int .u64 22, .int .u64 6, .int .u64 11, .int .u64 25, .int .u64 7, .int .u64 18, .int .u64 3, .int .u64 17, .int .u64 19, .int .u64 10], .int .u64 (n2 : Nat)] X fun e w' => e = .returned (.int .u64 (n3 : Nat)) ∧ Below X.heap.size X w' from fun X => keepR_32 n2 n3 X K1p.1 K1p.2)
      have K2 := Lib.hid (show ∀ X, Calls Tryd.prog 38 #[.agg #[.int .i64 32, .int .i64 64, .int .u64 2, .int .u64 13, .int .u64 22, .int .u64 6, .int .u64 11, .int .u64 25, .int .u64 7, .int .u64 18, .int .u64 3, .int .u64 17, .int .u64 19, .int .u64 10], .int .u64 (td : Nat)] X fun e w' => e = .returned (.int .u64 (t1 : Nat)) ∧ Below X.heap.size X w' from fun X => keepR_32 td t1 X K2p.1 K2p.2)
      have K3 := Lib.hid (show ∀ X, Calls Tryd.prog 38 #[.agg #[.int .i64 32, .int .i64 64, .int .u64 2, .int .u64 13, .int .u64 22, .int .u64 6, .int .u64 11, .int .u64 25, .int .u64 7, .int .u64 18, .int .u64 3, .int .u64 17, .int .u64 19, .int .u64 10], .int .u64 (u : Nat)] X fun e w' => e = .returned (.int .u64 (t2 : Nat)) ∧ Below X.heap.size X w' from fun X => keepR_32 u t2 X K3p.1 K3p.2)
      have K4 := Lib.hid (show ∀ X, Calls Tryd.prog 38 #[.agg #[.int .i64 32, .int .i64 64, .int .u64 2, .int .u64 13, .int .u64 22, .int .u64 6, .int .u64 11, .int .u64 25, .int .u64 7, .int .u64 18, .int .u64 3, .int .u64 17, .int .u64 19, .int .u64 10], .int .u64 (zz : Nat)] X fun e w' => e = .returned (.int .u64 (z : Nat)) ∧ Below X.heap.size X w' from fun X => keepR_32 zz z X K4p.1 K4p.2)
      have K5 := Lib.hid (show ∀ X, Calls Tryd.prog 38 #[.agg #[.int .i64 32, .int .i64 64, .int .u64 2, .int .u64 13, .int .u64 22, .int .u64 6, .int .u64 11, .int .u64 25, .int .u64 7, .int .u64 18, .int .u64 3, .int .u64 17, .int .u64 19, .int .u64 10], .int .u64 (yy : Nat)] X fun e w' => e = .returned (.int .u64 (y : Nat)) ∧ Below X.heap.size X w' from fun X => keepR_32 yy y X K5p.1 K5p.2)
      have T3 := Lib.hid (show ∀ X, Calls Tryd.prog 39 #[.agg #[.int .i64 32, .int .i64 64, .int .u64 2, .int .u64 13, .int .u64 22, .int .u64 6, .int .u64 11, .int .u64 25, .int .u64 7, .int .u64 18, .int .u64 3, .int .u64 17, .int .u64 19, .int .u64 10], .int .u64 (e : Nat), .int .i64 3, .bool false] X fun e w' => e = .returned (.int .u64 (r1 : Nat)) ∧ Below X.heap.size X w' from fun X => by rw [g1]; exact three3_32 e X hsm.e)
      have T0 := Lib.hid (show ∀ X, Calls Tryd.prog 39 #[.agg #[.int .i64 32, .int .i64 64, .int .u64 2, .int .u64 13, .int .u64 22, .int .u64 6, .int .u64 11, .int .u64 25, .int .u64 7, .int .u64 18, .int .u64 3, .int .u64 17, .int .u64 19, .int .u64 10], .int .u64 (a : Nat), .int .i64 0, .bool false] X fun e w' => e = .returned (.int .u64 (r0 : Nat)) ∧ Below X.heap.size X w' from fun X => by rw [g0]; exact three0_32 a X hsm.a)
      have HNX := Lib.hid hnx; clear hnx
      have HC := Lib.hid (fun X (q : Bb32 w Kb l s.list (St.list ⟨a, b', c, d, e, f, g, h⟩) X) => q.lookC (e := e) (f := f) (g := g) rfl rfl rfl)
      have HT := Lib.hid (fun X (q : Bb32 w Kb l s.list (St.list ⟨a, b', c, d, e, f, g, h⟩) X) => q.lookT (e := e) (h := h) (x := x) (i := i) rfl rfl hxi)
      have HU := Lib.hid (fun X (q : Bb32 w Kb l s.list (St.list ⟨a, b', c, d, e, f, g, h⟩) X) => q.lookU (a := a) rfl)
      have j1 : (i : Int) < 80 := by omega
      have q0 : wr.cell? ⟨w.heap.size, 0, none⟩ = some (.int .i64 32) := hR.form 0
      have hRd := hR.drew
      clear hxl hxi hsm hrd g1 g0 K1p K2p K3p K4p K5p hkcl hkl ekc hx hkk
      go_wp2_with fail
      go_region_held3 (fun X => X.cell? ⟨w.heap.size, 0, none⟩ = some (.int .i64 32) ∧ X.cell? ⟨w.heap.size, 1, none⟩ = some (.int .i64 64) ∧ X.cell? ⟨w.heap.size, 2, none⟩ = some (.int .u64 2) ∧ X.cell? ⟨w.heap.size, 3, none⟩ = some (.int .u64 13) ∧ X.cell? ⟨w.heap.size, 4, none⟩ = some (.int .u64 22) ∧ X.cell? ⟨w.heap.size, 5, none⟩ = some (.int .u64 6) ∧ X.cell? ⟨w.heap.size, 6, none⟩ = some (.int .u64 11) ∧ X.cell? ⟨w.heap.size, 7, none⟩ = some (.int .u64 25) ∧ X.cell? ⟨w.heap.size, 8, none⟩ = some (.int .u64 7) ∧ X.cell? ⟨w.heap.size, 9, none⟩ = some (.int .u64 18) ∧ X.cell? ⟨w.heap.size, 10, none⟩ = some (.int .u64 3) ∧ X.cell? ⟨w.heap.size, 11, none⟩ = some (.int .u64 17) ∧ X.cell? ⟨w.heap.size, 12, none⟩ = some (.int .u64 19) ∧ X.cell? ⟨w.heap.size, 13, none⟩ = some (.int .u64 10) ∧ X.cell? ⟨Kb + 1, 4, none⟩ = some (.int .u64 (e : Nat)) ∧ X.cell? ⟨Kb + 1, 5, none⟩ = some (.int .u64 (f : Nat)) ∧ X.cell? ⟨Kb + 1, 6, none⟩ = some (.int .u64 (g : Nat))) ((refine HC.out _ ?_; (with_reducible assumption)))
        (first | (go_at_call 38; with_reducible refine (K1.out _).mono ?_; rintro e' w' ⟨rfl, hbw⟩; have hbx' := Bb32.next (by with_reducible assumption) hbw))
      all_goals
        have v0 := hbx'.hv.cell (j := 0) (x := a) rfl
        have v1 := hbx'.hv.cell (j := 1) (x := b') rfl
        have v2 := hbx'.hv.cell (j := 2) (x := c) rfl
        have hR2 := hbx'.drew
        clear hR hRd hbx' hbw hpr hkc
        go_wp2_with fail
        go_region_held3 (fun X => X.cell? ⟨w.heap.size, 0, none⟩ = some (.int .i64 32) ∧ X.cell? ⟨w.heap.size, 1, none⟩ = some (.int .i64 64) ∧ X.cell? ⟨w.heap.size, 2, none⟩ = some (.int .u64 2) ∧ X.cell? ⟨w.heap.size, 3, none⟩ = some (.int .u64 13) ∧ X.cell? ⟨w.heap.size, 4, none⟩ = some (.int .u64 22) ∧ X.cell? ⟨w.heap.size, 5, none⟩ = some (.int .u64 6) ∧ X.cell? ⟨w.heap.size, 6, none⟩ = some (.int .u64 11) ∧ X.cell? ⟨w.heap.size, 7, none⟩ = some (.int .u64 25) ∧ X.cell? ⟨w.heap.size, 8, none⟩ = some (.int .u64 7) ∧ X.cell? ⟨w.heap.size, 9, none⟩ = some (.int .u64 18) ∧ X.cell? ⟨w.heap.size, 10, none⟩ = some (.int .u64 3) ∧ X.cell? ⟨w.heap.size, 11, none⟩ = some (.int .u64 17) ∧ X.cell? ⟨w.heap.size, 12, none⟩ = some (.int .u64 19) ∧ X.cell? ⟨w.heap.size, 13, none⟩ = some (.int .u64 10) ∧ X.cell? ⟨Kb + 1, 4, none⟩ = some (.int .u64 (e : Nat)) ∧ X.cell? ⟨Kb + 1, 7, none⟩ = some (.int .u64 (h : Nat)) ∧ X.cell? ⟨w.heap.size + 1 + 1 + 1, i, none⟩ = some (.int .u64 (x : Nat))) ((refine HT.out _ ?_; (with_reducible assumption)))
          (first | (go_at_call 39; with_reducible refine (T3.out _).mono ?_; rintro e' w' ⟨rfl, hbw⟩; have hbx' := Bb32.next (by with_reducible assumption) hbw) | (go_at_call 38; with_reducible refine (K2.out _).mono ?_; rintro e' w' ⟨rfl, hbw⟩; have hbx' := Bb32.next (by with_reducible assumption) hbw))
        have hR3 := hbx'.drew
        clear hR2 v0 v1 v2
        go_wp2_with fail
        go_region_held3 (fun X => X.cell? ⟨w.heap.size, 0, none⟩ = some (.int .i64 32) ∧ X.cell? ⟨w.heap.size, 1, none⟩ = some (.int .i64 64) ∧ X.cell? ⟨w.heap.size, 2, none⟩ = some (.int .u64 2) ∧ X.cell? ⟨w.heap.size, 3, none⟩ = some (.int .u64 13) ∧ X.cell? ⟨w.heap.size, 4, none⟩ = some (.int .u64 22) ∧ X.cell? ⟨w.heap.size, 5, none⟩ = some (.int .u64 6) ∧ X.cell? ⟨w.heap.size, 6, none⟩ = some (.int .u64 11) ∧ X.cell? ⟨w.heap.size, 7, none⟩ = some (.int .u64 25) ∧ X.cell? ⟨w.heap.size, 8, none⟩ = some (.int .u64 7) ∧ X.cell? ⟨w.heap.size, 9, none⟩ = some (.int .u64 18) ∧ X.cell? ⟨w.heap.size, 10, none⟩ = some (.int .u64 3) ∧ X.cell? ⟨w.heap.size, 11, none⟩ = some (.int .u64 17) ∧ X.cell? ⟨w.heap.size, 12, none⟩ = some (.int .u64 19) ∧ X.cell? ⟨w.heap.size, 13, none⟩ = some (.int .u64 10) ∧ X.cell? ⟨Kb + 1, 0, none⟩ = some (.int .u64 (a : Nat))) ((refine HU.out _ ?_; (with_reducible assumption)))
          (first | (go_at_call 39; with_reducible refine (T0.out _).mono ?_; rintro e' w' ⟨rfl, hbw⟩; have hbx' := Bb32.next (by with_reducible assumption) hbw) | (go_at_call 38; with_reducible refine (K3.out _).mono ?_; rintro e' w' ⟨rfl, hbw⟩; have hbx' := Bb32.next (by with_reducible assumption) hbw))
        have HR4 := Lib.hid (show Bb32 w Kb l s.list (moved (St.list ⟨a, b', c, d, e, f, g, h⟩) 7) w' from hbx')
        clear hR3 hbx' hbw
        go_wp2_with fail
        go_loopw [19] (fun y wr => ∃ j : Nat, j ≤ 7 ∧ y = .int .i64 (j : Nat) ∧ Bb32 w Kb l s.list (moved (St.list ⟨a, b', c, d, e, f, g, h⟩) j) wr) (fun y _ => (intOf y).toNat)
        case atStart => exact ⟨7, Nat.le_refl _, rfl, HR4.out⟩
        case round =>
          obtain ⟨j, hj, rfl, hR⟩ := hrel
          match j, hj with
          | 7, _ =>
            have c0 := hR.hv.cell (j := 6) (x := g) rfl
            have f0 := hR.hv.frozen 7
            have x0 := hR.hv.cell (j := 7) (x := h) rfl
            have RR := Lib.hid (show Bb32 w Kb l s.list (moved (St.list ⟨a, b', c, d, e, f, g, h⟩) 6) (wr.setCell ⟨Kb + 1, 7, none⟩ (.int .u64 (g : Nat))) from hR.stepV 7 g); clear hR
            go_wp2
            go_roundw
            case rel => exact ⟨6, by omega, rfl, RR.out⟩
            case measure => simp [intOf]
          | 6, _ =>
            have c0 := hR.hv.cell (j := 5) (x := f) rfl
            have f0 := hR.hv.frozen 6
            have x0 := hR.hv.cell (j := 6) (x := g) rfl
            have RR := Lib.hid (show Bb32 w Kb l s.list (moved (St.list ⟨a, b', c, d, e, f, g, h⟩) 5) (wr.setCell ⟨Kb + 1, 6, none⟩ (.int .u64 (f : Nat))) from hR.stepV 6 f); clear hR
            go_wp2
            go_roundw
            case rel => exact ⟨5, by omega, rfl, RR.out⟩
            case measure => simp [intOf]
          | 5, _ =>
            have c0 := hR.hv.cell (j := 4) (x := e) rfl
            have f0 := hR.hv.frozen 5
            have x0 := hR.hv.cell (j := 5) (x := f) rfl
            have RR := Lib.hid (show Bb32 w Kb l s.list (moved (St.list ⟨a, b', c, d, e, f, g, h⟩) 4) (wr.setCell ⟨Kb + 1, 5, none⟩ (.int .u64 (e : Nat))) from hR.stepV 5 e); clear hR
            go_wp2
            go_roundw
            case rel => exact ⟨4, by omega, rfl, RR.out⟩
            case measure => simp [intOf]
          | 4, _ =>
            have c0 := hR.hv.cell (j := 3) (x := d) rfl
            have f0 := hR.hv.frozen 4
            have x0 := hR.hv.cell (j := 4) (x := e) rfl
            have RR := Lib.hid (show Bb32 w Kb l s.list (moved (St.list ⟨a, b', c, d, e, f, g, h⟩) 3) (wr.setCell ⟨Kb + 1, 4, none⟩ (.int .u64 (d : Nat))) from hR.stepV 4 d); clear hR
            go_wp2
            go_roundw
            case rel => exact ⟨3, by omega, rfl, RR.out⟩
            case measure => simp [intOf]
          | 3, _ =>
            have c0 := hR.hv.cell (j := 2) (x := c) rfl
            have f0 := hR.hv.frozen 3
            have x0 := hR.hv.cell (j := 3) (x := d) rfl
            have RR := Lib.hid (show Bb32 w Kb l s.list (moved (St.list ⟨a, b', c, d, e, f, g, h⟩) 2) (wr.setCell ⟨Kb + 1, 3, none⟩ (.int .u64 (c : Nat))) from hR.stepV 3 c); clear hR
            go_wp2
            go_roundw
            case rel => exact ⟨2, by omega, rfl, RR.out⟩
            case measure => simp [intOf]
          | 2, _ =>
            have c0 := hR.hv.cell (j := 1) (x := b') rfl
            have f0 := hR.hv.frozen 2
            have x0 := hR.hv.cell (j := 2) (x := c) rfl
            have RR := Lib.hid (show Bb32 w Kb l s.list (moved (St.list ⟨a, b', c, d, e, f, g, h⟩) 1) (wr.setCell ⟨Kb + 1, 2, none⟩ (.int .u64 (b' : Nat))) from hR.stepV 2 b'); clear hR
            go_wp2
            go_roundw
            case rel => exact ⟨1, by omega, rfl, RR.out⟩
            case measure => simp [intOf]
          | 1, _ =>
            have c0 := hR.hv.cell (j := 0) (x := a) rfl
            have f0 := hR.hv.frozen 1
            have x0 := hR.hv.cell (j := 1) (x := b') rfl
            have RR := Lib.hid (show Bb32 w Kb l s.list (moved (St.list ⟨a, b', c, d, e, f, g, h⟩) 0) (wr.setCell ⟨Kb + 1, 1, none⟩ (.int .u64 (a : Nat))) from hR.stepV 1 a); clear hR
            go_wp2
            go_roundw
            case rel => exact ⟨0, by omega, rfl, RR.out⟩
            case measure => simp [intOf]
          | 0, _ =>
            have v4 := hR.hv.cell (j := 4) (x := d) rfl
            have q0 : wr.cell? ⟨w.heap.size, 0, none⟩ = some (.int .i64 32) := hR.form 0
            have q1 : wr.cell? ⟨w.heap.size, 1, none⟩ = some (.int .i64 64) := hR.form 1
            have q2 : wr.cell? ⟨w.heap.size, 2, none⟩ = some (.int .u64 2) := hR.form 2
            have q3 : wr.cell? ⟨w.heap.size, 3, none⟩ = some (.int .u64 13) := hR.form 3
            have q4 : wr.cell? ⟨w.heap.size, 4, none⟩ = some (.int .u64 22) := hR.form 4
            have q5 : wr.cell? ⟨w.heap.size, 5, none⟩ = some (.int .u64 6) := hR.form 5
            have q6 : wr.cell? ⟨w.heap.size, 6, none⟩ = some (.int .u64 11) := hR.form 6
            have q7 : wr.cell? ⟨w.heap.size, 7, none⟩ = some (.int .u64 25) := hR.form 7
            have q8 : wr.cell? ⟨w.heap.size, 8, none⟩ = some (.int .u64 7) := hR.form 8
            have q9 : wr.cell? ⟨w.heap.size, 9, none⟩ = some (.int .u64 18) := hR.form 9
            have q10 : wr.cell? ⟨w.heap.size, 10, none⟩ = some (.int .u64 3) := hR.form 10
            have q11 : wr.cell? ⟨w.heap.size, 11, none⟩ = some (.int .u64 17) := hR.form 11
            have q12 : wr.cell? ⟨w.heap.size, 12, none⟩ = some (.int .u64 19) := hR.form 12
            have q13 : wr.cell? ⟨w.heap.size, 13, none⟩ = some (.int .u64 10) := hR.form 13
            have RR := Lib.hid hR; clear hR
            go_wp2_with fail
            refine (K4.out _).mono ?_
            rintro e' w2 ⟨rfl, hbw⟩
            have hR := RR.out.next hbw
            have y4 := hR.hv.cell (j := 4) (x := d) rfl
            have z4 := hR.hv.frozen 4
            have hR5 : Bb32 w Kb l s.list [a, a, b', c, z, e, f, g] (w2.setCell ⟨Kb + 1, 4, none⟩ (.int .u64 (z : Nat))) := hR.stepV 4 z
            have o0 : (w2.setCell ⟨Kb + 1, 4, none⟩ (.int .u64 (z : Nat))).cell? ⟨w.heap.size, 0, none⟩ = some (.int .i64 32) := hR5.form 0
            have o1 : (w2.setCell ⟨Kb + 1, 4, none⟩ (.int .u64 (z : Nat))).cell? ⟨w.heap.size, 1, none⟩ = some (.int .i64 64) := hR5.form 1
            have o2 : (w2.setCell ⟨Kb + 1, 4, none⟩ (.int .u64 (z : Nat))).cell? ⟨w.heap.size, 2, none⟩ = some (.int .u64 2) := hR5.form 2
            have o3 : (w2.setCell ⟨Kb + 1, 4, none⟩ (.int .u64 (z : Nat))).cell? ⟨w.heap.size, 3, none⟩ = some (.int .u64 13) := hR5.form 3
            have o4 : (w2.setCell ⟨Kb + 1, 4, none⟩ (.int .u64 (z : Nat))).cell? ⟨w.heap.size, 4, none⟩ = some (.int .u64 22) := hR5.form 4
            have o5 : (w2.setCell ⟨Kb + 1, 4, none⟩ (.int .u64 (z : Nat))).cell? ⟨w.heap.size, 5, none⟩ = some (.int .u64 6) := hR5.form 5
            have o6 : (w2.setCell ⟨Kb + 1, 4, none⟩ (.int .u64 (z : Nat))).cell? ⟨w.heap.size, 6, none⟩ = some (.int .u64 11) := hR5.form 6
            have o7 : (w2.setCell ⟨Kb + 1, 4, none⟩ (.int .u64 (z : Nat))).cell? ⟨w.heap.size, 7, none⟩ = some (.int .u64 25) := hR5.form 7
            have o8 : (w2.setCell ⟨Kb + 1, 4, none⟩ (.int .u64 (z : Nat))).cell? ⟨w.heap.size, 8, none⟩ = some (.int .u64 7) := hR5.form 8
            have o9 : (w2.setCell ⟨Kb + 1, 4, none⟩ (.int .u64 (z : Nat))).cell? ⟨w.heap.size, 9, none⟩ = some (.int .u64 18) := hR5.form 9
            have o10 : (w2.setCell ⟨Kb + 1, 4, none⟩ (.int .u64 (z : Nat))).cell? ⟨w.heap.size, 10, none⟩ = some (.int .u64 3) := hR5.form 10
            have o11 : (w2.setCell ⟨Kb + 1, 4, none⟩ (.int .u64 (z : Nat))).cell? ⟨w.heap.size, 11, none⟩ = some (.int .u64 17) := hR5.form 11
            have o12 : (w2.setCell ⟨Kb + 1, 4, none⟩ (.int .u64 (z : Nat))).cell? ⟨w.heap.size, 12, none⟩ = some (.int .u64 19) := hR5.form 12
            have o13 : (w2.setCell ⟨Kb + 1, 4, none⟩ (.int .u64 (z : Nat))).cell? ⟨w.heap.size, 13, none⟩ = some (.int .u64 10) := hR5.form 13
            have RR2 := Lib.hid hR5; clear hR5 hR hbw
            go_wp2_with fail
            refine (K5.out _).mono ?_
            rintro e' w3 ⟨rfl, hbw⟩
            have hR := RR2.out.next hbw
            have x0 := hR.hv.cell (j := 0) (x := a) rfl
            have z0 := hR.hv.frozen 0
            have RR3 := Lib.hid (show Bb32 w Kb l s.list [y, a, b', c, z, e, f, g] (w3.setCell ⟨Kb + 1, 0, none⟩ (.int .u64 (y : Nat))) from hR.stepV 0 y)
            clear hR hbw
            go_wp2
            go_roundw
            case rel => exact ⟨i + 1, by omega, by go_num, by rw [HNX.out]; exact RR3.out⟩
            case measure => simp [intOf]; omega
    · obtain rfl : i = 64 := by omega
      have HQ := Lib.hid hR; clear hR hv
      go_wp2
      apply HY.out
      exact HQ.out

set_option maxRecDepth 100000 in
set_option maxHeartbeats 8000000 in
theorem refLoop3_64 {w : World} {Kb : Nat} {s : St} {m : Nat → Nat} {l : List Nat} {c0 c1 c2 c5 c6 c8 c9 c10 c20 c21 c22 c23 c24 c25 c26 c27 c28 c29 c30 c31 c32 c33 c34 c35 c36 c37 c38 c39 c40 c41 c42 c43 c44 c45 c46 c47 c48 c49 c50 c51 c52 c53 c54 c55 c56 c57 c58 c59 c60 c61 c62 c63 c64 c65 c66 c67 c68 c69 c70 c71 c72 c73 c74 c75 c76 c77 c78 c79 c80 c81 c175 c176 c177 c178 c179 c180 c181 c182 c183 c184 c185 c186 c187 c188 c189 c190 b14 b15 b16 b17 b18 b19 b82 b83 b84 b85 b86 b87 b88 b89 b90 b91 b92 b93 b94 b95 b96 b97 b98 b99 b100 b101 b102 b103 b104 b105 b106 b107 b108 b109 b110 b111 b112 b113 b114 b115 b116 b117 b118 b119 b120 b121 b122 b123 b124 b125 b126 b127 b128 b129 b130 b131 b132 b133 b134 b135 b136 b137 b138 b139 b140 b141 b142 b143 b144 b145 b146 b147 b148 b149 b150 b151 b152 b153 b154 b155 b156 b157 b158 b159 b160 b161 b162 b163 b164 b165 b166 b167 b168 b169 b170 b171 b172 b173 b174 : Value} {Q0 : Exit → Act → World → Prop} {wr : World}
    (HML : RowKit.Hid (∀ i, word 64 m i < 2 ^ 64)) (HS : RowKit.Hid (s.Small 64)) (HL : RowKit.Hid (l = upTo 64 m 80))
    (HX : ∀ (d13 d14 d15 d16 d17 d18 d19 d82 d83 d84 d85 d86 d87 d88 d89 d90 d91 d92 d93 d94 d95 d96 d97 d98 d99 d100 d101 d102 d103 d104 d105 d106 d107 d108 d109 d110 d111 d112 d113 d114 d115 d116 d117 d118 d119 d120 d121 d122 d123 d124 d125 d126 d127 d128 d129 d130 d131 d132 d133 d134 d135 d136 d137 d138 d139 d140 d141 d142 d143 d144 d145 d146 d147 d148 d149 d150 d151 d152 d153 d154 d155 d156 d157 d158 d159 d160 d161 d162 d163 d164 d165 d166 d167 d168 d169 d170 d171 d172 d173 d174 : Value) (w2 : World), Bb64 w Kb l s.list (Sha.rounds 64 (kAt 64) m 80 s).list w2 → Q0 (.exit 4) ⟨List.toArray (c0 :: c1 :: c2 :: .pointer (some ⟨w.heap.size, 0, none⟩) :: .pointer (some ⟨w.heap.size + 1, 0, none⟩) :: c5 :: c6 :: .pointer (some ⟨w.heap.size + 1 + 1 + 1, 0, none⟩) :: c8 :: c9 :: c10 :: .pointer (some ⟨Kb, 0, none⟩) :: .pointer (some ⟨Kb + 1, 0, none⟩) :: d13 :: d14 :: d15 :: d16 :: d17 :: d18 :: d19 :: c20 :: c21 :: c22 :: c23 :: c24 :: c25 :: c26 :: c27 :: c28 :: c29 :: c30 :: c31 :: c32 :: c33 :: c34 :: c35 :: c36 :: c37 :: c38 :: c39 :: c40 :: c41 :: c42 :: c43 :: c44 :: c45 :: c46 :: c47 :: c48 :: c49 :: c50 :: c51 :: c52 :: c53 :: c54 :: c55 :: c56 :: c57 :: c58 :: c59 :: c60 :: c61 :: c62 :: c63 :: c64 :: c65 :: c66 :: c67 :: c68 :: c69 :: c70 :: c71 :: c72 :: c73 :: c74 :: c75 :: c76 :: c77 :: c78 :: c79 :: c80 :: c81 :: d82 :: d83 :: d84 :: d85 :: d86 :: d87 :: d88 :: d89 :: d90 :: d91 :: d92 :: d93 :: d94 :: d95 :: d96 :: d97 :: d98 :: d99 :: d100 :: d101 :: d102 :: d103 :: d104 :: d105 :: d106 :: d107 :: d108 :: d109 :: d110 :: d111 :: d112 :: d113 :: d114 :: d115 :: d116 :: d117 :: d118 :: d119 :: d120 :: d121 :: d122 :: d123 :: d124 :: d125 :: d126 :: d127 :: d128 :: d129 :: d130 :: d131 :: d132 :: d133 :: d134 :: d135 :: d136 :: d137 :: d138 :: d139 :: d140 :: d141 :: d142 :: d143 :: d144 :: d145 :: d146 :: d147 :: d148 :: d149 :: d150 :: d151 :: d152 :: d153 :: d154 :: d155 :: d156 :: d157 :: d158 :: d159 :: d160 :: d161 :: d162 :: d163 :: d164 :: d165 :: d166 :: d167 :: d168 :: d169 :: d170 :: d171 :: d172 :: d173 :: d174 :: c175 :: c176 :: c177 :: c178 :: c179 :: c180 :: c181 :: c182 :: c183 :: c184 :: c185 :: c186 :: c187 :: c188 :: c189 :: c190 :: []), []⟩ w2)
    (hR0 : Bb64 w Kb l s.list s.list wr) :
    Code.wp Tryd.prog (.loop refRounds) Q0 ⟨List.toArray (c0 :: c1 :: c2 :: .pointer (some ⟨w.heap.size, 0, none⟩) :: .pointer (some ⟨w.heap.size + 1, 0, none⟩) :: c5 :: c6 :: .pointer (some ⟨w.heap.size + 1 + 1 + 1, 0, none⟩) :: c8 :: c9 :: c10 :: .pointer (some ⟨Kb, 0, none⟩) :: .pointer (some ⟨Kb + 1, 0, none⟩) :: .int .i64 0 :: b14 :: b15 :: b16 :: b17 :: b18 :: b19 :: c20 :: c21 :: c22 :: c23 :: c24 :: c25 :: c26 :: c27 :: c28 :: c29 :: c30 :: c31 :: c32 :: c33 :: c34 :: c35 :: c36 :: c37 :: c38 :: c39 :: c40 :: c41 :: c42 :: c43 :: c44 :: c45 :: c46 :: c47 :: c48 :: c49 :: c50 :: c51 :: c52 :: c53 :: c54 :: c55 :: c56 :: c57 :: c58 :: c59 :: c60 :: c61 :: c62 :: c63 :: c64 :: c65 :: c66 :: c67 :: c68 :: c69 :: c70 :: c71 :: c72 :: c73 :: c74 :: c75 :: c76 :: c77 :: c78 :: c79 :: c80 :: c81 :: b82 :: b83 :: b84 :: b85 :: b86 :: b87 :: b88 :: b89 :: b90 :: b91 :: b92 :: b93 :: b94 :: b95 :: b96 :: b97 :: b98 :: b99 :: b100 :: b101 :: b102 :: b103 :: b104 :: b105 :: b106 :: b107 :: b108 :: b109 :: b110 :: b111 :: b112 :: b113 :: b114 :: b115 :: b116 :: b117 :: b118 :: b119 :: b120 :: b121 :: b122 :: b123 :: b124 :: b125 :: b126 :: b127 :: b128 :: b129 :: b130 :: b131 :: b132 :: b133 :: b134 :: b135 :: b136 :: b137 :: b138 :: b139 :: b140 :: b141 :: b142 :: b143 :: b144 :: b145 :: b146 :: b147 :: b148 :: b149 :: b150 :: b151 :: b152 :: b153 :: b154 :: b155 :: b156 :: b157 :: b158 :: b159 :: b160 :: b161 :: b162 :: b163 :: b164 :: b165 :: b166 :: b167 :: b168 :: b169 :: b170 :: b171 :: b172 :: b173 :: b174 :: c175 :: c176 :: c177 :: c178 :: c179 :: c180 :: c181 :: c182 :: c183 :: c184 :: c185 :: c186 :: c187 :: c188 :: c189 :: c190 :: []), []⟩ wr := by
  have HY := Lib.hid HX; clear HX
  have HR0 := Lib.hid hR0; clear hR0
  conv => arg 2; arg 1; whnf
  go_loopw [13] (fun x wr => ∃ i : Nat, i ≤ 80 ∧ x = .int .i64 (i : Nat) ∧ Bb64 w Kb l s.list (Sha.rounds 64 (kAt 64) m i s).list wr) (fun x _ => 80 - (intOf x).toNat)
  case atStart => exact ⟨0, Nat.zero_le _, rfl, HR0.out⟩
  case round =>
    obtain ⟨i, hi, rfl, hR⟩ := hrel
    have hpr : wr.cell? ⟨w.heap.size, 1, none⟩ = some (.int .i64 80) := hR.form 1
    obtain ⟨v, hv⟩ : ∃ v, v = Sha.rounds 64 (kAt 64) m i s := ⟨_, rfl⟩
    by_cases hlt : i < 80
    · have hsm : v.Small 64 := by rw [hv]; exact rounds_small i HS.out
      have hnx : Sha.rounds 64 (kAt 64) m (i + 1) s = Sha.round 64 (kAt 64 i) (word 64 m i) v := by rw [hv]; rfl
      rw [← hv] at hR
      clear hv
      obtain ⟨x, hx⟩ : ∃ x, x = word 64 m i := ⟨_, rfl⟩
      have hxl : x < 18446744073709551616 := by rw [hx]; exact HML.out i
      have hxi : l[i]? = some x := by rw [HL.out, upTo_get _ _ _ _ (by omega), if_pos hlt, hx]
      rw [← hx] at hnx
      have hkc := hR.hk.cell (ks_get i (by omega))
      have hkl := ks_at_lt i (by omega)
      obtain ⟨kc, ekc⟩ : ∃ kc, kc = kAt 64 i := ⟨_, rfl⟩
      rw [← ekc] at hnx
      have hkcl : kc < 18446744073709551616 := by rw [ekc, kAt]; simpa using hkl
      have k1 : ks.getD i 0 = kc := by rw [ekc, kAt]; simp
      rw [k1] at hkc
      clear k1
      have k2 : IntKind.u64.wrap (kc : Int) = (kc : Int) := by rw [IntKind.wrap_u64]; omega
      have hsg : IntKind.u64.signed = false := rfl
      obtain ⟨n1, n2, n3, n4, cc, m1, m2, m12, m3, mm, r1, r0, ta, tb, tc, td, t1, u, t2, zz, z, yy, y, e1, e2, e3, e4, f1, f2, f4, f3, f5, g1, g0, p1, p2, p3, p4, p5, p6, p7, K1p, K2p, K3p, K4p, K5p, hrd⟩ := ref_parts_64 kc x v hsm hxl hkcl
      rw [hrd] at hnx
      obtain ⟨a, b', c, d, e, f, g, h⟩ := v
      simp only at *
      have K1 := Lib.hid (show ∀ X, Calls Tryd.prog 38 #[.agg #[.int .i64 64, .int .i64 80, .int .u64 28, .int .u64 34, .int .u64 39, .int .u64 14, .int .u64 18, .int .u64 41, .int .u64 1, .int .u64 8, .int .u64 7, .int .u64 19, .int .u64 61, .int .u64 6], .int .u64 (n2 : Nat)] X fun e w' => e = .returned (.int .u64 (n3 : Nat)) ∧ Below X.heap.size X w' from fun X => keepR_64 n2 n3 X K1p.1 K1p.2)
      have K2 := Lib.hid (show ∀ X, Calls Tryd.prog 38 #[.agg #[.int .i64 64, .int .i64 80, .int .u64 28, .int .u64 34, .int .u64 39, .int .u64 14, .int .u64 18, .int .u64 41, .int .u64 1, .int .u64 8, .int .u64 7, .int .u64 19, .int .u64 61, .int .u64 6], .int .u64 (td : Nat)] X fun e w' => e = .returned (.int .u64 (t1 : Nat)) ∧ Below X.heap.size X w' from fun X => keepR_64 td t1 X K2p.1 K2p.2)
      have K3 := Lib.hid (show ∀ X, Calls Tryd.prog 38 #[.agg #[.int .i64 64, .int .i64 80, .int .u64 28, .int .u64 34, .int .u64 39, .int .u64 14, .int .u64 18, .int .u64 41, .int .u64 1, .int .u64 8, .int .u64 7, .int .u64 19, .int .u64 61, .int .u64 6], .int .u64 (u : Nat)] X fun e w' => e = .returned (.int .u64 (t2 : Nat)) ∧ Below X.heap.size X w' from fun X => keepR_64 u t2 X K3p.1 K3p.2)
      have K4 := Lib.hid (show ∀ X, Calls Tryd.prog 38 #[.agg #[.int .i64 64, .int .i64 80, .int .u64 28, .int .u64 34, .int .u64 39, .int .u64 14, .int .u64 18, .int .u64 41, .int .u64 1, .int .u64 8, .int .u64 7, .int .u64 19, .int .u64 61, .int .u64 6], .int .u64 (zz : Nat)] X fun e w' => e = .returned (.int .u64 (z : Nat)) ∧ Below X.heap.size X w' from fun X => keepR_64 zz z X K4p.1 K4p.2)
      have K5 := Lib.hid (show ∀ X, Calls Tryd.prog 38 #[.agg #[.int .i64 64, .int .i64 80, .int .u64 28, .int .u64 34, .int .u64 39, .int .u64 14, .int .u64 18, .int .u64 41, .int .u64 1, .int .u64 8, .int .u64 7, .int .u64 19, .int .u64 61, .int .u64 6], .int .u64 (yy : Nat)] X fun e w' => e = .returned (.int .u64 (y : Nat)) ∧ Below X.heap.size X w' from fun X => keepR_64 yy y X K5p.1 K5p.2)
      have T3 := Lib.hid (show ∀ X, Calls Tryd.prog 39 #[.agg #[.int .i64 64, .int .i64 80, .int .u64 28, .int .u64 34, .int .u64 39, .int .u64 14, .int .u64 18, .int .u64 41, .int .u64 1, .int .u64 8, .int .u64 7, .int .u64 19, .int .u64 61, .int .u64 6], .int .u64 (e : Nat), .int .i64 3, .bool false] X fun e w' => e = .returned (.int .u64 (r1 : Nat)) ∧ Below X.heap.size X w' from fun X => by rw [g1]; exact three3_64 e X hsm.e)
      have T0 := Lib.hid (show ∀ X, Calls Tryd.prog 39 #[.agg #[.int .i64 64, .int .i64 80, .int .u64 28, .int .u64 34, .int .u64 39, .int .u64 14, .int .u64 18, .int .u64 41, .int .u64 1, .int .u64 8, .int .u64 7, .int .u64 19, .int .u64 61, .int .u64 6], .int .u64 (a : Nat), .int .i64 0, .bool false] X fun e w' => e = .returned (.int .u64 (r0 : Nat)) ∧ Below X.heap.size X w' from fun X => by rw [g0]; exact three0_64 a X hsm.a)
      have HNX := Lib.hid hnx; clear hnx
      have HC := Lib.hid (fun X (q : Bb64 w Kb l s.list (St.list ⟨a, b', c, d, e, f, g, h⟩) X) => q.lookC (e := e) (f := f) (g := g) rfl rfl rfl)
      have HT := Lib.hid (fun X (q : Bb64 w Kb l s.list (St.list ⟨a, b', c, d, e, f, g, h⟩) X) => q.lookT (e := e) (h := h) (x := x) (i := i) rfl rfl hxi)
      have HU := Lib.hid (fun X (q : Bb64 w Kb l s.list (St.list ⟨a, b', c, d, e, f, g, h⟩) X) => q.lookU (a := a) rfl)
      have j1 : (i : Int) < 80 := by omega
      have q0 : wr.cell? ⟨w.heap.size, 0, none⟩ = some (.int .i64 64) := hR.form 0
      have hRd := hR.drew
      clear hxl hxi hsm hrd g1 g0 K1p K2p K3p K4p K5p hkcl hkl ekc hx hlt
      go_wp2_with fail
      go_region_held3 (fun X => X.cell? ⟨w.heap.size, 0, none⟩ = some (.int .i64 64) ∧ X.cell? ⟨w.heap.size, 1, none⟩ = some (.int .i64 80) ∧ X.cell? ⟨w.heap.size, 2, none⟩ = some (.int .u64 28) ∧ X.cell? ⟨w.heap.size, 3, none⟩ = some (.int .u64 34) ∧ X.cell? ⟨w.heap.size, 4, none⟩ = some (.int .u64 39) ∧ X.cell? ⟨w.heap.size, 5, none⟩ = some (.int .u64 14) ∧ X.cell? ⟨w.heap.size, 6, none⟩ = some (.int .u64 18) ∧ X.cell? ⟨w.heap.size, 7, none⟩ = some (.int .u64 41) ∧ X.cell? ⟨w.heap.size, 8, none⟩ = some (.int .u64 1) ∧ X.cell? ⟨w.heap.size, 9, none⟩ = some (.int .u64 8) ∧ X.cell? ⟨w.heap.size, 10, none⟩ = some (.int .u64 7) ∧ X.cell? ⟨w.heap.size, 11, none⟩ = some (.int .u64 19) ∧ X.cell? ⟨w.heap.size, 12, none⟩ = some (.int .u64 61) ∧ X.cell? ⟨w.heap.size, 13, none⟩ = some (.int .u64 6) ∧ X.cell? ⟨Kb + 1, 4, none⟩ = some (.int .u64 (e : Nat)) ∧ X.cell? ⟨Kb + 1, 5, none⟩ = some (.int .u64 (f : Nat)) ∧ X.cell? ⟨Kb + 1, 6, none⟩ = some (.int .u64 (g : Nat))) ((refine HC.out _ ?_; (with_reducible assumption)))
        (first | (go_at_call 38; with_reducible refine (K1.out _).mono ?_; rintro e' w' ⟨rfl, hbw⟩; have hbx' := Bb64.next (by with_reducible assumption) hbw))
      all_goals
        have v0 := hbx'.hv.cell (j := 0) (x := a) rfl
        have v1 := hbx'.hv.cell (j := 1) (x := b') rfl
        have v2 := hbx'.hv.cell (j := 2) (x := c) rfl
        have hR2 := hbx'.drew
        clear hR hRd hbx' hbw hpr hkc
        go_wp2_with fail
        go_region_held3 (fun X => X.cell? ⟨w.heap.size, 0, none⟩ = some (.int .i64 64) ∧ X.cell? ⟨w.heap.size, 1, none⟩ = some (.int .i64 80) ∧ X.cell? ⟨w.heap.size, 2, none⟩ = some (.int .u64 28) ∧ X.cell? ⟨w.heap.size, 3, none⟩ = some (.int .u64 34) ∧ X.cell? ⟨w.heap.size, 4, none⟩ = some (.int .u64 39) ∧ X.cell? ⟨w.heap.size, 5, none⟩ = some (.int .u64 14) ∧ X.cell? ⟨w.heap.size, 6, none⟩ = some (.int .u64 18) ∧ X.cell? ⟨w.heap.size, 7, none⟩ = some (.int .u64 41) ∧ X.cell? ⟨w.heap.size, 8, none⟩ = some (.int .u64 1) ∧ X.cell? ⟨w.heap.size, 9, none⟩ = some (.int .u64 8) ∧ X.cell? ⟨w.heap.size, 10, none⟩ = some (.int .u64 7) ∧ X.cell? ⟨w.heap.size, 11, none⟩ = some (.int .u64 19) ∧ X.cell? ⟨w.heap.size, 12, none⟩ = some (.int .u64 61) ∧ X.cell? ⟨w.heap.size, 13, none⟩ = some (.int .u64 6) ∧ X.cell? ⟨Kb + 1, 4, none⟩ = some (.int .u64 (e : Nat)) ∧ X.cell? ⟨Kb + 1, 7, none⟩ = some (.int .u64 (h : Nat)) ∧ X.cell? ⟨w.heap.size + 1 + 1 + 1, i, none⟩ = some (.int .u64 (x : Nat))) ((refine HT.out _ ?_; (with_reducible assumption)))
          (first | (go_at_call 39; with_reducible refine (T3.out _).mono ?_; rintro e' w' ⟨rfl, hbw⟩; have hbx' := Bb64.next (by with_reducible assumption) hbw) | (go_at_call 38; with_reducible refine (K2.out _).mono ?_; rintro e' w' ⟨rfl, hbw⟩; have hbx' := Bb64.next (by with_reducible assumption) hbw))
        have hR3 := hbx'.drew
        clear hR2 v0 v1 v2
        go_wp2_with fail
        go_region_held3 (fun X => X.cell? ⟨w.heap.size, 0, none⟩ = some (.int .i64 64) ∧ X.cell? ⟨w.heap.size, 1, none⟩ = some (.int .i64 80) ∧ X.cell? ⟨w.heap.size, 2, none⟩ = some (.int .u64 28) ∧ X.cell? ⟨w.heap.size, 3, none⟩ = some (.int .u64 34) ∧ X.cell? ⟨w.heap.size, 4, none⟩ = some (.int .u64 39) ∧ X.cell? ⟨w.heap.size, 5, none⟩ = some (.int .u64 14) ∧ X.cell? ⟨w.heap.size, 6, none⟩ = some (.int .u64 18) ∧ X.cell? ⟨w.heap.size, 7, none⟩ = some (.int .u64 41) ∧ X.cell? ⟨w.heap.size, 8, none⟩ = some (.int .u64 1) ∧ X.cell? ⟨w.heap.size, 9, none⟩ = some (.int .u64 8) ∧ X.cell? ⟨w.heap.size, 10, none⟩ = some (.int .u64 7) ∧ X.cell? ⟨w.heap.size, 11, none⟩ = some (.int .u64 19) ∧ X.cell? ⟨w.heap.size, 12, none⟩ = some (.int .u64 61) ∧ X.cell? ⟨w.heap.size, 13, none⟩ = some (.int .u64 6) ∧ X.cell? ⟨Kb + 1, 0, none⟩ = some (.int .u64 (a : Nat))) ((refine HU.out _ ?_; (with_reducible assumption)))
          (first | (go_at_call 39; with_reducible refine (T0.out _).mono ?_; rintro e' w' ⟨rfl, hbw⟩; have hbx' := Bb64.next (by with_reducible assumption) hbw) | (go_at_call 38; with_reducible refine (K3.out _).mono ?_; rintro e' w' ⟨rfl, hbw⟩; have hbx' := Bb64.next (by with_reducible assumption) hbw))
        have HR4 := Lib.hid (show Bb64 w Kb l s.list (moved (St.list ⟨a, b', c, d, e, f, g, h⟩) 7) w' from hbx')
        clear hR3 hbx' hbw
        go_wp2_with fail
        go_loopw [19] (fun y wr => ∃ j : Nat, j ≤ 7 ∧ y = .int .i64 (j : Nat) ∧ Bb64 w Kb l s.list (moved (St.list ⟨a, b', c, d, e, f, g, h⟩) j) wr) (fun y _ => (intOf y).toNat)
        case atStart => exact ⟨7, Nat.le_refl _, rfl, HR4.out⟩
        case round =>
          obtain ⟨j, hj, rfl, hR⟩ := hrel
          match j, hj with
          | 7, _ =>
            have c0 := hR.hv.cell (j := 6) (x := g) rfl
            have f0 := hR.hv.frozen 7
            have x0 := hR.hv.cell (j := 7) (x := h) rfl
            have RR := Lib.hid (show Bb64 w Kb l s.list (moved (St.list ⟨a, b', c, d, e, f, g, h⟩) 6) (wr.setCell ⟨Kb + 1, 7, none⟩ (.int .u64 (g : Nat))) from hR.stepV 7 g); clear hR
            go_wp2
            go_roundw
            case rel => exact ⟨6, by omega, rfl, RR.out⟩
            case measure => simp [intOf]
          | 6, _ =>
            have c0 := hR.hv.cell (j := 5) (x := f) rfl
            have f0 := hR.hv.frozen 6
            have x0 := hR.hv.cell (j := 6) (x := g) rfl
            have RR := Lib.hid (show Bb64 w Kb l s.list (moved (St.list ⟨a, b', c, d, e, f, g, h⟩) 5) (wr.setCell ⟨Kb + 1, 6, none⟩ (.int .u64 (f : Nat))) from hR.stepV 6 f); clear hR
            go_wp2
            go_roundw
            case rel => exact ⟨5, by omega, rfl, RR.out⟩
            case measure => simp [intOf]
          | 5, _ =>
            have c0 := hR.hv.cell (j := 4) (x := e) rfl
            have f0 := hR.hv.frozen 5
            have x0 := hR.hv.cell (j := 5) (x := f) rfl
            have RR := Lib.hid (show Bb64 w Kb l s.list (moved (St.list ⟨a, b', c, d, e, f, g, h⟩) 4) (wr.setCell ⟨Kb + 1, 5, none⟩ (.int .u64 (e : Nat))) from hR.stepV 5 e); clear hR
            go_wp2
            go_roundw
            case rel => exact ⟨4, by omega, rfl, RR.out⟩
            case measure => simp [intOf]
          | 4, _ =>
            have c0 := hR.hv.cell (j := 3) (x := d) rfl
            have f0 := hR.hv.frozen 4
            have x0 := hR.hv.cell (j := 4) (x := e) rfl
            have RR := Lib.hid (show Bb64 w Kb l s.list (moved (St.list ⟨a, b', c, d, e, f, g, h⟩) 3) (wr.setCell ⟨Kb + 1, 4, none⟩ (.int .u64 (d : Nat))) from hR.stepV 4 d); clear hR
            go_wp2
            go_roundw
            case rel => exact ⟨3, by omega, rfl, RR.out⟩
            case measure => simp [intOf]
          | 3, _ =>
            have c0 := hR.hv.cell (j := 2) (x := c) rfl
            have f0 := hR.hv.frozen 3
            have x0 := hR.hv.cell (j := 3) (x := d) rfl
            have RR := Lib.hid (show Bb64 w Kb l s.list (moved (St.list ⟨a, b', c, d, e, f, g, h⟩) 2) (wr.setCell ⟨Kb + 1, 3, none⟩ (.int .u64 (c : Nat))) from hR.stepV 3 c); clear hR
            go_wp2
            go_roundw
            case rel => exact ⟨2, by omega, rfl, RR.out⟩
            case measure => simp [intOf]
          | 2, _ =>
            have c0 := hR.hv.cell (j := 1) (x := b') rfl
            have f0 := hR.hv.frozen 2
            have x0 := hR.hv.cell (j := 2) (x := c) rfl
            have RR := Lib.hid (show Bb64 w Kb l s.list (moved (St.list ⟨a, b', c, d, e, f, g, h⟩) 1) (wr.setCell ⟨Kb + 1, 2, none⟩ (.int .u64 (b' : Nat))) from hR.stepV 2 b'); clear hR
            go_wp2
            go_roundw
            case rel => exact ⟨1, by omega, rfl, RR.out⟩
            case measure => simp [intOf]
          | 1, _ =>
            have c0 := hR.hv.cell (j := 0) (x := a) rfl
            have f0 := hR.hv.frozen 1
            have x0 := hR.hv.cell (j := 1) (x := b') rfl
            have RR := Lib.hid (show Bb64 w Kb l s.list (moved (St.list ⟨a, b', c, d, e, f, g, h⟩) 0) (wr.setCell ⟨Kb + 1, 1, none⟩ (.int .u64 (a : Nat))) from hR.stepV 1 a); clear hR
            go_wp2
            go_roundw
            case rel => exact ⟨0, by omega, rfl, RR.out⟩
            case measure => simp [intOf]
          | 0, _ =>
            have v4 := hR.hv.cell (j := 4) (x := d) rfl
            have q0 : wr.cell? ⟨w.heap.size, 0, none⟩ = some (.int .i64 64) := hR.form 0
            have q1 : wr.cell? ⟨w.heap.size, 1, none⟩ = some (.int .i64 80) := hR.form 1
            have q2 : wr.cell? ⟨w.heap.size, 2, none⟩ = some (.int .u64 28) := hR.form 2
            have q3 : wr.cell? ⟨w.heap.size, 3, none⟩ = some (.int .u64 34) := hR.form 3
            have q4 : wr.cell? ⟨w.heap.size, 4, none⟩ = some (.int .u64 39) := hR.form 4
            have q5 : wr.cell? ⟨w.heap.size, 5, none⟩ = some (.int .u64 14) := hR.form 5
            have q6 : wr.cell? ⟨w.heap.size, 6, none⟩ = some (.int .u64 18) := hR.form 6
            have q7 : wr.cell? ⟨w.heap.size, 7, none⟩ = some (.int .u64 41) := hR.form 7
            have q8 : wr.cell? ⟨w.heap.size, 8, none⟩ = some (.int .u64 1) := hR.form 8
            have q9 : wr.cell? ⟨w.heap.size, 9, none⟩ = some (.int .u64 8) := hR.form 9
            have q10 : wr.cell? ⟨w.heap.size, 10, none⟩ = some (.int .u64 7) := hR.form 10
            have q11 : wr.cell? ⟨w.heap.size, 11, none⟩ = some (.int .u64 19) := hR.form 11
            have q12 : wr.cell? ⟨w.heap.size, 12, none⟩ = some (.int .u64 61) := hR.form 12
            have q13 : wr.cell? ⟨w.heap.size, 13, none⟩ = some (.int .u64 6) := hR.form 13
            have RR := Lib.hid hR; clear hR
            go_wp2_with fail
            refine (K4.out _).mono ?_
            rintro e' w2 ⟨rfl, hbw⟩
            have hR := RR.out.next hbw
            have y4 := hR.hv.cell (j := 4) (x := d) rfl
            have z4 := hR.hv.frozen 4
            have hR5 : Bb64 w Kb l s.list [a, a, b', c, z, e, f, g] (w2.setCell ⟨Kb + 1, 4, none⟩ (.int .u64 (z : Nat))) := hR.stepV 4 z
            have o0 : (w2.setCell ⟨Kb + 1, 4, none⟩ (.int .u64 (z : Nat))).cell? ⟨w.heap.size, 0, none⟩ = some (.int .i64 64) := hR5.form 0
            have o1 : (w2.setCell ⟨Kb + 1, 4, none⟩ (.int .u64 (z : Nat))).cell? ⟨w.heap.size, 1, none⟩ = some (.int .i64 80) := hR5.form 1
            have o2 : (w2.setCell ⟨Kb + 1, 4, none⟩ (.int .u64 (z : Nat))).cell? ⟨w.heap.size, 2, none⟩ = some (.int .u64 28) := hR5.form 2
            have o3 : (w2.setCell ⟨Kb + 1, 4, none⟩ (.int .u64 (z : Nat))).cell? ⟨w.heap.size, 3, none⟩ = some (.int .u64 34) := hR5.form 3
            have o4 : (w2.setCell ⟨Kb + 1, 4, none⟩ (.int .u64 (z : Nat))).cell? ⟨w.heap.size, 4, none⟩ = some (.int .u64 39) := hR5.form 4
            have o5 : (w2.setCell ⟨Kb + 1, 4, none⟩ (.int .u64 (z : Nat))).cell? ⟨w.heap.size, 5, none⟩ = some (.int .u64 14) := hR5.form 5
            have o6 : (w2.setCell ⟨Kb + 1, 4, none⟩ (.int .u64 (z : Nat))).cell? ⟨w.heap.size, 6, none⟩ = some (.int .u64 18) := hR5.form 6
            have o7 : (w2.setCell ⟨Kb + 1, 4, none⟩ (.int .u64 (z : Nat))).cell? ⟨w.heap.size, 7, none⟩ = some (.int .u64 41) := hR5.form 7
            have o8 : (w2.setCell ⟨Kb + 1, 4, none⟩ (.int .u64 (z : Nat))).cell? ⟨w.heap.size, 8, none⟩ = some (.int .u64 1) := hR5.form 8
            have o9 : (w2.setCell ⟨Kb + 1, 4, none⟩ (.int .u64 (z : Nat))).cell? ⟨w.heap.size, 9, none⟩ = some (.int .u64 8) := hR5.form 9
            have o10 : (w2.setCell ⟨Kb + 1, 4, none⟩ (.int .u64 (z : Nat))).cell? ⟨w.heap.size, 10, none⟩ = some (.int .u64 7) := hR5.form 10
            have o11 : (w2.setCell ⟨Kb + 1, 4, none⟩ (.int .u64 (z : Nat))).cell? ⟨w.heap.size, 11, none⟩ = some (.int .u64 19) := hR5.form 11
            have o12 : (w2.setCell ⟨Kb + 1, 4, none⟩ (.int .u64 (z : Nat))).cell? ⟨w.heap.size, 12, none⟩ = some (.int .u64 61) := hR5.form 12
            have o13 : (w2.setCell ⟨Kb + 1, 4, none⟩ (.int .u64 (z : Nat))).cell? ⟨w.heap.size, 13, none⟩ = some (.int .u64 6) := hR5.form 13
            have RR2 := Lib.hid hR5; clear hR5 hR hbw
            go_wp2_with fail
            refine (K5.out _).mono ?_
            rintro e' w3 ⟨rfl, hbw⟩
            have hR := RR2.out.next hbw
            have x0 := hR.hv.cell (j := 0) (x := a) rfl
            have z0 := hR.hv.frozen 0
            have RR3 := Lib.hid (show Bb64 w Kb l s.list [y, a, b', c, z, e, f, g] (w3.setCell ⟨Kb + 1, 0, none⟩ (.int .u64 (y : Nat))) from hR.stepV 0 y)
            clear hR hbw
            go_wp2
            go_roundw
            case rel => exact ⟨i + 1, by omega, by go_num, by rw [HNX.out]; exact RR3.out⟩
            case measure => simp [intOf]; omega
    · obtain rfl : i = 80 := by omega
      have HQ := Lib.hid hR; clear hR hv
      go_wp2
      apply HY.out
      exact HQ.out

end Go.Proofs.YtfahmbkeibeceaaDoor
