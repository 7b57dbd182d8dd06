/- What only this law leans on. -/
import Derived.Test.YtppkigdakobebaaBchBoundsG3
set_option linter.unusedSimpArgs false
set_option linter.unusedVariables false
namespace Go.Proofs.Ytppkigdakobebaa
open Go.RowKit
section
variable {P : Program} {X : World -> Prop} {n : Nat} {ro : Option Nat} {df : List Deferred} {N : Jy} {L : Fr} {w w0 : World} {mr : Option Nat} {R : List Rw} {ops : Array Oper} {rest : List Oper}
variable {d : Nat} {ty : TypeId} {pos : String} {af : Array Edge}
theorem F5.mk2 {P : Program} {t u : TypeId} {f0 f1 f2 f3 f4 : Field} (hu : P.underlying t = some (.struct #[f0, f1, f2, f3, f4])) (h1 : f0.offset = 0 /\ f1.offset = 1 /\ f2.offset = 2 /\ f3.offset = 3 /\ f4.offset = 4 /\ f0.type = u /\ f1.type = u /\ f2.type = u /\ f3.type = u /\ f4.type = u /\ f0.name ≠ "_" /\ f1.name ≠ "_" /\ f2.name ≠ "_" /\ f3.name ≠ "_" /\ f4.name ≠ "_")
    (sh : P.stoodInHeld t = false) (gd : P.eqGuardType P.depth t = false) (int : P.underlying u = some (.int .i64)) : F5 P t u := by
  have hf : P.fieldsOf t = #[f0, f1, f2, f3, f4] := by unfold Program.fieldsOf; rw [hu]
  exact ⟨⟨f0, f1, f2, f3, f4, hf, h1⟩, by rw [hf]; exact hu, sh, gd, int⟩
theorem Y6 {P : Program} {w : World} {u i : Nat} {cs : Array Value} {v : Value} (hu : P.underlying u = some (.int .i64)) (hv : cs[i]? = some v) : (part u cs i).run P w = .ok v w := by
  have hag : (isAgg u).run P w = .ok false w := by simp only [isAgg, Sem.run_bind, run_underlying hu, Result.andThen_ok]; rfl
  simp [part, hag, hv]
theorem J8 {P : Program} {w : World} {u i : Nat} {f : Field} {fs : List Field} {xs ys : Array Value} {x y : Int} (hu : P.underlying u = some (.int .i64)) (hn : f.name ≠ "_") (ht : f.type = u) (ho : f.offset = i) (hx : xs[i]? = some (.int .i64 x)) (hy : ys[i]? = some (.int .i64 y)) :
    (Op.eqFields 9999 xs ys (f :: fs)).run P w = if x = y then (Op.eqFields 9999 xs ys fs).run P w else .ok false w := by
  subst ht ho
  have he : (Op.equalIn 9999 f.type (.int .i64 x) (.int .i64 y)).run P w = .ok (x == y) w := run_equalIn_int w 9998 f.type .i64 .i64 x y hu
  conv => lhs; unfold Op.eqFields
  rw [if_pos hn]
  simp only [Sem.run_bind, Y6 hu hx, Y6 hu hy, Result.andThen_ok, he]
  by_cases h : x = y
  . simp [h]
  . simp [h]
theorem Jbv {P : Program} {w : World} {t u : TypeId} (h : F5 P t u) (a b c d e a' b' c' d' e' : Int) :
    (Op.equal t (.agg #[.int .i64 a, .int .i64 b, .int .i64 c, .int .i64 d, .int .i64 e]) (.agg #[.int .i64 a', .int .i64 b', .int .i64 c', .int .i64 d', .int .i64 e'])).run P w = .ok (decide (a = a' /\ b = b' /\ c = c' /\ d = d' /\ e = e')) w := by
  obtain ⟨f0, f1, f2, f3, f4, hf, o0, o1, o2, o3, o4, t0, t1, t2, t3, t4, n0, n1, n2, n3, n4⟩ := h.ex
  unfold Op.equal
  show (Op.equalIn (9999 + 1) t _ _).run P w = _
  rw [run_equalIn_struct w 9999 t _ _ h.st h.sh, hf]
  show (Op.eqFields 9999 _ _ [f0, f1, f2, f3, f4]).run P w = _
  rw [J8 h.int n0 t0 o0 rfl rfl, J8 h.int n1 t1 o1 rfl rfl, J8 h.int n2 t2 o2 rfl rfl, J8 h.int n3 t3 o3 rfl rfl, J8 h.int n4 t4 o4 rfl rfl]
  show (if a = a' then if b = b' then if c = c' then if d = d' then if e = e' then .ok true w else .ok false w else .ok false w else .ok false w else .ok false w else .ok false w) = Result.ok (decide (a = a' /\ b = b' /\ c = c' /\ d = d' /\ e = e')) w
  by_cases e0 : a = a' <;> by_cases e1 : b = b' <;> by_cases e2 : c = c' <;> by_cases e3 : d = d' <;> by_cases e4 : e = e' <;> simp [e0, e1, e2, e3, e4]
theorem JW {x y : Operand} {t u tb : TypeId} {a b c d' e a' b' c' d2 e' : Int} (hF : F5 P t u) (hx : ev L x = some (.agg #[.int .i64 a, .int .i64 b, .int .i64 c, .int .i64 d', .int .i64 e])) (hy : ev L y = some (.agg #[.int .i64 a', .int .i64 b', .int .i64 c', .int .i64 d2, .int .i64 e'])) (hn : Nat.blt d n = true)
    (h : WL P n ro df ops rest N ((d, .bool (decide (a = a' /\ b = b' /\ c = c' /\ d' = d2 /\ e = e'))) :: L) w) : WL P n ro df ops (⟨some d, .binOp .eql t x y tb, ty, pos, af, none⟩ :: rest) N L w :=
  WL.val rfl rfl hn (fun q ha => by
    have h1 := run_eqGuard_agg (P := P) w .eql t x y #[.int .i64 a, .int .i64 b, .int .i64 c, .int .i64 d', .int .i64 e] #[.int .i64 a', .int .i64 b', .int .i64 c', .int .i64 d2, .int .i64 e'] hF.gd
    simp [execOp, ha.ev hx, ha.ev hy, h1, binOp, Jbv hF]) h
end
end Go.Proofs.Ytppkigdakobebaa
set_option linter.unusedVariables false
namespace Go.Proofs.Ytppkigdakobebaa
open Go.RowKit
theorem QH : F5 Try.prog 38 3 := F5.mk2 Try.underlying38 (by decide) Try.stoodInHeld38 Try.eqGuardType38 Try.underlying3
theorem Try.fla38_0 : YS Try.prog 38 0 0 = true := by kernel_rfl
theorem Try.fla38_1 : YS Try.prog 38 1 1 = true := by kernel_rfl
theorem Try.nm23 : (Try.f23.name == "runtime.NumGoroutine") = false := by kernel_rfl
theorem Try.nm26 : (Try.f26.name == "runtime.NumGoroutine") = false := by kernel_rfl
theorem Try.nm62 : (Try.f62.name == "runtime.NumGoroutine") = false := by kernel_rfl
theorem Try.nm63 : (Try.f63.name == "runtime.NumGoroutine") = false := by kernel_rfl
theorem Try.nm64 : (Try.f64.name == "runtime.NumGoroutine") = false := by kernel_rfl
theorem Try.nm70 : (Try.f70.name == "runtime.NumGoroutine") = false := by kernel_rfl
theorem Try.nm104 : (Try.f104.name == "runtime.NumGoroutine") = false := by kernel_rfl
end Go.Proofs.Ytppkigdakobebaa
namespace Go.Proofs.Ytppkigdakobebaa
open Go.RowKit
abbrev Zo := Try.fla38_0
abbrev QD := Try.fla38_1
abbrev Jax := Try.func104
abbrev XF23 := Try.func23
abbrev XF26 := Try.func26
abbrev XF6 := Try.func6
abbrev XF62 := Try.func62
abbrev XF63 := Try.func63
abbrev Jbh := Try.func64
abbrev XF70 := Try.func70
abbrev Jcf := Try.nm104
abbrev XN23 := Try.nm23
abbrev XN26 := Try.nm26
abbrev XN62 := Try.nm62
abbrev XN63 := Try.nm63
abbrev XN64 := Try.nm64
abbrev XN70 := Try.nm70
end Go.Proofs.Ytppkigdakobebaa
set_option linter.unusedSimpArgs false
set_option linter.unusedVariables false
set_option maxRecDepth 4000
set_option maxHeartbeats 4000000
namespace Go.Proofs.Ytppkigdakobebaa
open Go.RowKit
def JT (n : Int) (l : List Int) (Q : List Int -> Prop) : Prop :=
  ∃ (I26 : List Int -> Int -> Prop) (μ27 : List Int -> Int -> Nat), I26 ([] : List Int) (0 : Int) /\ ∀ (x21 : List Int) (z25 : Int), (I26 x21 z25 -> (((z25 < (l.length : Int)) -> ((0 <= z25 /\ z25 < (l.length : Nat)) /\ (JN (gi l z25) n (fun r32 => (((x21.length : Nat) + (1 : Nat) : Int) * 8 <= 140737488355328) /\ ((I64 (z25 + 1)) /\ (I26 (x21 ++ ([r32] : List Int)) (z25 + 1) /\ μ27 (x21 ++ ([r32] : List Int)) (z25 + 1) < μ27 x21 z25)))))) /\ (¬ (z25 < (l.length : Int)) -> Q x21)))
theorem Ql {w : World} {Q : List Int -> Prop} {n : Int} {l : List Int} {Bl : Nat} {Al : Option Addr} {nl kl : Nat} (hl : Rd Bl w 1 Al nl kl (is l)) (hv : JT n l Q) :
    Calls Try.prog 63 #[.int .i64 n, .slice Al nl kl] w <| Rt w fun v Qr => ∃ (x : List Int)  (A : Option Addr) (c : Nat), v = .slice A x.length c /\ Qr = [.row 3 1 A x.length c (is x)] /\ Q x := by
  have hnl := hl.ilen
  subst hnl
  refine Jm <| Jl (vs := [nI n, nS Al l kl]) [4] XF63 rfl rfl rfl rfl ?_
  have hS := Jp w
  unfold JT at hv
  refine Je 13 <| W.block ?_
  obtain ⟨I26, μ27, hv, hk41⟩ := hv
  have hS := hS.nil (e := 3) (z := 1)
  have hm0 : 0 = ([] : List Int).length := (hS.rd (i := 0) rfl).ilen.symm
  have hS := hS.relen (i := 0) rfl hm0
  change St _ _ _ _ [_] at hS
  refine JB (σ := List Int × Int × Option Addr × Nat) (fun q w1 => match q with | (x21, z25, A22, k23) => I26 x21 z25 /\ St TT w none w1 [nR 3 A22 x21 k23]) (fun (x21, z25, A22, k23) => [(0, nI n), (1, nS Al l kl), (4, .slice none 0 0), (5, nS A22 x21 k23), (6, nI z25)]) (fun (x21, z25, A22, k23) => μ27 x21 z25) (([] : List Int), (0 : Int), none, 0) ⟨hv, hS⟩ ⟨rfl, rfl, rfl, (sm (by first | rfl | assumption | omega)), rfl, trivial⟩ ?_
  rintro ⟨x21, z25, A22, k23⟩ w28 ⟨hv, hS⟩
  have hv := hk41 x21 z25 hv
  refine Je 5 <| WL.len JK rfl rfl <| Jb 2 <| Jg rfl (fun c29 => ?_) (fun c29 => ?_)
  .have hv := hv.1 (oT c29)
   refine Jh <| Jz <| W.block <| Je 4 ?_
   obtain ⟨o30, hv⟩ := hv
   refine JF JK XE3 (hS.ro hl) rfl rfl o30 rfl <| JI XU3 rfl rfl (Qw (hS.ro hl) o30) rfl <| Jd rfl rfl <| SL.call hS (JP  hv) Q2 rfl Ye rfl rfl ?_
   rintro _ _ w31 ⟨r32, rfl, rfl, hv⟩ hGw31 hS
   have hS := hS.n0
   refine QG (vs := is ([r32] : List Int)) hS JK XE3 rfl rfl rfl rfl (JZ _) rfl ?_
   intro A33 w34 hS
   obtain ⟨o36, hv⟩ := hv
   refine SL.append (cs := is x21) (cs' := is ([r32] : List Int)) 1 ((x21 ++ ([r32] : List Int)).length) (is (x21 ++ ([r32] : List Int))) hS rfl JK XE3 (hS.rd (i := 0) rfl) (JZ _) rfl rfl (apk o36).1 (apk o36).2 (YQ (hS.rd (i := 1) rfl) (hS.rd (i := 0) rfl)) (J4 _ _) rfl ?_
   intro A37 k38 w39 hS
   refine Jb 2 <| Je 2 ?_
   obtain ⟨o40, hv⟩ := hv
   refine WL.add (r := (z25 + 1)) rfl rfl (wr o40) rfl <| Jb 2 ?_
   have hS := hS.pick [1] rfl
   exact ⟨(x21 ++ ([r32] : List Int), (z25 + 1), A37, k38), sp rfl, hv.2, rfl, hv.1, hS⟩
  have hv := hv.2 (oF c29)
  refine Jt <| Je 5 <| W.ret <| ⟨_, rfl, Fin.nil ?_⟩
  exact (hS.pick [0] rfl).fin rfl ⟨x21, A22, k23, rfl, rfl, hv⟩
def Yh (l : List Int) (x : Int) (Q : Bool -> Prop) : Prop :=
  ∃ (I14 : Int -> Prop) (μ15 : Int -> Nat), I14 0 /\ ∀ (z13 : Int), (I14 z13 -> (((z13 < (l.length : Int)) -> ((0 <= z13 /\ z13 < (l.length : Nat)) /\ ((((gi l z13) = x) -> Q true) /\ (¬ ((gi l z13) = x) -> ((I64 (z13 + 1)) /\ (I14 (z13 + 1) /\ μ15 (z13 + 1) < μ15 z13)))))) /\ (¬ (z13 < (l.length : Int)) -> Q false)))
theorem YM {w : World} {Q : Bool -> Prop} {l : List Int} {x : Int} {Bl : Nat} {Al : Option Addr} {nl kl : Nat} (hl : Rd Bl w 1 Al nl kl (is l)) (hv : Yh l x Q) :
    Calls Try.prog 64 #[.slice Al nl kl, .int .i64 x] w <| Rt w fun v Qr => ∃ (r0 : Bool), v = .bool r0 /\ Qr = [] /\ Q r0 := by
  have hnl := hl.ilen
  subst hnl
  refine Jm <| Jl (vs := [nS Al l kl, nI x]) [4] Jbh rfl rfl rfl rfl ?_
  have hS := Jp w
  unfold Yh at hv
  refine Je 9 <| W.block ?_
  obtain ⟨I14, μ15, hv, hk21⟩ := hv
  refine JB (σ := Int) (fun z13 w1 => I14 z13 /\ St TT w none w1 []) (fun z13 => [(0, nS Al l kl), (1, nI x), (4, .bool false), (5, nI z13)]) (fun z13 => μ15 z13) (0 : Int) ⟨hv, hS⟩ ⟨rfl, rfl, rfl, rfl, trivial⟩ ?_
  rintro z13 w16 ⟨hv, hS⟩
  have hv := hk21 z13 hv
  refine Je 5 <| WL.len JK rfl rfl <| Jb 2 <| Jg rfl (fun c17 => ?_) (fun c17 => ?_)
  .have hv := hv.1 (oT c17)
   refine Jh <| Jz <| W.block <| Je 4 ?_
   obtain ⟨o18, hv⟩ := hv
   refine JF JK XE3 (hS.ro hl) rfl rfl o18 rfl <| JI XU3 rfl rfl (Qw (hS.ro hl) o18) rfl <| Jb 3 <| Jg rfl (fun c19 => ?_) (fun c19 => ?_)
   .have hv := hv.1 (oT c19)
    refine Je 4 <| W.ret <| ⟨_, rfl, Fin.nil ?_⟩
    exact (hS.pick [] rfl).fin rfl ⟨true, rfl, rfl, hv⟩
   have hv := hv.2 (oF c19)
   refine Jh <| Je 2 ?_
   obtain ⟨o20, hv⟩ := hv
   refine WL.add (r := (z13 + 1)) rfl rfl (wr o20) rfl <| Jb 2 ?_
   exact ⟨(z13 + 1), sp rfl, hv.2, rfl, hv.1, hS⟩
  have hv := hv.2 (oF c17)
  refine Jt <| Je 4 <| W.ret <| ⟨_, rfl, Fin.nil ?_⟩
  exact (hS.pick [] rfl).fin rfl ⟨false, rfl, rfl, hv⟩
def Yo (x : Int) (Q : Bool -> Prop) : Prop :=
  (((-2147483648 : Int) <= x) -> (Q (decide (x <= 2147483648)))) /\ (¬ ((-2147483648 : Int) <= x) -> Q false)
theorem Zi {w : World} {Q : Bool -> Prop} {x : Int}  (hv : Yo x Q) :
    Calls Try.prog 104 #[.int .i64 x] w <| Rt w fun v Qr => ∃ (r0 : Bool), v = .bool r0 /\ Qr = [] /\ Q r0 := by
  refine Jm <| Jl (vs := [nI x]) [2] Jax rfl rfl rfl rfl ?_
  have hS := Jp w
  unfold Yo at hv
  refine Je 8 <| Jd rfl rfl ?_
  by_cases g11 : (-2147483648 : Int) <= x
  .have hv := hv.1 g11
   rw [decide_eq_true g11]
   refine Jb 7 <| W.ret <| ⟨_, rfl, Fin.nil ?_⟩
   exact (hS.pick [] rfl).fin rfl ⟨(decide (x <= 2147483648)), rfl, rfl, hv⟩
  have hv := hv.2 g11
  rw [decide_eq_false g11]
  refine Jb 5 <| W.ret <| ⟨_, rfl, Fin.nil ?_⟩
  exact (hS.pick [] rfl).fin rfl ⟨false, rfl, rfl, hv⟩
def Qf (n : Int) (r0 : Int) (r1 : Int) (r2 : Int) (r3 : Int) (r4 : Int) (Q : Int -> Prop) : Prop :=
  ((n < 1) -> (Q 4)) /\ (¬ (n < 1) -> ((((64 : Int) < n) -> (Q 4)) /\ (¬ ((64 : Int) < n) -> (Yo r0 (fun r16 => (((!r16) = true) -> (Q 6)) /\ ((!r16) = false -> (Yo r1 (fun r19 => (((!r19) = true) -> (Q 6)) /\ ((!r19) = false -> (Yo r3 (fun r22 => (((!r22) = true) -> (Q 6)) /\ ((!r22) = false -> (((r2 < 1) -> (Q 6)) /\ (¬ (r2 < 1) -> (((n < r2) -> (Q 6)) /\ (¬ (n < r2) -> (((r4 < 0) -> (Q 6)) /\ (¬ (r4 < 0) -> (((n < r4) -> (Q 6)) /\ (¬ (n < r4) -> (Q 0)))))))))))))))))))))
theorem YY {w : World} {Q : Int -> Prop} {n : Int} {r0 : Int} {r1 : Int} {r2 : Int} {r3 : Int} {r4 : Int}  (hv : Qf n r0 r1 r2 r3 r4 Q) :
    Calls Try.prog 62 #[.int .i64 n, .agg #[.int .i64 r0, .int .i64 r1, .int .i64 r2, .int .i64 r3, .int .i64 r4]] w <| Rt w fun v Qr => ∃ (r0 : Int), v = .int .i64 r0 /\ Qr = [] /\ Q r0 := by
  refine Jm <| Jl (vs := [nI n, .agg #[nI r0, nI r1, nI r2, nI r3, nI r4]]) [4] XF62 rfl rfl rfl rfl ?_
  have hS := Jp w
  unfold Qf at hv
  refine Je 2 <| Q6 (z := 5) (cs := [nI r0, nI r1, nI r2, nI r3, nI r4]) hS rfl rfl rfl rfl ?_
  intro g11 w12 hS
  refine Jb 2 <| Je 5 <| Jd rfl rfl ?_
  by_cases g13 : n < 1
  .have hv := hv.1 g13
   rw [decide_eq_true g13]
   refine Jb 4 <| Jq rfl <| Je 4 <| W.ret <| ⟨_, rfl, Fin.nil ?_⟩
   exact (hS.pick [] rfl).fin rfl ⟨(4 : Int), rfl, rfl, hv⟩
  have hv := hv.2 g13
  rw [decide_eq_false g13]
  refine Jb 6 <| Jg rfl (fun c14 => ?_) (fun c14 => ?_)
  .have hv := hv.1 (oT c14)
   refine Je 4 <| W.ret <| ⟨_, rfl, Fin.nil ?_⟩
   exact (hS.pick [] rfl).fin rfl ⟨(4 : Int), rfl, rfl, hv⟩
  have hv := hv.2 (oF c14)
  refine Jh <| Je 3 <| Jc (off := 0) Zo rfl rfl <| Jo 0 0 XU3 hS rfl rfl rfl ⟨rfl, rfl⟩ <| SL.call hS (Zi  hv) Jax rfl Jcf rfl rfl ?_
  rintro _ _ w15 ⟨r16, rfl, rfl, hv⟩ hGw15 hS
  have hS := hS.n0
  refine Jab rfl rfl <| Jd rfl rfl ?_
  rcases g17 : (!r16) with _ | _
  .have hv := hv.2 g17
   refine WL.take rfl <| Jc (off := 1) QD rfl rfl <| WL.take rfl <| Jo 0 1 XU3 hS rfl rfl rfl ⟨rfl, rfl⟩ <| WL.take rfl <| SL.call hS (Zi  hv) Jax rfl Jcf rfl rfl ?_
   rintro _ _ w18 ⟨r19, rfl, rfl, hv⟩ hGw18 hS
   have hS := hS.n0
   refine Jb 3 <| Jd rfl rfl ?_
   rcases g20 : (!r19) with _ | _
   .have hv := hv.2 g20
    refine WL.take rfl <| Jc (off := 3) QC rfl rfl <| WL.take rfl <| Jo 0 3 XU3 hS rfl rfl rfl ⟨rfl, rfl⟩ <| WL.take rfl <| SL.call hS (Zi  hv) Jax rfl Jcf rfl rfl ?_
    rintro _ _ w21 ⟨r22, rfl, rfl, hv⟩ hGw21 hS
    have hS := hS.n0
    refine Jb 3 <| Jd rfl rfl ?_
    rcases g23 : (!r22) with _ | _
    .have hv := hv.2 g23
     refine WL.take rfl <| Jc (off := 2) J2 rfl rfl <| WL.take rfl <| Jo 0 2 XU3 hS rfl rfl rfl ⟨rfl, rfl⟩ <| Jb 3 <| Jd rfl rfl ?_
     by_cases g24 : r2 < 1
     .have hv := hv.1 g24
      rw [decide_eq_true g24]
      refine Jb 17 <| Jq rfl <| Je 4 <| W.ret <| ⟨_, rfl, Fin.nil ?_⟩
      exact (hS.pick [] rfl).fin rfl ⟨(6 : Int), rfl, rfl, hv⟩
     have hv := hv.2 g24
     rw [decide_eq_false g24]
     refine WL.take rfl <| Jc (off := 2) J2 rfl rfl <| WL.take rfl <| Jo 0 2 XU3 hS rfl rfl rfl ⟨rfl, rfl⟩ <| Jb 5 <| Jd rfl rfl ?_
     by_cases g25 : n < r2
     .have hv := hv.1 g25
      rw [decide_eq_true g25]
      refine Jb 11 <| Jq rfl <| Je 4 <| W.ret <| ⟨_, rfl, Fin.nil ?_⟩
      exact (hS.pick [] rfl).fin rfl ⟨(6 : Int), rfl, rfl, hv⟩
     have hv := hv.2 g25
     rw [decide_eq_false g25]
     refine WL.take rfl <| Jc (off := 4) JM rfl rfl <| WL.take rfl <| Jo 0 4 XU3 hS rfl rfl rfl ⟨rfl, rfl⟩ <| Jb 3 <| Jd rfl rfl ?_
     by_cases g26 : r4 < 0
     .have hv := hv.1 g26
      rw [decide_eq_true g26]
      refine Jb 6 <| Jq rfl <| Je 4 <| W.ret <| ⟨_, rfl, Fin.nil ?_⟩
      exact (hS.pick [] rfl).fin rfl ⟨(6 : Int), rfl, rfl, hv⟩
     have hv := hv.2 g26
     rw [decide_eq_false g26]
     refine WL.take rfl <| Jc (off := 4) JM rfl rfl <| WL.take rfl <| Jo 0 4 XU3 hS rfl rfl rfl ⟨rfl, rfl⟩ <| Jb 6 <| Jg rfl (fun c27 => ?_) (fun c27 => ?_)
     .have hv := hv.1 (oT c27)
      refine Je 4 <| W.ret <| ⟨_, rfl, Fin.nil ?_⟩
      exact (hS.pick [] rfl).fin rfl ⟨(6 : Int), rfl, rfl, hv⟩
     have hv := hv.2 (oF c27)
     refine Jh <| Je 4 <| W.ret <| ⟨_, rfl, Fin.nil ?_⟩
     exact (hS.pick [] rfl).fin rfl ⟨(0 : Int), rfl, rfl, hv⟩
    have hv := hv.1 g23
    refine Jb 22 <| Jq rfl <| Je 4 <| W.ret <| ⟨_, rfl, Fin.nil ?_⟩
    exact (hS.pick [] rfl).fin rfl ⟨(6 : Int), rfl, rfl, hv⟩
   have hv := hv.1 g20
   refine Jb 28 <| Jq rfl <| Je 4 <| W.ret <| ⟨_, rfl, Fin.nil ?_⟩
   exact (hS.pick [] rfl).fin rfl ⟨(6 : Int), rfl, rfl, hv⟩
  have hv := hv.1 g17
  refine Jb 34 <| Jq rfl <| Je 4 <| W.ret <| ⟨_, rfl, Fin.nil ?_⟩
  exact (hS.pick [] rfl).fin rfl ⟨(6 : Int), rfl, rfl, hv⟩
def J5 (n : Int) (z : List Int) (r0 : Int) (r1 : Int) (r2 : Int) (r3 : Int) (r4 : Int) (Q : Int × Int -> Prop) : Prop :=
  Qf n r0 r1 r2 r3 r4 (fun r14 => ((r14 ≠ 0) -> (Q ((0 : Int), r14))) /\ (¬ (r14 ≠ 0) -> ((∃ (r20 : Int), JN r1 n (fun q => q = r20) /\ (∃ (r25 : Int), JV r20 n (fun q => q = r25) /\ ((r25 ≠ 1) /\ (Q ((0 : Int), (13 : Int)))))) ∨ ((((0 : Int) < r4) -> (∃ (r52 : Int), JN r1 n (fun q => q = r52) /\ (∃ (r57 : Int), JV r52 n (fun q => q = r57) /\ ((¬ (r57 ≠ 1)) /\ (∃ (r71 : Int), JN r3 n (fun q => q = r71) /\ (∃ (r76 : Int), JV r71 n (fun q => q = r76) /\ ((r2 < r76) /\ (Q ((0 : Int), (13 : Int)))))))))) /\ (¬ ((0 : Int) < r4) -> (∃ (r90 : Int), JN r1 n (fun q => q = r90) /\ (∃ (r95 : Int), JV r90 n (fun q => q = r95) /\ ((¬ (r95 ≠ 1)) /\ (JT n z (fun x118 => ∃ (I125 : Int -> Prop) (μ126 : Int -> Nat), I125 0 /\ ∀ (z124 : Int), (I125 z124 -> (((z124 < r2) -> (∃ (I132 : Int -> Prop) (μ133 : Int -> Nat), I132 0 /\ ∀ (z131 : Int), (I132 z131 -> (((z131 <= r4) -> ((I64 (z124 * r1)) /\ ((I64 (r0 + (z124 * r1))) /\ ((I64 (z131 * r3)) /\ ((I64 ((r0 + (z124 * r1)) + (z131 * r3))) /\ (JN ((r0 + (z124 * r1)) + (z131 * r3)) n (fun r141 => Yh x118 r141 (fun r143 => (((!r143) = true) -> (Q ((0 : Int), (13 : Int)))) /\ ((!r143) = false -> ((I64 (z131 + 1)) /\ (I132 (z131 + 1) /\ μ133 (z131 + 1) < μ133 z131))))))))))) /\ (¬ (z131 <= r4) -> ((I64 (z124 + 1)) /\ (I125 (z124 + 1) /\ μ126 (z124 + 1) < μ126 z124))))))) /\ (¬ (z124 < r2) -> ((I64 (r2 + 1)) /\ ((I64 ((r2 + 1) + r4)) /\ (Q (((r2 + 1) + r4), (0 : Int))))))))))))))) ∨ ((((0 : Int) < r4) -> (∃ (r156 : Int), JN r1 n (fun q => q = r156) /\ (∃ (r161 : Int), JV r156 n (fun q => q = r161) /\ ((¬ (r161 ≠ 1)) /\ (∃ (r175 : Int), JN r3 n (fun q => q = r175) /\ (∃ (r180 : Int), JV r175 n (fun q => q = r180) /\ ((¬ (r2 < r180)) /\ (JT n z (fun x191 => ∃ (I198 : Int -> Prop) (μ199 : Int -> Nat), I198 0 /\ ∀ (z197 : Int), (I198 z197 -> (((z197 < r2) -> (∃ (I205 : Int -> Prop) (μ206 : Int -> Nat), I205 0 /\ ∀ (z204 : Int), (I205 z204 -> (((z204 <= r4) -> ((I64 (z197 * r1)) /\ ((I64 (r0 + (z197 * r1))) /\ ((I64 (z204 * r3)) /\ ((I64 ((r0 + (z197 * r1)) + (z204 * r3))) /\ (JN ((r0 + (z197 * r1)) + (z204 * r3)) n (fun r214 => Yh x191 r214 (fun r216 => (((!r216) = true) -> (Q ((0 : Int), (13 : Int)))) /\ ((!r216) = false -> ((I64 (z204 + 1)) /\ (I205 (z204 + 1) /\ μ206 (z204 + 1) < μ206 z204))))))))))) /\ (¬ (z204 <= r4) -> ((I64 (z197 + 1)) /\ (I198 (z197 + 1) /\ μ199 (z197 + 1) < μ199 z197))))))) /\ (¬ (z197 < r2) -> ((I64 (r2 + 1)) /\ ((I64 ((r2 + 1) + r4)) /\ (Q (((r2 + 1) + r4), (0 : Int))))))))))))))))) /\ (¬ ((0 : Int) < r4) -> (∃ (r228 : Int), JN r1 n (fun q => q = r228) /\ (∃ (r233 : Int), JV r228 n (fun q => q = r233) /\ ((¬ (r233 ≠ 1)) /\ (JT n z (fun x256 => ∃ (I263 : Int -> Prop) (μ264 : Int -> Nat), I263 0 /\ ∀ (z262 : Int), (I263 z262 -> (((z262 < r2) -> (∃ (I270 : Int -> Prop) (μ271 : Int -> Nat), I270 0 /\ ∀ (z269 : Int), (I270 z269 -> (((z269 <= r4) -> ((I64 (z262 * r1)) /\ ((I64 (r0 + (z262 * r1))) /\ ((I64 (z269 * r3)) /\ ((I64 ((r0 + (z262 * r1)) + (z269 * r3))) /\ (JN ((r0 + (z262 * r1)) + (z269 * r3)) n (fun r279 => Yh x256 r279 (fun r281 => (((!r281) = true) -> (Q ((0 : Int), (13 : Int)))) /\ ((!r281) = false -> ((I64 (z269 + 1)) /\ (I270 (z269 + 1) /\ μ271 (z269 + 1) < μ271 z269))))))))))) /\ (¬ (z269 <= r4) -> ((I64 (z262 + 1)) /\ (I263 (z262 + 1) /\ μ264 (z262 + 1) < μ264 z262))))))) /\ (¬ (z262 < r2) -> ((I64 (r2 + 1)) /\ ((I64 ((r2 + 1) + r4)) /\ (Q (((r2 + 1) + r4), (0 : Int))))))))))))))))))
theorem Qy {w : World} {Q : Int × Int -> Prop} {n : Int} {z : List Int} {r0 : Int} {r1 : Int} {r2 : Int} {r3 : Int} {r4 : Int} {Bz : Nat} {Az : Option Addr} {nz kz : Nat} (hz : Rd Bz w 1 Az nz kz (is z)) (hv : J5 n z r0 r1 r2 r3 r4 Q) :
    Calls Try.prog 23 #[.int .i64 n, .slice Az nz kz, .agg #[.int .i64 r0, .int .i64 r1, .int .i64 r2, .int .i64 r3, .int .i64 r4]] w <| Rt w fun v Qr => ∃ (r0 : Int) (r1 : Int), v = .tuple #[.int .i64 r0, .int .i64 r1] /\ Qr = [] /\ Q (r0, r1) := by
  have hnz := hz.ilen
  subst hnz
  refine Jm <| Jl (vs := [nI n, nS Az z kz, .agg #[nI r0, nI r1, nI r2, nI r3, nI r4]]) [6, 7] XF23 rfl rfl rfl rfl ?_
  have hS := Jp w
  unfold J5 at hv
  refine Je 2 <| Q6 (z := 5) (cs := [nI r0, nI r1, nI r2, nI r3, nI r4]) hS rfl rfl rfl rfl ?_
  intro g11 w12 hS
  refine Jb 3 <| Je 3 <| Jr 0 Jk JA hS rfl ⟨rfl, rfl⟩ rfl <| SL.call hS (YY  hv) XF62 rfl XN62 rfl rfl ?_
  rintro _ _ w13 ⟨r14, rfl, rfl, hv⟩ hGw13 hS
  have hS := hS.n0
  refine Jb 2 <| Je 6 <| Jg rfl (fun c15 => ?_) (fun c15 => ?_)
  .have hv := hv.1 (oT c15)
   refine Je 6 <| W.ret <| ⟨_, rfl, Fin.nil ?_⟩
   exact (hS.pick [] rfl).fin rfl ⟨(0 : Int), r14, rfl, rfl, hv⟩
  have hv := hv.2 (oF c15)
  refine Jh <| Jz <| Jz ?_
  rcases hv with hv | hv | hv
  .obtain ⟨r20, o22, hv⟩ := hv
   obtain ⟨r25, o27, hv⟩ := hv
   obtain ⟨o29, hv⟩ := hv
   refine JQ 23 [⟨[], [5], true⟩, ⟨[0], [], false⟩, ⟨[], [0], true⟩, ⟨[1, 2], [], false⟩, ⟨[], [0], true⟩, ⟨[3, 4], [], false⟩, ⟨[5], [], true⟩, ⟨[6], [], true⟩, ⟨[7], [5], true⟩, ⟨[7, 8], [], false⟩, ⟨[7, 9], [], true⟩, ⟨[7, 10], [], true⟩, ⟨[11], [5], true⟩, ⟨[11, 12], [], false⟩, ⟨[11], [0], true⟩, ⟨[11, 13, 14], [], false⟩, ⟨[11], [0], true⟩, ⟨[11, 15, 16], [], false⟩, ⟨[11], [5], true⟩, ⟨[11, 18], [], false⟩, ⟨[11, 17, 19], [], true⟩, ⟨[7, 11, 20], [], true⟩, ⟨[7, 21], [], true⟩] [(18, .pointer (some ((⟨g11, 0, none⟩ : Addr).add 1))), (19, nI r1), (20, nI n), (21, nI r20), (22, nI n), (23, nI r25), (24, .bool true), (25, .bool true), (26, undef), (27, undef), (28, undef), (29, undef), (30, undef), (31, undef), (32, undef), (33, undef), (34, undef), (35, undef), (36, undef), (37, undef), (38, undef), (39, undef), (40, .bool true)] Try.mixed (by kernel_rfl) rfl rfl ?_ ?_
   . refine ⟨fun _ _ _ => Jc (off := 1) QD rfl rfl <| Ja ⟨rfl, rfl⟩, og hS fun _ _ hS => Jo 0 1 XU3 hS rfl rfl rfl ⟨rfl, rfl⟩ <| Ja ⟨rfl, Ji _⟩, oD, ?_, oD, ?_, ?_, oD, oD, oD, oD, oD, oD, oD, oD, oD, oD, oD, oD, oD, oD, oD, oD, trivial⟩
     . intro w19 hE RR
       refine WL.call Q2 rfl Ye rfl rfl (Jw (JP  o22)) ?_
       rintro _ w21 ⟨_, hGw21, hRww21, hNww21, r20q, rfl, rfl, he⟩
       subst he
       exact Ja ⟨rfl, hGw21⟩
     . intro w24 hE RR
       refine WL.call Yy rfl YV rfl rfl (Jw (JY  o27)) ?_
       rintro _ w26 ⟨_, hGw26, hRww26, hNww26, r25q, rfl, rfl, he⟩
       subst he
       exact Ja ⟨rfl, hGw26⟩
     intro w28 hE RR
     refine QE rfl rfl rfl ?_; rw [decide_eq_true o29]
     exact Ja ⟨rfl, rfl⟩
   intro w46 hT
   have hS := hS.grow hT
   refine JH <| Jq rfl <| Je 5 <| W.ret <| ⟨_, rfl, Fin.nil ?_⟩
   exact (hS.pick [] rfl).fin rfl ⟨(0 : Int), (13 : Int), rfl, rfl, hv⟩
  .by_cases g47 : (0 : Int) < r4
   .have hv := hv.1 g47
    obtain ⟨r52, o54, hv⟩ := hv
    obtain ⟨r57, o59, hv⟩ := hv
    obtain ⟨o61, hv⟩ := hv
    obtain ⟨r71, o73, hv⟩ := hv
    obtain ⟨r76, o78, hv⟩ := hv
    obtain ⟨o82, hv⟩ := hv
    refine JQ 23 [⟨[], [5], true⟩, ⟨[0], [], false⟩, ⟨[], [0], true⟩, ⟨[1, 2], [], false⟩, ⟨[], [0], true⟩, ⟨[3, 4], [], false⟩, ⟨[5], [], true⟩, ⟨[6], [], true⟩, ⟨[7], [5], true⟩, ⟨[7, 8], [], false⟩, ⟨[7, 9], [], true⟩, ⟨[7, 10], [], true⟩, ⟨[11], [5], true⟩, ⟨[11, 12], [], false⟩, ⟨[11], [0], true⟩, ⟨[11, 13, 14], [], false⟩, ⟨[11], [0], true⟩, ⟨[11, 15, 16], [], false⟩, ⟨[11], [5], true⟩, ⟨[11, 18], [], false⟩, ⟨[11, 17, 19], [], true⟩, ⟨[7, 11, 20], [], true⟩, ⟨[7, 21], [], true⟩] [(18, .pointer (some ((⟨g11, 0, none⟩ : Addr).add 1))), (19, nI r1), (20, nI n), (21, nI r52), (22, nI n), (23, nI r57), (24, .bool false), (25, .bool false), (26, .pointer (some ((⟨g11, 0, none⟩ : Addr).add 4))), (27, nI r4), (28, .bool true), (29, .bool true), (30, .pointer (some ((⟨g11, 0, none⟩ : Addr).add 3))), (31, nI r3), (32, nI n), (33, nI r71), (34, nI n), (35, nI r76), (36, .pointer (some ((⟨g11, 0, none⟩ : Addr).add 2))), (37, nI r2), (38, .bool true), (39, .bool true), (40, .bool true)] Try.mixed (by kernel_rfl) rfl rfl ?_ ?_
    . refine ⟨fun _ _ _ => Jc (off := 1) QD rfl rfl <| Ja ⟨rfl, rfl⟩, og hS fun _ _ hS => Jo 0 1 XU3 hS rfl rfl rfl ⟨rfl, rfl⟩ <| Ja ⟨rfl, Ji _⟩, oD, ?_, oD, ?_, ?_, oD, fun _ _ _ => WL.take rfl <| Jc (off := 4) JM rfl rfl <| Ja ⟨rfl, rfl⟩, og hS fun _ _ hS => WL.take rfl <| Jo 0 4 XU3 hS rfl rfl rfl ⟨rfl, rfl⟩ <| Ja ⟨rfl, Ji _⟩, ?_, oD, fun _ _ _ => WL.take rfl <| Jc (off := 3) QC rfl rfl <| Ja ⟨rfl, rfl⟩, og hS fun _ _ hS => WL.take rfl <| Jo 0 3 XU3 hS rfl rfl rfl ⟨rfl, rfl⟩ <| Ja ⟨rfl, Ji _⟩, oD, ?_, oD, ?_, fun _ _ _ => WL.take rfl <| Jc (off := 2) J2 rfl rfl <| Ja ⟨rfl, rfl⟩, og hS fun _ _ hS => WL.take rfl <| Jo 0 2 XU3 hS rfl rfl rfl ⟨rfl, rfl⟩ <| Ja ⟨rfl, Ji _⟩, ?_, oD, oD, trivial⟩
      . intro w51 hE RR
        refine WL.call Q2 rfl Ye rfl rfl (Jw (JP  o54)) ?_
        rintro _ w53 ⟨_, hGw53, hRww53, hNww53, r52q, rfl, rfl, he⟩
        subst he
        exact Ja ⟨rfl, hGw53⟩
      . intro w56 hE RR
        refine WL.call Yy rfl YV rfl rfl (Jw (JY  o59)) ?_
        rintro _ w58 ⟨_, hGw58, hRww58, hNww58, r57q, rfl, rfl, he⟩
        subst he
        exact Ja ⟨rfl, hGw58⟩
      . intro w60 hE RR
        refine QE rfl rfl rfl ?_; rw [decide_eq_false o61]
        exact Ja ⟨rfl, rfl⟩
      . intro w65 hE RR
        refine WL.take rfl <| Qe rfl rfl rfl ?_; rw [decide_eq_true g47]
        exact Ja ⟨rfl, rfl⟩
      . intro w70 hE RR
        refine WL.take rfl <| WL.call Q2 rfl Ye rfl rfl (Jw (JP  o73)) ?_
        rintro _ w72 ⟨_, hGw72, hRww72, hNww72, r71q, rfl, rfl, he⟩
        subst he
        exact Ja ⟨rfl, hGw72⟩
      . intro w75 hE RR
        refine WL.take rfl <| WL.call Yy rfl YV rfl rfl (Jw (JY  o78)) ?_
        rintro _ w77 ⟨_, hGw77, hRww77, hNww77, r76q, rfl, rfl, he⟩
        subst he
        exact Ja ⟨rfl, hGw77⟩
      intro w81 hE RR
      refine WL.take rfl <| Qe rfl rfl rfl ?_; rw [decide_eq_true o82]
      exact Ja ⟨rfl, rfl⟩
    intro w85 hT
    have hS := hS.grow hT
    refine JH <| Jq rfl <| Je 5 <| W.ret <| ⟨_, rfl, Fin.nil ?_⟩
    exact (hS.pick [] rfl).fin rfl ⟨(0 : Int), (13 : Int), rfl, rfl, hv⟩
   have hv := hv.2 g47
   obtain ⟨r90, o92, hv⟩ := hv
   obtain ⟨r95, o97, hv⟩ := hv
   obtain ⟨o99, hv⟩ := hv
   refine JQ 23 [⟨[], [5], true⟩, ⟨[0], [], false⟩, ⟨[], [0], true⟩, ⟨[1, 2], [], false⟩, ⟨[], [0], true⟩, ⟨[3, 4], [], false⟩, ⟨[5], [], true⟩, ⟨[6], [], true⟩, ⟨[7], [5], true⟩, ⟨[7, 8], [], false⟩, ⟨[7, 9], [], true⟩, ⟨[7, 10], [], true⟩, ⟨[11], [5], true⟩, ⟨[11, 12], [], false⟩, ⟨[11], [0], true⟩, ⟨[11, 13, 14], [], false⟩, ⟨[11], [0], true⟩, ⟨[11, 15, 16], [], false⟩, ⟨[11], [5], true⟩, ⟨[11, 18], [], false⟩, ⟨[11, 17, 19], [], true⟩, ⟨[7, 11, 20], [], true⟩, ⟨[7, 21], [], true⟩] [(18, .pointer (some ((⟨g11, 0, none⟩ : Addr).add 1))), (19, nI r1), (20, nI n), (21, nI r90), (22, nI n), (23, nI r95), (24, .bool false), (25, .bool false), (26, .pointer (some ((⟨g11, 0, none⟩ : Addr).add 4))), (27, nI r4), (28, .bool false), (29, .bool false), (30, undef), (31, undef), (32, undef), (33, undef), (34, undef), (35, undef), (36, undef), (37, undef), (38, undef), (39, .bool false), (40, .bool false)] Try.mixed (by kernel_rfl) rfl rfl ?_ ?_
   . refine ⟨fun _ _ _ => Jc (off := 1) QD rfl rfl <| Ja ⟨rfl, rfl⟩, og hS fun _ _ hS => Jo 0 1 XU3 hS rfl rfl rfl ⟨rfl, rfl⟩ <| Ja ⟨rfl, Ji _⟩, oD, ?_, oD, ?_, ?_, oD, fun _ _ _ => WL.take rfl <| Jc (off := 4) JM rfl rfl <| Ja ⟨rfl, rfl⟩, og hS fun _ _ hS => WL.take rfl <| Jo 0 4 XU3 hS rfl rfl rfl ⟨rfl, rfl⟩ <| Ja ⟨rfl, Ji _⟩, ?_, oD, oD, oD, oD, oD, oD, oD, oD, oD, oD, oD, oD, trivial⟩
     . intro w89 hE RR
       refine WL.call Q2 rfl Ye rfl rfl (Jw (JP  o92)) ?_
       rintro _ w91 ⟨_, hGw91, hRww91, hNww91, r90q, rfl, rfl, he⟩
       subst he
       exact Ja ⟨rfl, hGw91⟩
     . intro w94 hE RR
       refine WL.call Yy rfl YV rfl rfl (Jw (JY  o97)) ?_
       rintro _ w96 ⟨_, hGw96, hRww96, hNww96, r95q, rfl, rfl, he⟩
       subst he
       exact Ja ⟨rfl, hGw96⟩
     . intro w98 hE RR
       refine QE rfl rfl rfl ?_; rw [decide_eq_false o99]
       exact Ja ⟨rfl, rfl⟩
     intro w103 hE RR
     refine WL.take rfl <| Qe rfl rfl rfl ?_; rw [decide_eq_false g47]
     exact Ja ⟨rfl, rfl⟩
   intro w116 hT
   have hS := hS.grow hT
   refine JH <| QF rfl <| Jh <| Je 4 <| SL.call hS (Ql (hS.ro hz) hv) XF63 rfl XN63 rfl rfl ?_
   rintro _ _ w117 ⟨x118, A119, k120, rfl, rfl, hv⟩ hGw117 hS
   have hS := hS.n1
   refine Jb 2 <| Je 5 <| W.block ?_
   obtain ⟨I125, μ126, hv, hk150⟩ := hv
   refine JB (σ := Int) (fun z124 w1 => I125 z124 /\ St TT w none w1 [nR 3 A119 x118 k120, .row 38 5 (nA g11) 1 1 [nI r0, nI r1, nI r2, nI r3, nI r4]]) (fun z124 => [(0, nI n), (5, nP g11), (6, nI 0), (7, nI 0), (9, nS A119 x118 k120), (10, nI z124)]) (fun z124 => μ126 z124) (0 : Int) ⟨hv, hS⟩ ⟨rfl, rfl, rfl, rfl, rfl, rfl, trivial⟩ ?_
   rintro z124 w127 ⟨hv, hS⟩
   have hv := hk150 z124 hv
   refine Je 4 <| Jc (off := 2) J2 rfl rfl <| Jo 1 2 XU3 hS rfl rfl rfl ⟨rfl, rfl⟩ <| Jb 2 <| Jg rfl (fun c128 => ?_) (fun c128 => ?_)
   .have hv := hv.1 (oT c128)
    refine Jh <| Jz <| W.block <| Je 4 <| W.block ?_
    obtain ⟨I132, μ133, hv, hk147⟩ := hv
    refine JB (σ := Int) (fun z131 w1 => I132 z131 /\ St TT w none w1 [nR 3 A119 x118 k120, .row 38 5 (nA g11) 1 1 [nI r0, nI r1, nI r2, nI r3, nI r4]]) (fun z131 => [(0, nI n), (5, nP g11), (6, nI 0), (7, nI 0), (9, nS A119 x118 k120), (10, nI z124), (11, nI z131), (47, .bool (decide (z124 < r2)))]) (fun z131 => μ133 z131) (0 : Int) ⟨hv, hS⟩ ⟨rfl, rfl, rfl, rfl, rfl, rfl, rfl, rfl, trivial⟩ ?_
    rintro z131 w134 ⟨hv, hS⟩
    have hv := hk147 z131 hv
    refine Je 4 <| Jc (off := 4) JM rfl rfl <| Jo 1 4 XU3 hS rfl rfl rfl ⟨rfl, rfl⟩ <| Jb 2 <| Jg rfl (fun c135 => ?_) (fun c135 => ?_)
    .have hv := hv.1 (oT c135)
     refine Jh <| Jz <| W.block <| Je 3 <| Jc (off := 0) Zo rfl rfl <| Jo 1 0 XU3 hS rfl rfl rfl ⟨rfl, rfl⟩ <| Jd rfl rfl <| Jc (off := 1) QD rfl rfl <| Jo 1 1 XU3 hS rfl rfl rfl ⟨rfl, rfl⟩ ?_
     obtain ⟨o136, hv⟩ := hv
     refine J3 (r := (z124 * r1)) rfl rfl (wr o136) rfl ?_
     obtain ⟨o137, hv⟩ := hv
     refine WL.add (r := (r0 + (z124 * r1))) rfl rfl (wr o137) rfl <| Jd rfl rfl <| Jc (off := 3) QC rfl rfl <| Jo 1 3 XU3 hS rfl rfl rfl ⟨rfl, rfl⟩ ?_
     obtain ⟨o138, hv⟩ := hv
     refine J3 (r := (z131 * r3)) rfl rfl (wr o138) rfl ?_
     obtain ⟨o139, hv⟩ := hv
     refine WL.add (r := ((r0 + (z124 * r1)) + (z131 * r3))) rfl rfl (wr o139) rfl <| Jd rfl rfl <| SL.call hS (JP  hv) Q2 rfl Ye rfl rfl ?_
     rintro _ _ w140 ⟨r141, rfl, rfl, hv⟩ hGw140 hS
     have hS := hS.n0
     refine SL.call hS (YM (hS.rd (i := 0) rfl) hv) Jbh rfl XN64 rfl rfl ?_
     rintro _ _ w142 ⟨r143, rfl, rfl, hv⟩ hGw142 hS
     have hS := hS.n0
     refine Jb 2 <| Jg rfl (fun c144 => ?_) (fun c144 => ?_)
     .have hv := hv.1 (c144)
      refine Je 5 <| W.ret <| ⟨_, rfl, Fin.nil ?_⟩
      exact (hS.pick [] rfl).fin rfl ⟨(0 : Int), (13 : Int), rfl, rfl, hv⟩
     have hv := hv.2 (c144)
     refine Jh <| Je 2 ?_
     obtain ⟨o145, hv⟩ := hv
     refine WL.add (r := (z131 + 1)) rfl rfl (wr o145) rfl <| Jb 2 ?_
     exact ⟨(z131 + 1), sp rfl, hv.2, rfl, hv.1, hS⟩
    have hv := hv.2 (oF c135)
    refine Jt <| Je 2 ?_
    obtain ⟨o146, hv⟩ := hv
    refine WL.add (r := (z124 + 1)) rfl rfl (wr o146) rfl <| Jb 2 ?_
    exact ⟨(z124 + 1), sp rfl, hv.2, rfl, hv.1, hS⟩
   have hv := hv.2 (oF c128)
   refine Jt <| Je 2 <| Jc (off := 2) J2 rfl rfl <| Jo 1 2 XU3 hS rfl rfl rfl ⟨rfl, rfl⟩ ?_
   obtain ⟨o148, hv⟩ := hv
   refine WL.add (r := (r2 + 1)) rfl rfl (wr o148) rfl <| Jc (off := 4) JM rfl rfl <| Jo 1 4 XU3 hS rfl rfl rfl ⟨rfl, rfl⟩ ?_
   obtain ⟨o149, hv⟩ := hv
   refine WL.add (r := ((r2 + 1) + r4)) rfl rfl (wr o149) rfl <| Jb 3 <| W.ret <| ⟨_, rfl, Fin.nil ?_⟩
   exact (hS.pick [] rfl).fin rfl ⟨((r2 + 1) + r4), (0 : Int), rfl, rfl, hv⟩
  by_cases g151 : (0 : Int) < r4
  .have hv := hv.1 g151
   obtain ⟨r156, o158, hv⟩ := hv
   obtain ⟨r161, o163, hv⟩ := hv
   obtain ⟨o165, hv⟩ := hv
   obtain ⟨r175, o177, hv⟩ := hv
   obtain ⟨r180, o182, hv⟩ := hv
   obtain ⟨o186, hv⟩ := hv
   refine JQ 23 [⟨[], [5], true⟩, ⟨[0], [], false⟩, ⟨[], [0], true⟩, ⟨[1, 2], [], false⟩, ⟨[], [0], true⟩, ⟨[3, 4], [], false⟩, ⟨[5], [], true⟩, ⟨[6], [], true⟩, ⟨[7], [5], true⟩, ⟨[7, 8], [], false⟩, ⟨[7, 9], [], true⟩, ⟨[7, 10], [], true⟩, ⟨[11], [5], true⟩, ⟨[11, 12], [], false⟩, ⟨[11], [0], true⟩, ⟨[11, 13, 14], [], false⟩, ⟨[11], [0], true⟩, ⟨[11, 15, 16], [], false⟩, ⟨[11], [5], true⟩, ⟨[11, 18], [], false⟩, ⟨[11, 17, 19], [], true⟩, ⟨[7, 11, 20], [], true⟩, ⟨[7, 21], [], true⟩] [(18, .pointer (some ((⟨g11, 0, none⟩ : Addr).add 1))), (19, nI r1), (20, nI n), (21, nI r156), (22, nI n), (23, nI r161), (24, .bool false), (25, .bool false), (26, .pointer (some ((⟨g11, 0, none⟩ : Addr).add 4))), (27, nI r4), (28, .bool true), (29, .bool true), (30, .pointer (some ((⟨g11, 0, none⟩ : Addr).add 3))), (31, nI r3), (32, nI n), (33, nI r175), (34, nI n), (35, nI r180), (36, .pointer (some ((⟨g11, 0, none⟩ : Addr).add 2))), (37, nI r2), (38, .bool false), (39, .bool false), (40, .bool false)] Try.mixed (by kernel_rfl) rfl rfl ?_ ?_
   . refine ⟨fun _ _ _ => Jc (off := 1) QD rfl rfl <| Ja ⟨rfl, rfl⟩, og hS fun _ _ hS => Jo 0 1 XU3 hS rfl rfl rfl ⟨rfl, rfl⟩ <| Ja ⟨rfl, Ji _⟩, oD, ?_, oD, ?_, ?_, oD, fun _ _ _ => WL.take rfl <| Jc (off := 4) JM rfl rfl <| Ja ⟨rfl, rfl⟩, og hS fun _ _ hS => WL.take rfl <| Jo 0 4 XU3 hS rfl rfl rfl ⟨rfl, rfl⟩ <| Ja ⟨rfl, Ji _⟩, ?_, oD, fun _ _ _ => WL.take rfl <| Jc (off := 3) QC rfl rfl <| Ja ⟨rfl, rfl⟩, og hS fun _ _ hS => WL.take rfl <| Jo 0 3 XU3 hS rfl rfl rfl ⟨rfl, rfl⟩ <| Ja ⟨rfl, Ji _⟩, oD, ?_, oD, ?_, fun _ _ _ => WL.take rfl <| Jc (off := 2) J2 rfl rfl <| Ja ⟨rfl, rfl⟩, og hS fun _ _ hS => WL.take rfl <| Jo 0 2 XU3 hS rfl rfl rfl ⟨rfl, rfl⟩ <| Ja ⟨rfl, Ji _⟩, ?_, oD, oD, trivial⟩
     . intro w155 hE RR
       refine WL.call Q2 rfl Ye rfl rfl (Jw (JP  o158)) ?_
       rintro _ w157 ⟨_, hGw157, hRww157, hNww157, r156q, rfl, rfl, he⟩
       subst he
       exact Ja ⟨rfl, hGw157⟩
     . intro w160 hE RR
       refine WL.call Yy rfl YV rfl rfl (Jw (JY  o163)) ?_
       rintro _ w162 ⟨_, hGw162, hRww162, hNww162, r161q, rfl, rfl, he⟩
       subst he
       exact Ja ⟨rfl, hGw162⟩
     . intro w164 hE RR
       refine QE rfl rfl rfl ?_; rw [decide_eq_false o165]
       exact Ja ⟨rfl, rfl⟩
     . intro w169 hE RR
       refine WL.take rfl <| Qe rfl rfl rfl ?_; rw [decide_eq_true g151]
       exact Ja ⟨rfl, rfl⟩
     . intro w174 hE RR
       refine WL.take rfl <| WL.call Q2 rfl Ye rfl rfl (Jw (JP  o177)) ?_
       rintro _ w176 ⟨_, hGw176, hRww176, hNww176, r175q, rfl, rfl, he⟩
       subst he
       exact Ja ⟨rfl, hGw176⟩
     . intro w179 hE RR
       refine WL.take rfl <| WL.call Yy rfl YV rfl rfl (Jw (JY  o182)) ?_
       rintro _ w181 ⟨_, hGw181, hRww181, hNww181, r180q, rfl, rfl, he⟩
       subst he
       exact Ja ⟨rfl, hGw181⟩
     intro w185 hE RR
     refine WL.take rfl <| Qe rfl rfl rfl ?_; rw [decide_eq_false o186]
     exact Ja ⟨rfl, rfl⟩
   intro w189 hT
   have hS := hS.grow hT
   refine JH <| QF rfl <| Jh <| Je 4 <| SL.call hS (Ql (hS.ro hz) hv) XF63 rfl XN63 rfl rfl ?_
   rintro _ _ w190 ⟨x191, A192, k193, rfl, rfl, hv⟩ hGw190 hS
   have hS := hS.n1
   refine Jb 2 <| Je 5 <| W.block ?_
   obtain ⟨I198, μ199, hv, hk223⟩ := hv
   refine JB (σ := Int) (fun z197 w1 => I198 z197 /\ St TT w none w1 [nR 3 A192 x191 k193, .row 38 5 (nA g11) 1 1 [nI r0, nI r1, nI r2, nI r3, nI r4]]) (fun z197 => [(0, nI n), (5, nP g11), (6, nI 0), (7, nI 0), (9, nS A192 x191 k193), (10, nI z197)]) (fun z197 => μ199 z197) (0 : Int) ⟨hv, hS⟩ ⟨rfl, rfl, rfl, rfl, rfl, rfl, trivial⟩ ?_
   rintro z197 w200 ⟨hv, hS⟩
   have hv := hk223 z197 hv
   refine Je 4 <| Jc (off := 2) J2 rfl rfl <| Jo 1 2 XU3 hS rfl rfl rfl ⟨rfl, rfl⟩ <| Jb 2 <| Jg rfl (fun c201 => ?_) (fun c201 => ?_)
   .have hv := hv.1 (oT c201)
    refine Jh <| Jz <| W.block <| Je 4 <| W.block ?_
    obtain ⟨I205, μ206, hv, hk220⟩ := hv
    refine JB (σ := Int) (fun z204 w1 => I205 z204 /\ St TT w none w1 [nR 3 A192 x191 k193, .row 38 5 (nA g11) 1 1 [nI r0, nI r1, nI r2, nI r3, nI r4]]) (fun z204 => [(0, nI n), (5, nP g11), (6, nI 0), (7, nI 0), (9, nS A192 x191 k193), (10, nI z197), (11, nI z204), (47, .bool (decide (z197 < r2)))]) (fun z204 => μ206 z204) (0 : Int) ⟨hv, hS⟩ ⟨rfl, rfl, rfl, rfl, rfl, rfl, rfl, rfl, trivial⟩ ?_
    rintro z204 w207 ⟨hv, hS⟩
    have hv := hk220 z204 hv
    refine Je 4 <| Jc (off := 4) JM rfl rfl <| Jo 1 4 XU3 hS rfl rfl rfl ⟨rfl, rfl⟩ <| Jb 2 <| Jg rfl (fun c208 => ?_) (fun c208 => ?_)
    .have hv := hv.1 (oT c208)
     refine Jh <| Jz <| W.block <| Je 3 <| Jc (off := 0) Zo rfl rfl <| Jo 1 0 XU3 hS rfl rfl rfl ⟨rfl, rfl⟩ <| Jd rfl rfl <| Jc (off := 1) QD rfl rfl <| Jo 1 1 XU3 hS rfl rfl rfl ⟨rfl, rfl⟩ ?_
     obtain ⟨o209, hv⟩ := hv
     refine J3 (r := (z197 * r1)) rfl rfl (wr o209) rfl ?_
     obtain ⟨o210, hv⟩ := hv
     refine WL.add (r := (r0 + (z197 * r1))) rfl rfl (wr o210) rfl <| Jd rfl rfl <| Jc (off := 3) QC rfl rfl <| Jo 1 3 XU3 hS rfl rfl rfl ⟨rfl, rfl⟩ ?_
     obtain ⟨o211, hv⟩ := hv
     refine J3 (r := (z204 * r3)) rfl rfl (wr o211) rfl ?_
     obtain ⟨o212, hv⟩ := hv
     refine WL.add (r := ((r0 + (z197 * r1)) + (z204 * r3))) rfl rfl (wr o212) rfl <| Jd rfl rfl <| SL.call hS (JP  hv) Q2 rfl Ye rfl rfl ?_
     rintro _ _ w213 ⟨r214, rfl, rfl, hv⟩ hGw213 hS
     have hS := hS.n0
     refine SL.call hS (YM (hS.rd (i := 0) rfl) hv) Jbh rfl XN64 rfl rfl ?_
     rintro _ _ w215 ⟨r216, rfl, rfl, hv⟩ hGw215 hS
     have hS := hS.n0
     refine Jb 2 <| Jg rfl (fun c217 => ?_) (fun c217 => ?_)
     .have hv := hv.1 (c217)
      refine Je 5 <| W.ret <| ⟨_, rfl, Fin.nil ?_⟩
      exact (hS.pick [] rfl).fin rfl ⟨(0 : Int), (13 : Int), rfl, rfl, hv⟩
     have hv := hv.2 (c217)
     refine Jh <| Je 2 ?_
     obtain ⟨o218, hv⟩ := hv
     refine WL.add (r := (z204 + 1)) rfl rfl (wr o218) rfl <| Jb 2 ?_
     exact ⟨(z204 + 1), sp rfl, hv.2, rfl, hv.1, hS⟩
    have hv := hv.2 (oF c208)
    refine Jt <| Je 2 ?_
    obtain ⟨o219, hv⟩ := hv
    refine WL.add (r := (z197 + 1)) rfl rfl (wr o219) rfl <| Jb 2 ?_
    exact ⟨(z197 + 1), sp rfl, hv.2, rfl, hv.1, hS⟩
   have hv := hv.2 (oF c201)
   refine Jt <| Je 2 <| Jc (off := 2) J2 rfl rfl <| Jo 1 2 XU3 hS rfl rfl rfl ⟨rfl, rfl⟩ ?_
   obtain ⟨o221, hv⟩ := hv
   refine WL.add (r := (r2 + 1)) rfl rfl (wr o221) rfl <| Jc (off := 4) JM rfl rfl <| Jo 1 4 XU3 hS rfl rfl rfl ⟨rfl, rfl⟩ ?_
   obtain ⟨o222, hv⟩ := hv
   refine WL.add (r := ((r2 + 1) + r4)) rfl rfl (wr o222) rfl <| Jb 3 <| W.ret <| ⟨_, rfl, Fin.nil ?_⟩
   exact (hS.pick [] rfl).fin rfl ⟨((r2 + 1) + r4), (0 : Int), rfl, rfl, hv⟩
  have hv := hv.2 g151
  obtain ⟨r228, o230, hv⟩ := hv
  obtain ⟨r233, o235, hv⟩ := hv
  obtain ⟨o237, hv⟩ := hv
  refine JQ 23 [⟨[], [5], true⟩, ⟨[0], [], false⟩, ⟨[], [0], true⟩, ⟨[1, 2], [], false⟩, ⟨[], [0], true⟩, ⟨[3, 4], [], false⟩, ⟨[5], [], true⟩, ⟨[6], [], true⟩, ⟨[7], [5], true⟩, ⟨[7, 8], [], false⟩, ⟨[7, 9], [], true⟩, ⟨[7, 10], [], true⟩, ⟨[11], [5], true⟩, ⟨[11, 12], [], false⟩, ⟨[11], [0], true⟩, ⟨[11, 13, 14], [], false⟩, ⟨[11], [0], true⟩, ⟨[11, 15, 16], [], false⟩, ⟨[11], [5], true⟩, ⟨[11, 18], [], false⟩, ⟨[11, 17, 19], [], true⟩, ⟨[7, 11, 20], [], true⟩, ⟨[7, 21], [], true⟩] [(18, .pointer (some ((⟨g11, 0, none⟩ : Addr).add 1))), (19, nI r1), (20, nI n), (21, nI r228), (22, nI n), (23, nI r233), (24, .bool false), (25, .bool false), (26, .pointer (some ((⟨g11, 0, none⟩ : Addr).add 4))), (27, nI r4), (28, .bool false), (29, .bool false), (30, undef), (31, undef), (32, undef), (33, undef), (34, undef), (35, undef), (36, undef), (37, undef), (38, undef), (39, .bool false), (40, .bool false)] Try.mixed (by kernel_rfl) rfl rfl ?_ ?_
  . refine ⟨fun _ _ _ => Jc (off := 1) QD rfl rfl <| Ja ⟨rfl, rfl⟩, og hS fun _ _ hS => Jo 0 1 XU3 hS rfl rfl rfl ⟨rfl, rfl⟩ <| Ja ⟨rfl, Ji _⟩, oD, ?_, oD, ?_, ?_, oD, fun _ _ _ => WL.take rfl <| Jc (off := 4) JM rfl rfl <| Ja ⟨rfl, rfl⟩, og hS fun _ _ hS => WL.take rfl <| Jo 0 4 XU3 hS rfl rfl rfl ⟨rfl, rfl⟩ <| Ja ⟨rfl, Ji _⟩, ?_, oD, oD, oD, oD, oD, oD, oD, oD, oD, oD, oD, oD, trivial⟩
    . intro w227 hE RR
      refine WL.call Q2 rfl Ye rfl rfl (Jw (JP  o230)) ?_
      rintro _ w229 ⟨_, hGw229, hRww229, hNww229, r228q, rfl, rfl, he⟩
      subst he
      exact Ja ⟨rfl, hGw229⟩
    . intro w232 hE RR
      refine WL.call Yy rfl YV rfl rfl (Jw (JY  o235)) ?_
      rintro _ w234 ⟨_, hGw234, hRww234, hNww234, r233q, rfl, rfl, he⟩
      subst he
      exact Ja ⟨rfl, hGw234⟩
    . intro w236 hE RR
      refine QE rfl rfl rfl ?_; rw [decide_eq_false o237]
      exact Ja ⟨rfl, rfl⟩
    intro w241 hE RR
    refine WL.take rfl <| Qe rfl rfl rfl ?_; rw [decide_eq_false g151]
    exact Ja ⟨rfl, rfl⟩
  intro w254 hT
  have hS := hS.grow hT
  refine JH <| QF rfl <| Jh <| Je 4 <| SL.call hS (Ql (hS.ro hz) hv) XF63 rfl XN63 rfl rfl ?_
  rintro _ _ w255 ⟨x256, A257, k258, rfl, rfl, hv⟩ hGw255 hS
  have hS := hS.n1
  refine Jb 2 <| Je 5 <| W.block ?_
  obtain ⟨I263, μ264, hv, hk288⟩ := hv
  refine JB (σ := Int) (fun z262 w1 => I263 z262 /\ St TT w none w1 [nR 3 A257 x256 k258, .row 38 5 (nA g11) 1 1 [nI r0, nI r1, nI r2, nI r3, nI r4]]) (fun z262 => [(0, nI n), (5, nP g11), (6, nI 0), (7, nI 0), (9, nS A257 x256 k258), (10, nI z262)]) (fun z262 => μ264 z262) (0 : Int) ⟨hv, hS⟩ ⟨rfl, rfl, rfl, rfl, rfl, rfl, trivial⟩ ?_
  rintro z262 w265 ⟨hv, hS⟩
  have hv := hk288 z262 hv
  refine Je 4 <| Jc (off := 2) J2 rfl rfl <| Jo 1 2 XU3 hS rfl rfl rfl ⟨rfl, rfl⟩ <| Jb 2 <| Jg rfl (fun c266 => ?_) (fun c266 => ?_)
  .have hv := hv.1 (oT c266)
   refine Jh <| Jz <| W.block <| Je 4 <| W.block ?_
   obtain ⟨I270, μ271, hv, hk285⟩ := hv
   refine JB (σ := Int) (fun z269 w1 => I270 z269 /\ St TT w none w1 [nR 3 A257 x256 k258, .row 38 5 (nA g11) 1 1 [nI r0, nI r1, nI r2, nI r3, nI r4]]) (fun z269 => [(0, nI n), (5, nP g11), (6, nI 0), (7, nI 0), (9, nS A257 x256 k258), (10, nI z262), (11, nI z269), (47, .bool (decide (z262 < r2)))]) (fun z269 => μ271 z269) (0 : Int) ⟨hv, hS⟩ ⟨rfl, rfl, rfl, rfl, rfl, rfl, rfl, rfl, trivial⟩ ?_
   rintro z269 w272 ⟨hv, hS⟩
   have hv := hk285 z269 hv
   refine Je 4 <| Jc (off := 4) JM rfl rfl <| Jo 1 4 XU3 hS rfl rfl rfl ⟨rfl, rfl⟩ <| Jb 2 <| Jg rfl (fun c273 => ?_) (fun c273 => ?_)
   .have hv := hv.1 (oT c273)
    refine Jh <| Jz <| W.block <| Je 3 <| Jc (off := 0) Zo rfl rfl <| Jo 1 0 XU3 hS rfl rfl rfl ⟨rfl, rfl⟩ <| Jd rfl rfl <| Jc (off := 1) QD rfl rfl <| Jo 1 1 XU3 hS rfl rfl rfl ⟨rfl, rfl⟩ ?_
    obtain ⟨o274, hv⟩ := hv
    refine J3 (r := (z262 * r1)) rfl rfl (wr o274) rfl ?_
    obtain ⟨o275, hv⟩ := hv
    refine WL.add (r := (r0 + (z262 * r1))) rfl rfl (wr o275) rfl <| Jd rfl rfl <| Jc (off := 3) QC rfl rfl <| Jo 1 3 XU3 hS rfl rfl rfl ⟨rfl, rfl⟩ ?_
    obtain ⟨o276, hv⟩ := hv
    refine J3 (r := (z269 * r3)) rfl rfl (wr o276) rfl ?_
    obtain ⟨o277, hv⟩ := hv
    refine WL.add (r := ((r0 + (z262 * r1)) + (z269 * r3))) rfl rfl (wr o277) rfl <| Jd rfl rfl <| SL.call hS (JP  hv) Q2 rfl Ye rfl rfl ?_
    rintro _ _ w278 ⟨r279, rfl, rfl, hv⟩ hGw278 hS
    have hS := hS.n0
    refine SL.call hS (YM (hS.rd (i := 0) rfl) hv) Jbh rfl XN64 rfl rfl ?_
    rintro _ _ w280 ⟨r281, rfl, rfl, hv⟩ hGw280 hS
    have hS := hS.n0
    refine Jb 2 <| Jg rfl (fun c282 => ?_) (fun c282 => ?_)
    .have hv := hv.1 (c282)
     refine Je 5 <| W.ret <| ⟨_, rfl, Fin.nil ?_⟩
     exact (hS.pick [] rfl).fin rfl ⟨(0 : Int), (13 : Int), rfl, rfl, hv⟩
    have hv := hv.2 (c282)
    refine Jh <| Je 2 ?_
    obtain ⟨o283, hv⟩ := hv
    refine WL.add (r := (z269 + 1)) rfl rfl (wr o283) rfl <| Jb 2 ?_
    exact ⟨(z269 + 1), sp rfl, hv.2, rfl, hv.1, hS⟩
   have hv := hv.2 (oF c273)
   refine Jt <| Je 2 ?_
   obtain ⟨o284, hv⟩ := hv
   refine WL.add (r := (z262 + 1)) rfl rfl (wr o284) rfl <| Jb 2 ?_
   exact ⟨(z262 + 1), sp rfl, hv.2, rfl, hv.1, hS⟩
  have hv := hv.2 (oF c266)
  refine Jt <| Je 2 <| Jc (off := 2) J2 rfl rfl <| Jo 1 2 XU3 hS rfl rfl rfl ⟨rfl, rfl⟩ ?_
  obtain ⟨o286, hv⟩ := hv
  refine WL.add (r := (r2 + 1)) rfl rfl (wr o286) rfl <| Jc (off := 4) JM rfl rfl <| Jo 1 4 XU3 hS rfl rfl rfl ⟨rfl, rfl⟩ ?_
  obtain ⟨o287, hv⟩ := hv
  refine WL.add (r := ((r2 + 1) + r4)) rfl rfl (wr o287) rfl <| Jb 3 <| W.ret <| ⟨_, rfl, Fin.nil ?_⟩
  exact (hS.pick [] rfl).fin rfl ⟨((r2 + 1) + r4), (0 : Int), rfl, rfl, hv⟩
def Qv (n : Int) (l : List Int) (aa : Int) (x : Int) (y : Int) (Q : Int -> Prop) : Prop :=
  ∃ J12 : Int -> Prop, (∃ (I16 : Int -> Prop) (μ17 : Int -> Nat), I16 (-1 : Int) /\ ∀ (z15 : Int), (I16 z15 -> (((z15 < y) -> ((I64 (z15 + 1)) /\ ((I64 ((z15 + 1) * x)) /\ ((I64 (aa + ((z15 + 1) * x))) /\ (JN (aa + ((z15 + 1) * x)) n (fun r24 => Yh l r24 (fun r26 => ((r26 = true) -> ((I64 (z15 + 1)) /\ (I16 (z15 + 1) /\ μ17 (z15 + 1) < μ17 z15))) /\ (r26 = false -> J12 z15)))))))) /\ (¬ (z15 < y) -> J12 z15)))) /\ ∀ (z11 : Int), (J12 z11 -> Q z11)
theorem Za {w : World} {Q : Int -> Prop} {n : Int} {l : List Int} {aa : Int} {x : Int} {y : Int} {Bl : Nat} {Al : Option Addr} {nl kl : Nat} (hl : Rd Bl w 1 Al nl kl (is l)) (hv : Qv n l aa x y Q) :
    Calls Try.prog 70 #[.int .i64 n, .slice Al nl kl, .int .i64 aa, .int .i64 x, .int .i64 y] w <| Rt w fun v Qr => ∃ (r0 : Int), v = .int .i64 r0 /\ Qr = [] /\ Q r0 := by
  have hnl := hl.ilen
  subst hnl
  refine Jm <| Jl (vs := [nI n, nS Al l kl, nI aa, nI x, nI y]) [10] XF70 rfl rfl rfl rfl ?_
  have hS := Jp w
  unfold Qv at hv
  refine Je 9 ?_
  obtain ⟨J12, hv, hk31⟩ := hv
  refine Q4 (σ := Int) (fun z11 w1 => J12 z11 /\ St TT w none w1 []) (fun z11 => [(10, nI 0), (11, nI z11)]) ?_ ?_
  .refine W.block ?_
   obtain ⟨I16, μ17, hv, hk29⟩ := hv
   refine JB (σ := Int) (fun z15 w1 => I16 z15 /\ St TT w none w1 []) (fun z15 => [(0, nI n), (1, nS Al l kl), (2, nI aa), (3, nI x), (4, nI y), (10, nI 0), (11, nI z15)]) (fun z15 => μ17 z15) (-1 : Int) ⟨hv, hS⟩ ⟨rfl, rfl, rfl, rfl, rfl, rfl, rfl, trivial⟩ ?_
   rintro z15 w18 ⟨hv, hS⟩
   have hv := hk29 z15 hv
   refine Je 6 <| Jd rfl rfl ?_
   by_cases g19 : z15 < y
   .have hv := hv.1 g19
    rw [decide_eq_true g19]
    refine Jb 7 ?_
    obtain ⟨o20, hv⟩ := hv
    refine WL.add (r := (z15 + 1)) rfl rfl (wr o20) rfl <| Jb 3 ?_
    obtain ⟨o21, hv⟩ := hv
    refine J3 (r := ((z15 + 1) * x)) rfl rfl (wr o21) rfl <| WL.take rfl ?_
    obtain ⟨o22, hv⟩ := hv
    refine WL.add (r := (aa + ((z15 + 1) * x))) rfl rfl (wr o22) rfl <| Jb 3 <| SL.call hS (JP  hv) Q2 rfl Ye rfl rfl ?_
    rintro _ _ w23 ⟨r24, rfl, rfl, hv⟩ hGw23 hS
    have hS := hS.n0
    refine WL.take rfl <| SL.call hS (YM (hS.ro hl) hv) Jbh rfl XN64 rfl rfl ?_
    rintro _ _ w25 ⟨r26, rfl, rfl, hv⟩ hGw25 hS
    have hS := hS.n0
    refine Jb 2 <| Jg rfl (fun c27 => ?_) (fun c27 => ?_)
    .have hv := hv.1 (c27)
     refine Jh <| W.block <| Je 2 ?_
     obtain ⟨o28, hv⟩ := hv
     refine WL.add (r := (z15 + 1)) rfl rfl (wr o28) rfl <| Jb 2 ?_
     exact ⟨(z15 + 1), sp rfl, hv.2, rfl, hv.1, hS⟩
    have hv := hv.2 (c27)
    refine Jt ?_
    exact ⟨z15, ⟨rfl, rfl, trivial⟩, rfl, hv, hS⟩
   have hv := hv.2 g19
   rw [decide_eq_false g19]
   refine Jb 12 <| QF rfl <| Jt ?_
   exact ⟨z15, ⟨rfl, rfl, trivial⟩, rfl, hv, hS⟩
  rintro z11 w30 ⟨hv, hS⟩
  have hv := hk31 z11 hv
  refine Je 5 <| W.ret <| ⟨_, rfl, Fin.nil ?_⟩
  exact (hS.pick [] rfl).fin rfl ⟨z11, rfl, rfl, hv⟩
def Q5 (n : Int) (z : List Int) (y : Int) (Q : Int -> Prop) : Prop :=
  JT n z (fun x12 => ∃ (I22 : Int -> Int -> Prop) (μ23 : Int -> Int -> Nat), I22 1 (0 : Int) /\ ∀ (z20 : Int) (z21 : Int), (I22 z20 z21 -> (((z21 < n) -> (∃ (I32 : Int -> Int -> Prop) (μ33 : Int -> Int -> Nat), I32 z20 0 /\ ∀ (z30 : Int) (z31 : Int), (I32 z30 z31 -> (((z31 < n) -> (∃ (I42 : Int -> Int -> Prop) (μ43 : Int -> Int -> Nat), I42 z30 0 /\ ∀ (z40 : Int) (z41 : Int), (I42 z40 z41 -> (((z41 < n) -> (∃ J48 : Int -> Bool -> Prop, (JV z31 n (fun r50 => ((r50 ≠ 1) -> J48 z40 true) /\ (¬ (r50 ≠ 1) -> (Yh x12 z21 (fun r53 => (((!r53) = true) -> J48 z40 true) /\ ((!r53) = false -> ((((0 : Int) < z41) -> (((y = 0) -> (J48 z40 (decide (y = 0)))) /\ (¬ (y = 0) -> (∃ (I66 : Int -> Int -> Int -> Prop) (μ67 : Int -> Int -> Int -> Nat), I66 z40 y (1 : Int) /\ ∀ (z63 : Int) (z64 : Int) (z65 : Int), (I66 z63 z64 z65 -> (((z65 <= n) -> (∃ J74 : Int -> Int -> Bool -> Bool -> Prop, ((I64 (z65 - 1)) /\ ((I64 ((z65 - 1) * z31)) /\ ((I64 (z21 + ((z65 - 1) * z31))) /\ (Qv n x12 (z21 + ((z65 - 1) * z31)) z41 z64 (fun r79 => (((min z64 r79) < (0 : Int)) -> (J48 z63 (decide (y = 0)))) /\ (¬ ((min z64 r79) < (0 : Int)) -> ((I64 (z65 + 1)) /\ (JV z41 n (fun r83 => ((r83 <= z65) -> ((I64 (z65 + 1)) /\ ((I64 ((z65 + 1) + (min z64 r79))) /\ (J74 (max (max z63 (z65 + 1)) ((z65 + 1) + (min z64 r79))) (min z64 r79) (decide ((min z64 r79) < (0 : Int))) (decide (r83 <= z65)))))) /\ (¬ (r83 <= z65) -> (J74 (max z63 (z65 + 1)) (min z64 r79) (decide ((min z64 r79) < (0 : Int))) (decide (r83 <= z65))))))))))))) /\ ∀ (z70 : Int) (z71 : Int) (b72 : Bool) (b73 : Bool), (J74 z70 z71 b72 b73 -> ((I64 (z65 + 1)) /\ (I66 z70 z71 (z65 + 1) /\ μ67 z70 z71 (z65 + 1) < μ67 z63 z64 z65))))) /\ (¬ (z65 <= n) -> (J48 z63 (decide (y = 0)))))))))) /\ (¬ ((0 : Int) < z41) -> (∃ (I100 : Int -> Int -> Int -> Prop) (μ101 : Int -> Int -> Int -> Nat), I100 z40 y (1 : Int) /\ ∀ (z97 : Int) (z98 : Int) (z99 : Int), (I100 z97 z98 z99 -> (((z99 <= n) -> (∃ J108 : Int -> Int -> Bool -> Bool -> Prop, ((I64 (z99 - 1)) /\ ((I64 ((z99 - 1) * z31)) /\ ((I64 (z21 + ((z99 - 1) * z31))) /\ (Qv n x12 (z21 + ((z99 - 1) * z31)) z41 z98 (fun r113 => (((min z98 r113) < (0 : Int)) -> J48 z97 false) /\ (¬ ((min z98 r113) < (0 : Int)) -> ((I64 (z99 + 1)) /\ (JV z41 n (fun r117 => ((r117 <= z99) -> ((I64 (z99 + 1)) /\ ((I64 ((z99 + 1) + (min z98 r113))) /\ (J108 (max (max z97 (z99 + 1)) ((z99 + 1) + (min z98 r113))) (min z98 r113) (decide ((min z98 r113) < (0 : Int))) (decide (r117 <= z99)))))) /\ (¬ (r117 <= z99) -> (J108 (max z97 (z99 + 1)) (min z98 r113) (decide ((min z98 r113) < (0 : Int))) (decide (r117 <= z99))))))))))))) /\ ∀ (z104 : Int) (z105 : Int) (b106 : Bool) (b107 : Bool), (J108 z104 z105 b106 b107 -> ((I64 (z99 + 1)) /\ (I100 z104 z105 (z99 + 1) /\ μ101 z104 z105 (z99 + 1) < μ101 z97 z98 z99))))) /\ (¬ (z99 <= n) -> J48 z97 false)))))))))))) /\ ∀ (z46 : Int) (b47 : Bool), (J48 z46 b47 -> ((I64 (z41 + 1)) /\ (I42 z46 (z41 + 1) /\ μ43 z46 (z41 + 1) < μ43 z40 z41))))) /\ (¬ (z41 < n) -> ((I64 (z31 + 1)) /\ (I32 z40 (z31 + 1) /\ μ33 z40 (z31 + 1) < μ33 z30 z31))))))) /\ (¬ (z31 < n) -> ((I64 (z21 + 1)) /\ (I22 z30 (z21 + 1) /\ μ23 z30 (z21 + 1) < μ23 z20 z21))))))) /\ (¬ (z21 < n) -> Q z20))))
theorem Yz {w : World} {Q : Int -> Prop} {n : Int} {z : List Int} {y : Int} {Bz : Nat} {Az : Option Addr} {nz kz : Nat} (hz : Rd Bz w 1 Az nz kz (is z)) (hv : Q5 n z y Q) :
    Calls Try.prog 26 #[.int .i64 n, .slice Az nz kz, .int .i64 y] w <| Rt w fun v Qr => ∃ (r0 : Int), v = .int .i64 r0 /\ Qr = [] /\ Q r0 := by
  have hnz := hz.ilen
  subst hnz
  refine Jm <| Jl (vs := [nI n, nS Az z kz, nI y]) [6] XF26 rfl rfl rfl rfl ?_
  have hS := Jp w
  unfold Q5 at hv
  refine Je 8 <| SL.call hS (Ql (hS.ro hz) hv) XF63 rfl XN63 rfl rfl ?_
  rintro _ _ w11 ⟨x12, A13, k14, rfl, rfl, hv⟩ hGw11 hS
  have hS := hS.n1
  refine Jb 2 <| Je 9 <| W.block ?_
  obtain ⟨I22, μ23, hv, hk132⟩ := hv
  refine JB (σ := Int × Int) (fun q w1 => match q with | (z20, z21) => I22 z20 z21 /\ St TT w none w1 [nR 3 A13 x12 k14]) (fun (z20, z21) => [(0, nI n), (2, nI y), (6, nI 0), (7, nS A13 x12 k14), (8, nI z20), (9, nI z21)]) (fun (z20, z21) => μ23 z20 z21) ((1 : Int), (0 : Int)) ⟨hv, hS⟩ ⟨rfl, rfl, rfl, rfl, rfl, rfl, trivial⟩ ?_
  rintro ⟨z20, z21⟩ w24 ⟨hv, hS⟩
  have hv := hk132 z20 z21 hv
  refine Je 7 <| Jg rfl (fun c25 => ?_) (fun c25 => ?_)
  .have hv := hv.1 (oT c25)
   refine Jh <| Jz <| W.block <| Je 4 <| W.block ?_
   obtain ⟨I32, μ33, hv, hk131⟩ := hv
   refine JB (σ := Int × Int) (fun q w1 => match q with | (z30, z31) => I32 z30 z31 /\ St TT w none w1 [nR 3 A13 x12 k14]) (fun (z30, z31) => [(0, nI n), (2, nI y), (6, nI 0), (7, nS A13 x12 k14), (8, nI z30), (9, nI z21), (10, nI z31), (19, .bool (decide (z21 < n)))]) (fun (z30, z31) => μ33 z30 z31) (z20, (0 : Int)) ⟨hv, hS⟩ ⟨rfl, rfl, rfl, rfl, rfl, rfl, rfl, rfl, trivial⟩ ?_
   rintro ⟨z30, z31⟩ w34 ⟨hv, hS⟩
   have hv := hk131 z30 z31 hv
   refine Je 7 <| Jg rfl (fun c35 => ?_) (fun c35 => ?_)
   .have hv := hv.1 (oT c35)
    refine Jh <| Jz <| W.block <| Je 4 <| W.block ?_
    obtain ⟨I42, μ43, hv, hk129⟩ := hv
    refine JB (σ := Int × Int) (fun q w1 => match q with | (z40, z41) => I42 z40 z41 /\ St TT w none w1 [nR 3 A13 x12 k14]) (fun (z40, z41) => [(0, nI n), (2, nI y), (6, nI 0), (7, nS A13 x12 k14), (8, nI z40), (9, nI z21), (10, nI z31), (11, nI z41), (19, .bool (decide (z21 < n))), (24, .bool (decide (z31 < n)))]) (fun (z40, z41) => μ43 z40 z41) (z30, (0 : Int)) ⟨hv, hS⟩ ⟨rfl, rfl, rfl, rfl, rfl, rfl, rfl, rfl, rfl, rfl, trivial⟩ ?_
    rintro ⟨z40, z41⟩ w44 ⟨hv, hS⟩
    have hv := hk129 z40 z41 hv
    refine Je 7 <| Jg rfl (fun c45 => ?_) (fun c45 => ?_)
    .have hv := hv.1 (oT c45)
     refine Jh <| Jz ?_
     obtain ⟨J48, hv, hk127⟩ := hv
     refine Q4 (σ := Int × Bool) (fun q w1 => match q with | (z46, b47) => J48 z46 b47 /\ St TT w none w1 [nR 3 A13 x12 k14]) (fun (z46, b47) => [(0, nI n), (2, nI y), (6, nI 0), (7, nS A13 x12 k14), (8, nI z46), (9, nI z21), (10, nI z31), (11, nI z41), (19, .bool (decide (z21 < n))), (24, .bool (decide (z31 < n))), (29, .bool (decide (z41 < n))), (49, .bool b47)]) ?_ ?_
     .refine W.block ?_
      refine Je 5 <| SL.call hS (JY  hv) Yy rfl YV rfl rfl ?_
      rintro _ _ w49 ⟨r50, rfl, rfl, hv⟩ hGw49 hS
      have hS := hS.n0
      refine QE rfl rfl rfl <| Jd rfl rfl ?_
      by_cases g51 : r50 ≠ 1
      .have hv := hv.1 g51
       rw [decide_eq_true g51]
       refine Jb 9 <| Qi rfl rfl <| Qi rfl rfl <| Jb 3 <| Jq rfl <| Jt ?_
       exact ⟨(z40, true), sp rfl, rfl, hv, hS⟩
      have hv := hv.2 g51
      rw [decide_eq_false g51]
      refine Jb 5 <| SL.call hS (YM (hS.rd (i := 0) rfl) hv) Jbh rfl XN64 rfl rfl ?_
      rintro _ _ w52 ⟨r53, rfl, rfl, hv⟩ hGw52 hS
      have hS := hS.n0
      refine Jb 3 <| Jd rfl rfl ?_
      rcases g54 : (!r53) with _ | _
      .have hv := hv.2 g54
       refine Jb 5 <| Jd rfl rfl ?_
       by_cases g55 : (0 : Int) < z41
       .have hv := hv.1 g55
        rw [decide_eq_true g55]
        refine Jb 8 <| Jg rfl (fun c56 => ?_) (fun c56 => ?_)
        .have hv := hv.1 (oT c56)
         refine Jt ?_
         exact ⟨(z40, (decide (y = 0))), sp rfl, rfl, hv, hS⟩
        have hv := hv.2 (oF c56)
        refine Jh <| Je 9 <| W.block ?_
        obtain ⟨I66, μ67, hv, hk90⟩ := hv
        refine JB (σ := Int × Int × Int) (fun q w1 => match q with | (z63, z64, z65) => I66 z63 z64 z65 /\ St TT w none w1 [nR 3 A13 x12 k14]) (fun (z63, z64, z65) => [(0, nI n), (2, nI y), (6, nI 0), (7, nS A13 x12 k14), (8, nI z63), (9, nI z21), (10, nI z31), (11, nI z41), (12, nI z64), (13, nI z65), (19, .bool (decide (z21 < n))), (24, .bool (decide (z31 < n))), (29, .bool (decide (z41 < n))), (49, .bool (decide (y = 0)))]) (fun (z63, z64, z65) => μ67 z63 z64 z65) (z40, y, (1 : Int)) ⟨hv, hS⟩ ⟨rfl, rfl, rfl, rfl, rfl, rfl, rfl, rfl, rfl, rfl, rfl, rfl, rfl, rfl, trivial⟩ ?_
        rintro ⟨z63, z64, z65⟩ w68 ⟨hv, hS⟩
        have hv := hk90 z63 z64 z65 hv
        refine Je 7 <| Jg rfl (fun c69 => ?_) (fun c69 => ?_)
        .have hv := hv.1 (oT c69)
         refine Jh <| Jz ?_
         obtain ⟨J74, hv, hk89⟩ := hv
         refine Q4 (σ := Int × Int × Bool × Bool) (fun q w1 => match q with | (z70, z71, b72, b73) => J74 z70 z71 b72 b73 /\ St TT w none w1 [nR 3 A13 x12 k14]) (fun (z70, z71, b72, b73) => [(0, nI n), (2, nI y), (6, nI 0), (7, nS A13 x12 k14), (8, nI z70), (9, nI z21), (10, nI z31), (11, nI z41), (12, nI z71), (13, nI z65), (19, .bool (decide (z21 < n))), (24, .bool (decide (z31 < n))), (29, .bool (decide (z41 < n))), (49, .bool (decide (y = 0))), (53, .bool (decide (z65 <= n))), (70, .bool b72), (79, .bool b73)]) ?_ ?_
         .refine W.block ?_
          refine Je 7 ?_
          obtain ⟨o75, hv⟩ := hv
          refine WL.sub (r := (z65 - 1)) rfl rfl (wr o75) rfl <| Jd rfl rfl ?_
          obtain ⟨o76, hv⟩ := hv
          refine J3 (r := ((z65 - 1) * z31)) rfl rfl (wr o76) rfl ?_
          obtain ⟨o77, hv⟩ := hv
          refine WL.add (r := (z21 + ((z65 - 1) * z31))) rfl rfl (wr o77) rfl <| Jb 2 <| SL.call hS (Za (hS.rd (i := 0) rfl) hv) XF70 rfl XN70 rfl rfl ?_
          rintro _ _ w78 ⟨r79, rfl, rfl, hv⟩ hGw78 hS
          have hS := hS.n0
          refine Zp (r := (min z64 r79)) rfl rfl rfl rfl <| Jb 2 <| Je 6 <| Jg rfl (fun c80 => ?_) (fun c80 => ?_)
          .have hv := hv.1 (oT c80)
           refine Jt ?_
           exact ⟨(z63, (decide (y = 0))), sp rfl, rfl, hv, hS⟩
          have hv := hv.2 (oF c80)
          refine Jh <| Je 4 ?_
          obtain ⟨o81, hv⟩ := hv
          refine WL.add (r := (z65 + 1)) rfl rfl (wr o81) rfl <| Yf (r := (max z63 (z65 + 1))) rfl rfl rfl rfl <| Jb 2 <| Je 4 <| SL.call hS (JY  hv) Yy rfl YV rfl rfl ?_
          rintro _ _ w82 ⟨r83, rfl, rfl, hv⟩ hGw82 hS
          have hS := hS.n0
          refine Jb 3 <| Jg rfl (fun c84 => ?_) (fun c84 => ?_)
          .have hv := hv.1 (oT c84)
           refine Je 3 ?_
           obtain ⟨o85, hv⟩ := hv
           refine WL.add (r := (z65 + 1)) rfl rfl (wr o85) rfl <| Jd rfl rfl ?_
           obtain ⟨o86, hv⟩ := hv
           refine WL.add (r := ((z65 + 1) + (min z64 r79))) rfl rfl (wr o86) rfl <| Yf (r := (max (max z63 (z65 + 1)) ((z65 + 1) + (min z64 r79)))) rfl rfl rfl rfl <| Jb 2 ?_
           exact ⟨((max (max z63 (z65 + 1)) ((z65 + 1) + (min z64 r79))), (min z64 r79), (decide ((min z64 r79) < (0 : Int))), (decide (r83 <= z65))), sp rfl, rfl, hv, hS⟩
          have hv := hv.2 (oF c84)
          refine Jh ?_
          exact ⟨((max z63 (z65 + 1)), (min z64 r79), (decide ((min z64 r79) < (0 : Int))), (decide (r83 <= z65))), sp rfl, rfl, hv, hS⟩
         rintro ⟨z70, z71, b72, b73⟩ w87 ⟨hv, hS⟩
         have hv := hk89 z70 z71 b72 b73 hv
         refine Je 2 ?_
         obtain ⟨o88, hv⟩ := hv
         refine WL.add (r := (z65 + 1)) rfl rfl (wr o88) rfl <| Jb 2 ?_
         exact ⟨(z70, z71, (z65 + 1)), sp rfl, hv.2, rfl, hv.1, hS⟩
        have hv := hv.2 (oF c69)
        refine Jt ?_
        exact ⟨(z63, (decide (y = 0))), sp rfl, rfl, hv, hS⟩
       have hv := hv.2 g55
       rw [decide_eq_false g55]
       refine Jb 6 <| QF rfl <| Jh <| Je 9 <| W.block ?_
       obtain ⟨I100, μ101, hv, hk124⟩ := hv
       refine JB (σ := Int × Int × Int) (fun q w1 => match q with | (z97, z98, z99) => I100 z97 z98 z99 /\ St TT w none w1 [nR 3 A13 x12 k14]) (fun (z97, z98, z99) => [(0, nI n), (2, nI y), (6, nI 0), (7, nS A13 x12 k14), (8, nI z97), (9, nI z21), (10, nI z31), (11, nI z41), (12, nI z98), (13, nI z99), (19, .bool (decide (z21 < n))), (24, .bool (decide (z31 < n))), (29, .bool (decide (z41 < n))), (49, .bool false)]) (fun (z97, z98, z99) => μ101 z97 z98 z99) (z40, y, (1 : Int)) ⟨hv, hS⟩ ⟨rfl, rfl, rfl, rfl, rfl, rfl, rfl, rfl, rfl, rfl, rfl, rfl, rfl, rfl, trivial⟩ ?_
       rintro ⟨z97, z98, z99⟩ w102 ⟨hv, hS⟩
       have hv := hk124 z97 z98 z99 hv
       refine Je 7 <| Jg rfl (fun c103 => ?_) (fun c103 => ?_)
       .have hv := hv.1 (oT c103)
        refine Jh <| Jz ?_
        obtain ⟨J108, hv, hk123⟩ := hv
        refine Q4 (σ := Int × Int × Bool × Bool) (fun q w1 => match q with | (z104, z105, b106, b107) => J108 z104 z105 b106 b107 /\ St TT w none w1 [nR 3 A13 x12 k14]) (fun (z104, z105, b106, b107) => [(0, nI n), (2, nI y), (6, nI 0), (7, nS A13 x12 k14), (8, nI z104), (9, nI z21), (10, nI z31), (11, nI z41), (12, nI z105), (13, nI z99), (19, .bool (decide (z21 < n))), (24, .bool (decide (z31 < n))), (29, .bool (decide (z41 < n))), (49, .bool false), (53, .bool (decide (z99 <= n))), (70, .bool b106), (79, .bool b107)]) ?_ ?_
        .refine W.block ?_
         refine Je 7 ?_
         obtain ⟨o109, hv⟩ := hv
         refine WL.sub (r := (z99 - 1)) rfl rfl (wr o109) rfl <| Jd rfl rfl ?_
         obtain ⟨o110, hv⟩ := hv
         refine J3 (r := ((z99 - 1) * z31)) rfl rfl (wr o110) rfl ?_
         obtain ⟨o111, hv⟩ := hv
         refine WL.add (r := (z21 + ((z99 - 1) * z31))) rfl rfl (wr o111) rfl <| Jb 2 <| SL.call hS (Za (hS.rd (i := 0) rfl) hv) XF70 rfl XN70 rfl rfl ?_
         rintro _ _ w112 ⟨r113, rfl, rfl, hv⟩ hGw112 hS
         have hS := hS.n0
         refine Zp (r := (min z98 r113)) rfl rfl rfl rfl <| Jb 2 <| Je 6 <| Jg rfl (fun c114 => ?_) (fun c114 => ?_)
         .have hv := hv.1 (oT c114)
          refine Jt ?_
          exact ⟨(z97, false), sp rfl, rfl, hv, hS⟩
         have hv := hv.2 (oF c114)
         refine Jh <| Je 4 ?_
         obtain ⟨o115, hv⟩ := hv
         refine WL.add (r := (z99 + 1)) rfl rfl (wr o115) rfl <| Yf (r := (max z97 (z99 + 1))) rfl rfl rfl rfl <| Jb 2 <| Je 4 <| SL.call hS (JY  hv) Yy rfl YV rfl rfl ?_
         rintro _ _ w116 ⟨r117, rfl, rfl, hv⟩ hGw116 hS
         have hS := hS.n0
         refine Jb 3 <| Jg rfl (fun c118 => ?_) (fun c118 => ?_)
         .have hv := hv.1 (oT c118)
          refine Je 3 ?_
          obtain ⟨o119, hv⟩ := hv
          refine WL.add (r := (z99 + 1)) rfl rfl (wr o119) rfl <| Jd rfl rfl ?_
          obtain ⟨o120, hv⟩ := hv
          refine WL.add (r := ((z99 + 1) + (min z98 r113))) rfl rfl (wr o120) rfl <| Yf (r := (max (max z97 (z99 + 1)) ((z99 + 1) + (min z98 r113)))) rfl rfl rfl rfl <| Jb 2 ?_
          exact ⟨((max (max z97 (z99 + 1)) ((z99 + 1) + (min z98 r113))), (min z98 r113), (decide ((min z98 r113) < (0 : Int))), (decide (r117 <= z99))), sp rfl, rfl, hv, hS⟩
         have hv := hv.2 (oF c118)
         refine Jh ?_
         exact ⟨((max z97 (z99 + 1)), (min z98 r113), (decide ((min z98 r113) < (0 : Int))), (decide (r117 <= z99))), sp rfl, rfl, hv, hS⟩
        rintro ⟨z104, z105, b106, b107⟩ w121 ⟨hv, hS⟩
        have hv := hk123 z104 z105 b106 b107 hv
        refine Je 2 ?_
        obtain ⟨o122, hv⟩ := hv
        refine WL.add (r := (z99 + 1)) rfl rfl (wr o122) rfl <| Jb 2 ?_
        exact ⟨(z104, z105, (z99 + 1)), sp rfl, hv.2, rfl, hv.1, hS⟩
       have hv := hv.2 (oF c103)
       refine Jt ?_
       exact ⟨(z97, false), sp rfl, rfl, hv, hS⟩
      have hv := hv.1 g54
      refine Jb 3 <| Qi rfl rfl <| Qi rfl rfl <| Jb 3 <| Jq rfl <| Jt ?_
      exact ⟨(z40, true), sp rfl, rfl, hv, hS⟩
     rintro ⟨z46, b47⟩ w125 ⟨hv, hS⟩
     have hv := hk127 z46 b47 hv
     refine Je 2 ?_
     obtain ⟨o126, hv⟩ := hv
     refine WL.add (r := (z41 + 1)) rfl rfl (wr o126) rfl <| Jb 2 ?_
     exact ⟨(z46, (z41 + 1)), sp rfl, hv.2, rfl, hv.1, hS⟩
    have hv := hv.2 (oF c45)
    refine Jt <| Je 2 ?_
    obtain ⟨o128, hv⟩ := hv
    refine WL.add (r := (z31 + 1)) rfl rfl (wr o128) rfl <| Jb 2 ?_
    exact ⟨(z40, (z31 + 1)), sp rfl, hv.2, rfl, hv.1, hS⟩
   have hv := hv.2 (oF c35)
   refine Jt <| Je 2 ?_
   obtain ⟨o130, hv⟩ := hv
   refine WL.add (r := (z21 + 1)) rfl rfl (wr o130) rfl <| Jb 2 ?_
   exact ⟨(z30, (z21 + 1)), sp rfl, hv.2, rfl, hv.1, hS⟩
  have hv := hv.2 (oF c25)
  refine Jt <| Je 5 <| W.ret <| ⟨_, rfl, Fin.nil ?_⟩
  exact (hS.pick [] rfl).fin rfl ⟨z20, rfl, rfl, hv⟩
end Go.Proofs.Ytppkigdakobebaa
set_option linter.unusedSimpArgs false
set_option linter.unusedVariables false
set_option maxRecDepth 4000
set_option maxHeartbeats 4000000
namespace Go.Proofs.Ytppkigdakobebaa
open Go.RowKit
def Yp (n : Int) (l : List Int) (Q : Bool -> Prop) : Prop :=
  (((200 : Int) < (l.length : Int)) -> Q true) /\ (¬ ((200 : Int) < (l.length : Int)) -> ((((12 : Int) < n) -> (((n <= 64) -> Q true) /\ (¬ (n <= 64) -> (Qo n l (fun (r15, r16, r17, r18, r19, r20, r21) => Qn n l (fun (r26, r27, r28, r29, r30, r31, r32) => ((n < 1) -> (((r21 = 4) -> (((r32 = 4) -> (((r15 = 0) -> (((r26 = 0) -> (((r16 = 0 /\ r17 = 0 /\ r18 = 0 /\ r19 = 0 /\ r20 = 0) -> (Q (decide (r27 = 0 /\ r28 = 0 /\ r29 = 0 /\ r30 = 0 /\ r31 = 0)))) /\ (¬ (r16 = 0 /\ r17 = 0 /\ r18 = 0 /\ r19 = 0 /\ r20 = 0) -> Q false))) /\ (¬ (r26 = 0) -> Q false))) /\ (¬ (r15 = 0) -> Q false))) /\ (¬ (r32 = 4) -> Q false))) /\ (¬ (r21 = 4) -> Q false))) /\ (¬ (n < 1) -> ((((64 : Int) < n) -> (((r21 = 4) -> (((r32 = 4) -> (((r15 = 0) -> (((r26 = 0) -> (((r16 = 0 /\ r17 = 0 /\ r18 = 0 /\ r19 = 0 /\ r20 = 0) -> (Q (decide (r27 = 0 /\ r28 = 0 /\ r29 = 0 /\ r30 = 0 /\ r31 = 0)))) /\ (¬ (r16 = 0 /\ r17 = 0 /\ r18 = 0 /\ r19 = 0 /\ r20 = 0) -> Q false))) /\ (¬ (r26 = 0) -> Q false))) /\ (¬ (r15 = 0) -> Q false))) /\ (¬ (r32 = 4) -> Q false))) /\ (¬ (r21 = 4) -> Q false))) /\ (¬ ((64 : Int) < n) -> (((r21 ≠ 0) -> Q false) /\ (¬ (r21 ≠ 0) -> (((r32 ≠ 0) -> Q false) /\ (¬ (r32 ≠ 0) -> (Q5 n l (0 : Int) (fun r51 => ((r15 ≠ r51) -> Q false) /\ (¬ (r15 ≠ r51) -> (Q5 n l n (fun r54 => ((r26 ≠ r54) -> Q false) /\ (¬ (r26 ≠ r54) -> (((r15 = 1) -> (((r16 = 0 /\ r17 = 0 /\ r18 = 0 /\ r19 = 0 /\ r20 = 0) -> (((r27 = 0 /\ r28 = 0 /\ r29 = 0 /\ r30 = 0 /\ r31 = 0) -> (Q (decide (r26 = 1)))) /\ (¬ (r27 = 0 /\ r28 = 0 /\ r29 = 0 /\ r30 = 0 /\ r31 = 0) -> Q false))) /\ (¬ (r16 = 0 /\ r17 = 0 /\ r18 = 0 /\ r19 = 0 /\ r20 = 0) -> Q false))) /\ (¬ (r15 = 1) -> (J5 n l r16 r17 r18 r19 r20 (fun (r60, r61) => J5 n l r27 r28 r29 r30 r31 (fun (r63, r64) => ((r61 = 0) -> (((r64 = 0) -> (((r60 = r15) -> (((r63 = r26) -> (((r19 = 0) -> (Q (decide (r20 = 0)))) /\ (¬ (r19 = 0) -> Q false))) /\ (¬ (r63 = r26) -> Q false))) /\ (¬ (r60 = r15) -> Q false))) /\ (¬ (r64 = 0) -> Q false))) /\ (¬ (r61 = 0) -> Q false))))))))))))))))))))))))) /\ (¬ ((12 : Int) < n) -> (Qo n l (fun (r71, r72, r73, r74, r75, r76, r77) => Qn n l (fun (r82, r83, r84, r85, r86, r87, r88) => ((n < 1) -> (((r77 = 4) -> (((r88 = 4) -> (((r71 = 0) -> (((r82 = 0) -> (((r72 = 0 /\ r73 = 0 /\ r74 = 0 /\ r75 = 0 /\ r76 = 0) -> (Q (decide (r83 = 0 /\ r84 = 0 /\ r85 = 0 /\ r86 = 0 /\ r87 = 0)))) /\ (¬ (r72 = 0 /\ r73 = 0 /\ r74 = 0 /\ r75 = 0 /\ r76 = 0) -> Q false))) /\ (¬ (r82 = 0) -> Q false))) /\ (¬ (r71 = 0) -> Q false))) /\ (¬ (r88 = 4) -> Q false))) /\ (¬ (r77 = 4) -> Q false))) /\ (¬ (n < 1) -> ((((64 : Int) < n) -> (((r77 = 4) -> (((r88 = 4) -> (((r71 = 0) -> (((r82 = 0) -> (((r72 = 0 /\ r73 = 0 /\ r74 = 0 /\ r75 = 0 /\ r76 = 0) -> (Q (decide (r83 = 0 /\ r84 = 0 /\ r85 = 0 /\ r86 = 0 /\ r87 = 0)))) /\ (¬ (r72 = 0 /\ r73 = 0 /\ r74 = 0 /\ r75 = 0 /\ r76 = 0) -> Q false))) /\ (¬ (r82 = 0) -> Q false))) /\ (¬ (r71 = 0) -> Q false))) /\ (¬ (r88 = 4) -> Q false))) /\ (¬ (r77 = 4) -> Q false))) /\ (¬ ((64 : Int) < n) -> (((r77 ≠ 0) -> Q false) /\ (¬ (r77 ≠ 0) -> (((r88 ≠ 0) -> Q false) /\ (¬ (r88 ≠ 0) -> (Q5 n l (0 : Int) (fun r107 => ((r71 ≠ r107) -> Q false) /\ (¬ (r71 ≠ r107) -> (Q5 n l n (fun r110 => ((r82 ≠ r110) -> Q false) /\ (¬ (r82 ≠ r110) -> (((r71 = 1) -> (((r72 = 0 /\ r73 = 0 /\ r74 = 0 /\ r75 = 0 /\ r76 = 0) -> (((r83 = 0 /\ r84 = 0 /\ r85 = 0 /\ r86 = 0 /\ r87 = 0) -> (Q (decide (r82 = 1)))) /\ (¬ (r83 = 0 /\ r84 = 0 /\ r85 = 0 /\ r86 = 0 /\ r87 = 0) -> Q false))) /\ (¬ (r72 = 0 /\ r73 = 0 /\ r74 = 0 /\ r75 = 0 /\ r76 = 0) -> Q false))) /\ (¬ (r71 = 1) -> (J5 n l r72 r73 r74 r75 r76 (fun (r116, r117) => J5 n l r83 r84 r85 r86 r87 (fun (r119, r120) => ((r117 = 0) -> (((r120 = 0) -> (((r116 = r71) -> (((r119 = r82) -> (((r75 = 0) -> (Q (decide (r76 = 0)))) /\ (¬ (r75 = 0) -> Q false))) /\ (¬ (r119 = r82) -> Q false))) /\ (¬ (r116 = r71) -> Q false))) /\ (¬ (r120 = 0) -> Q false))) /\ (¬ (r117 = 0) -> Q false)))))))))))))))))))))))))
theorem Z1 {w : World} {Q : Bool -> Prop} {n : Int} {l : List Int} {Bl : Nat} {Al : Option Addr} {nl kl : Nat} (hl : Rd Bl w 1 Al nl kl (is l)) (hv : Yp n l Q) :
    Calls Try.prog 6 #[.int .i64 n, .slice Al nl kl] w <| Rt w fun v Qr => ∃ (r0 : Bool), v = .bool r0 /\ Qr = [] /\ Q r0 := by
  have hnl := hl.ilen
  subst hnl
  refine Jm <| Jl (vs := [nI n, nS Al l kl]) [4] XF6 rfl rfl rfl rfl ?_
  have hS := Jp w
  unfold Yp at hv
  refine Je 8 <| WL.len JK rfl rfl <| Qe rfl rfl rfl <| Jd rfl rfl ?_
  by_cases g11 : (200 : Int) < (l.length : Int)
  .have hv := hv.1 g11
   rw [decide_eq_true g11]
   refine Jb 3 <| Qi rfl rfl <| Qi rfl rfl <| Jb 3 <| Jq rfl <| Je 4 <| W.ret <| ⟨_, rfl, Fin.nil ?_⟩
   exact (hS.pick [] rfl).fin rfl ⟨true, rfl, rfl, hv⟩
  have hv := hv.2 g11
  rw [decide_eq_false g11]
  refine Jb 5 <| Jd rfl rfl ?_
  by_cases g12 : (12 : Int) < n
  .have hv := hv.1 g12
   rw [decide_eq_true g12]
   refine Jb 8 <| Jg rfl (fun c13 => ?_) (fun c13 => ?_)
   .have hv := hv.1 (oT c13)
    refine Je 4 <| W.ret <| ⟨_, rfl, Fin.nil ?_⟩
    exact (hS.pick [] rfl).fin rfl ⟨true, rfl, rfl, hv⟩
   have hv := hv.2 (oF c13)
   refine Jh <| Je 4 <| SL.call hS (QJ (hS.ro hl) hv) Jbj rfl XN24 rfl rfl ?_
   rintro _ _ w14 ⟨r15, r16, r17, r18, r19, r20, r21, rfl, rfl, hv⟩ hGw14 hS
   have hS := hS.n0
   refine Jb 4 <| SL.alloc (cs := [nI 0, nI 0, nI 0, nI 0, nI 0]) hS Jk rfl rfl ?_
   intro g22 w23 hS
   refine JG rfl rfl <| JC (cs := [nI r16, nI r17, nI r18, nI r19, nI r20]) 0 hS rfl Jk rfl rfl rfl rfl rfl ?_
   intro w24 hS
   refine Jb 2 <| Je 4 <| SL.call hS (QI (hS.ro hl) hv) Jbi rfl XN25 rfl rfl ?_
   rintro _ _ w25 ⟨r26, r27, r28, r29, r30, r31, r32, rfl, rfl, hv⟩ hGw25 hS
   have hS := hS.n0
   refine Jb 4 <| SL.alloc (cs := [nI 0, nI 0, nI 0, nI 0, nI 0]) hS Jk rfl rfl ?_
   intro g33 w34 hS
   refine JG rfl rfl <| JC (cs := [nI r27, nI r28, nI r29, nI r30, nI r31]) 0 hS rfl Jk rfl rfl rfl rfl rfl ?_
   intro w35 hS
   refine Jb 2 <| Je 5 <| Jd rfl rfl ?_
   by_cases g36 : n < 1
   .have hv := hv.1 g36
    rw [decide_eq_true g36]
    refine Jb 4 <| Jq rfl <| Je 4 <| Jd rfl rfl ?_
    by_cases g37 : r21 = 4
    .have hv := hv.1 g37
     rw [decide_eq_true g37]
     refine Jb 5 <| Jd rfl rfl ?_
     by_cases g38 : r32 = 4
     .have hv := hv.1 g38
      rw [decide_eq_true g38]
      refine Jb 5 <| Jd rfl rfl ?_
      by_cases g39 : r15 = 0
      .have hv := hv.1 g39
       rw [decide_eq_true g39]
       refine Jb 5 <| Jd rfl rfl ?_
       by_cases g40 : r26 = 0
       .have hv := hv.1 g40
        rw [decide_eq_true g40]
        refine WL.take rfl <| Jr 1 Jk JA hS rfl ⟨rfl, rfl⟩ rfl <| WL.take rfl <| JE (cells := #[nI 0, nI 0, nI 0, nI 0, nI 0]) QW rfl rfl rfl <| WL.take rfl <| JW QH rfl rfl rfl <| WL.pick rfl rfl rfl <| Jd rfl rfl ?_
        by_cases g41 : r16 = 0 /\ r17 = 0 /\ r18 = 0 /\ r19 = 0 /\ r20 = 0
        .have hv := hv.1 g41
         rw [decide_eq_true g41]
         refine WL.take rfl <| Jr 0 Jk JA hS rfl ⟨rfl, rfl⟩ rfl <| WL.take rfl <| JE (cells := #[nI 0, nI 0, nI 0, nI 0, nI 0]) QW rfl rfl rfl <| WL.take rfl <| JW QH rfl rfl rfl <| Jb 3 <| W.ret <| ⟨_, rfl, Fin.nil ?_⟩
         exact (hS.pick [] rfl).fin rfl ⟨(decide (r27 = 0 /\ r28 = 0 /\ r29 = 0 /\ r30 = 0 /\ r31 = 0)), rfl, rfl, hv⟩
        have hv := hv.2 g41
        rw [decide_eq_false g41]
        refine Jb 6 <| W.ret <| ⟨_, rfl, Fin.nil ?_⟩
        exact (hS.pick [] rfl).fin rfl ⟨false, rfl, rfl, hv⟩
       have hv := hv.2 g40
       rw [decide_eq_false g40]
       refine Jb 11 <| W.ret <| ⟨_, rfl, Fin.nil ?_⟩
       exact (hS.pick [] rfl).fin rfl ⟨false, rfl, rfl, hv⟩
      have hv := hv.2 g39
      rw [decide_eq_false g39]
      refine Jb 15 <| W.ret <| ⟨_, rfl, Fin.nil ?_⟩
      exact (hS.pick [] rfl).fin rfl ⟨false, rfl, rfl, hv⟩
     have hv := hv.2 g38
     rw [decide_eq_false g38]
     refine Jb 19 <| W.ret <| ⟨_, rfl, Fin.nil ?_⟩
     exact (hS.pick [] rfl).fin rfl ⟨false, rfl, rfl, hv⟩
    have hv := hv.2 g37
    rw [decide_eq_false g37]
    refine Jb 23 <| W.ret <| ⟨_, rfl, Fin.nil ?_⟩
    exact (hS.pick [] rfl).fin rfl ⟨false, rfl, rfl, hv⟩
   have hv := hv.2 g36
   rw [decide_eq_false g36]
   refine Jb 6 <| Jg rfl (fun c42 => ?_) (fun c42 => ?_)
   .have hv := hv.1 (oT c42)
    refine Je 4 <| Jd rfl rfl ?_
    by_cases g43 : r21 = 4
    .have hv := hv.1 g43
     rw [decide_eq_true g43]
     refine Jb 5 <| Jd rfl rfl ?_
     by_cases g44 : r32 = 4
     .have hv := hv.1 g44
      rw [decide_eq_true g44]
      refine Jb 5 <| Jd rfl rfl ?_
      by_cases g45 : r15 = 0
      .have hv := hv.1 g45
       rw [decide_eq_true g45]
       refine Jb 5 <| Jd rfl rfl ?_
       by_cases g46 : r26 = 0
       .have hv := hv.1 g46
        rw [decide_eq_true g46]
        refine WL.take rfl <| Jr 1 Jk JA hS rfl ⟨rfl, rfl⟩ rfl <| WL.take rfl <| JE (cells := #[nI 0, nI 0, nI 0, nI 0, nI 0]) QW rfl rfl rfl <| WL.take rfl <| JW QH rfl rfl rfl <| WL.pick rfl rfl rfl <| Jd rfl rfl ?_
        by_cases g47 : r16 = 0 /\ r17 = 0 /\ r18 = 0 /\ r19 = 0 /\ r20 = 0
        .have hv := hv.1 g47
         rw [decide_eq_true g47]
         refine WL.take rfl <| Jr 0 Jk JA hS rfl ⟨rfl, rfl⟩ rfl <| WL.take rfl <| JE (cells := #[nI 0, nI 0, nI 0, nI 0, nI 0]) QW rfl rfl rfl <| WL.take rfl <| JW QH rfl rfl rfl <| Jb 3 <| W.ret <| ⟨_, rfl, Fin.nil ?_⟩
         exact (hS.pick [] rfl).fin rfl ⟨(decide (r27 = 0 /\ r28 = 0 /\ r29 = 0 /\ r30 = 0 /\ r31 = 0)), rfl, rfl, hv⟩
        have hv := hv.2 g47
        rw [decide_eq_false g47]
        refine Jb 6 <| W.ret <| ⟨_, rfl, Fin.nil ?_⟩
        exact (hS.pick [] rfl).fin rfl ⟨false, rfl, rfl, hv⟩
       have hv := hv.2 g46
       rw [decide_eq_false g46]
       refine Jb 11 <| W.ret <| ⟨_, rfl, Fin.nil ?_⟩
       exact (hS.pick [] rfl).fin rfl ⟨false, rfl, rfl, hv⟩
      have hv := hv.2 g45
      rw [decide_eq_false g45]
      refine Jb 15 <| W.ret <| ⟨_, rfl, Fin.nil ?_⟩
      exact (hS.pick [] rfl).fin rfl ⟨false, rfl, rfl, hv⟩
     have hv := hv.2 g44
     rw [decide_eq_false g44]
     refine Jb 19 <| W.ret <| ⟨_, rfl, Fin.nil ?_⟩
     exact (hS.pick [] rfl).fin rfl ⟨false, rfl, rfl, hv⟩
    have hv := hv.2 g43
    rw [decide_eq_false g43]
    refine Jb 23 <| W.ret <| ⟨_, rfl, Fin.nil ?_⟩
    exact (hS.pick [] rfl).fin rfl ⟨false, rfl, rfl, hv⟩
   have hv := hv.2 (oF c42)
   refine Jh <| Je 5 <| Jd rfl rfl ?_
   by_cases g48 : r21 ≠ 0
   .have hv := hv.1 g48
    rw [decide_eq_true g48]
    refine Jb 19 <| Jq rfl <| Je 4 <| W.ret <| ⟨_, rfl, Fin.nil ?_⟩
    exact (hS.pick [] rfl).fin rfl ⟨false, rfl, rfl, hv⟩
   have hv := hv.2 g48
   rw [decide_eq_false g48]
   refine Jb 5 <| Jd rfl rfl ?_
   by_cases g49 : r32 ≠ 0
   .have hv := hv.1 g49
    rw [decide_eq_true g49]
    refine Jb 15 <| Jq rfl <| Je 4 <| W.ret <| ⟨_, rfl, Fin.nil ?_⟩
    exact (hS.pick [] rfl).fin rfl ⟨false, rfl, rfl, hv⟩
   have hv := hv.2 g49
   rw [decide_eq_false g49]
   refine Jb 7 <| SL.call hS (Yz (hS.ro hl) hv) XF26 rfl XN26 rfl rfl ?_
   rintro _ _ w50 ⟨r51, rfl, rfl, hv⟩ hGw50 hS
   have hS := hS.n0
   refine Jb 3 <| Jd rfl rfl ?_
   by_cases g52 : r15 ≠ r51
   .have hv := hv.1 g52
    rw [decide_eq_true g52]
    refine Jb 8 <| Jq rfl <| Je 4 <| W.ret <| ⟨_, rfl, Fin.nil ?_⟩
    exact (hS.pick [] rfl).fin rfl ⟨false, rfl, rfl, hv⟩
   have hv := hv.2 g52
   rw [decide_eq_false g52]
   refine Jb 9 <| SL.call hS (Yz (hS.ro hl) hv) XF26 rfl XN26 rfl rfl ?_
   rintro _ _ w53 ⟨r54, rfl, rfl, hv⟩ hGw53 hS
   have hS := hS.n0
   refine Jb 4 <| Jg rfl (fun c55 => ?_) (fun c55 => ?_)
   .have hv := hv.1 (oT c55)
    refine Je 4 <| W.ret <| ⟨_, rfl, Fin.nil ?_⟩
    exact (hS.pick [] rfl).fin rfl ⟨false, rfl, rfl, hv⟩
   have hv := hv.2 (oF c55)
   refine Jh <| Je 6 <| Jg rfl (fun c56 => ?_) (fun c56 => ?_)
   .have hv := hv.1 (oT c56)
    refine Je 2 <| Jr 1 Jk JA hS rfl ⟨rfl, rfl⟩ rfl <| JE (cells := #[nI 0, nI 0, nI 0, nI 0, nI 0]) QW rfl rfl rfl <| JW QH rfl rfl rfl <| Jd rfl rfl ?_
    by_cases g57 : r16 = 0 /\ r17 = 0 /\ r18 = 0 /\ r19 = 0 /\ r20 = 0
    .have hv := hv.1 g57
     rw [decide_eq_true g57]
     refine WL.take rfl <| Jr 0 Jk JA hS rfl ⟨rfl, rfl⟩ rfl <| WL.take rfl <| JE (cells := #[nI 0, nI 0, nI 0, nI 0, nI 0]) QW rfl rfl rfl <| WL.take rfl <| JW QH rfl rfl rfl <| WL.pick rfl rfl rfl <| Jd rfl rfl ?_
     by_cases g58 : r27 = 0 /\ r28 = 0 /\ r29 = 0 /\ r30 = 0 /\ r31 = 0
     .have hv := hv.1 g58
      rw [decide_eq_true g58]
      refine Jb 7 <| W.ret <| ⟨_, rfl, Fin.nil ?_⟩
      exact (hS.pick [] rfl).fin rfl ⟨(decide (r26 = 1)), rfl, rfl, hv⟩
     have hv := hv.2 g58
     rw [decide_eq_false g58]
     refine Jb 5 <| W.ret <| ⟨_, rfl, Fin.nil ?_⟩
     exact (hS.pick [] rfl).fin rfl ⟨false, rfl, rfl, hv⟩
    have hv := hv.2 g57
    rw [decide_eq_false g57]
    refine Jb 10 <| W.ret <| ⟨_, rfl, Fin.nil ?_⟩
    exact (hS.pick [] rfl).fin rfl ⟨false, rfl, rfl, hv⟩
   have hv := hv.2 (oF c56)
   refine Jh <| Je 4 <| Jr 1 Jk JA hS rfl ⟨rfl, rfl⟩ rfl <| SL.call hS (Qy (hS.ro hl) hv) XF23 rfl XN23 rfl rfl ?_
   rintro _ _ w59 ⟨r60, r61, rfl, rfl, hv⟩ hGw59 hS
   have hS := hS.n0
   refine Jb 6 <| Je 4 <| Jr 0 Jk JA hS rfl ⟨rfl, rfl⟩ rfl <| SL.call hS (Qy (hS.ro hl) hv) XF23 rfl XN23 rfl rfl ?_
   rintro _ _ w62 ⟨r63, r64, rfl, rfl, hv⟩ hGw62 hS
   have hS := hS.n0
   refine Jb 6 <| Je 4 <| Jd rfl rfl ?_
   by_cases g65 : r61 = 0
   .have hv := hv.1 g65
    rw [decide_eq_true g65]
    refine Jb 5 <| Jd rfl rfl ?_
    by_cases g66 : r64 = 0
    .have hv := hv.1 g66
     rw [decide_eq_true g66]
     refine Jb 7 <| Jd rfl rfl ?_
     by_cases g67 : r60 = r15
     .have hv := hv.1 g67
      rw [decide_eq_true g67]
      refine Jb 7 <| Jd rfl rfl ?_
      by_cases g68 : r63 = r26
      .have hv := hv.1 g68
       rw [decide_eq_true g68]
       refine WL.take rfl <| Jc (off := 3) QC rfl rfl <| WL.take rfl <| Jo 1 3 XU3 hS rfl rfl rfl ⟨rfl, rfl⟩ <| Jb 3 <| Jd rfl rfl ?_
       by_cases g69 : r19 = 0
       .have hv := hv.1 g69
        rw [decide_eq_true g69]
        refine WL.take rfl <| Jc (off := 4) JM rfl rfl <| WL.take rfl <| Jo 1 4 XU3 hS rfl rfl rfl ⟨rfl, rfl⟩ <| Jb 5 <| W.ret <| ⟨_, rfl, Fin.nil ?_⟩
        exact (hS.pick [] rfl).fin rfl ⟨(decide (r20 = 0)), rfl, rfl, hv⟩
       have hv := hv.2 g69
       rw [decide_eq_false g69]
       refine Jb 6 <| W.ret <| ⟨_, rfl, Fin.nil ?_⟩
       exact (hS.pick [] rfl).fin rfl ⟨false, rfl, rfl, hv⟩
      have hv := hv.2 g68
      rw [decide_eq_false g68]
      refine Jb 11 <| W.ret <| ⟨_, rfl, Fin.nil ?_⟩
      exact (hS.pick [] rfl).fin rfl ⟨false, rfl, rfl, hv⟩
     have hv := hv.2 g67
     rw [decide_eq_false g67]
     refine Jb 16 <| W.ret <| ⟨_, rfl, Fin.nil ?_⟩
     exact (hS.pick [] rfl).fin rfl ⟨false, rfl, rfl, hv⟩
    have hv := hv.2 g66
    rw [decide_eq_false g66]
    refine Jb 21 <| W.ret <| ⟨_, rfl, Fin.nil ?_⟩
    exact (hS.pick [] rfl).fin rfl ⟨false, rfl, rfl, hv⟩
   have hv := hv.2 g65
   rw [decide_eq_false g65]
   refine Jb 25 <| W.ret <| ⟨_, rfl, Fin.nil ?_⟩
   exact (hS.pick [] rfl).fin rfl ⟨false, rfl, rfl, hv⟩
  have hv := hv.2 g12
  rw [decide_eq_false g12]
  refine Jb 6 <| QF rfl <| Jh <| Je 4 <| SL.call hS (QJ (hS.ro hl) hv) Jbj rfl XN24 rfl rfl ?_
  rintro _ _ w70 ⟨r71, r72, r73, r74, r75, r76, r77, rfl, rfl, hv⟩ hGw70 hS
  have hS := hS.n0
  refine Jb 4 <| SL.alloc (cs := [nI 0, nI 0, nI 0, nI 0, nI 0]) hS Jk rfl rfl ?_
  intro g78 w79 hS
  refine JG rfl rfl <| JC (cs := [nI r72, nI r73, nI r74, nI r75, nI r76]) 0 hS rfl Jk rfl rfl rfl rfl rfl ?_
  intro w80 hS
  refine Jb 2 <| Je 4 <| SL.call hS (QI (hS.ro hl) hv) Jbi rfl XN25 rfl rfl ?_
  rintro _ _ w81 ⟨r82, r83, r84, r85, r86, r87, r88, rfl, rfl, hv⟩ hGw81 hS
  have hS := hS.n0
  refine Jb 4 <| SL.alloc (cs := [nI 0, nI 0, nI 0, nI 0, nI 0]) hS Jk rfl rfl ?_
  intro g89 w90 hS
  refine JG rfl rfl <| JC (cs := [nI r83, nI r84, nI r85, nI r86, nI r87]) 0 hS rfl Jk rfl rfl rfl rfl rfl ?_
  intro w91 hS
  refine Jb 2 <| Je 5 <| Jd rfl rfl ?_
  by_cases g92 : n < 1
  .have hv := hv.1 g92
   rw [decide_eq_true g92]
   refine Jb 4 <| Jq rfl <| Je 4 <| Jd rfl rfl ?_
   by_cases g93 : r77 = 4
   .have hv := hv.1 g93
    rw [decide_eq_true g93]
    refine Jb 5 <| Jd rfl rfl ?_
    by_cases g94 : r88 = 4
    .have hv := hv.1 g94
     rw [decide_eq_true g94]
     refine Jb 5 <| Jd rfl rfl ?_
     by_cases g95 : r71 = 0
     .have hv := hv.1 g95
      rw [decide_eq_true g95]
      refine Jb 5 <| Jd rfl rfl ?_
      by_cases g96 : r82 = 0
      .have hv := hv.1 g96
       rw [decide_eq_true g96]
       refine WL.take rfl <| Jr 1 Jk JA hS rfl ⟨rfl, rfl⟩ rfl <| WL.take rfl <| JE (cells := #[nI 0, nI 0, nI 0, nI 0, nI 0]) QW rfl rfl rfl <| WL.take rfl <| JW QH rfl rfl rfl <| WL.pick rfl rfl rfl <| Jd rfl rfl ?_
       by_cases g97 : r72 = 0 /\ r73 = 0 /\ r74 = 0 /\ r75 = 0 /\ r76 = 0
       .have hv := hv.1 g97
        rw [decide_eq_true g97]
        refine WL.take rfl <| Jr 0 Jk JA hS rfl ⟨rfl, rfl⟩ rfl <| WL.take rfl <| JE (cells := #[nI 0, nI 0, nI 0, nI 0, nI 0]) QW rfl rfl rfl <| WL.take rfl <| JW QH rfl rfl rfl <| Jb 3 <| W.ret <| ⟨_, rfl, Fin.nil ?_⟩
        exact (hS.pick [] rfl).fin rfl ⟨(decide (r83 = 0 /\ r84 = 0 /\ r85 = 0 /\ r86 = 0 /\ r87 = 0)), rfl, rfl, hv⟩
       have hv := hv.2 g97
       rw [decide_eq_false g97]
       refine Jb 6 <| W.ret <| ⟨_, rfl, Fin.nil ?_⟩
       exact (hS.pick [] rfl).fin rfl ⟨false, rfl, rfl, hv⟩
      have hv := hv.2 g96
      rw [decide_eq_false g96]
      refine Jb 11 <| W.ret <| ⟨_, rfl, Fin.nil ?_⟩
      exact (hS.pick [] rfl).fin rfl ⟨false, rfl, rfl, hv⟩
     have hv := hv.2 g95
     rw [decide_eq_false g95]
     refine Jb 15 <| W.ret <| ⟨_, rfl, Fin.nil ?_⟩
     exact (hS.pick [] rfl).fin rfl ⟨false, rfl, rfl, hv⟩
    have hv := hv.2 g94
    rw [decide_eq_false g94]
    refine Jb 19 <| W.ret <| ⟨_, rfl, Fin.nil ?_⟩
    exact (hS.pick [] rfl).fin rfl ⟨false, rfl, rfl, hv⟩
   have hv := hv.2 g93
   rw [decide_eq_false g93]
   refine Jb 23 <| W.ret <| ⟨_, rfl, Fin.nil ?_⟩
   exact (hS.pick [] rfl).fin rfl ⟨false, rfl, rfl, hv⟩
  have hv := hv.2 g92
  rw [decide_eq_false g92]
  refine Jb 6 <| Jg rfl (fun c98 => ?_) (fun c98 => ?_)
  .have hv := hv.1 (oT c98)
   refine Je 4 <| Jd rfl rfl ?_
   by_cases g99 : r77 = 4
   .have hv := hv.1 g99
    rw [decide_eq_true g99]
    refine Jb 5 <| Jd rfl rfl ?_
    by_cases g100 : r88 = 4
    .have hv := hv.1 g100
     rw [decide_eq_true g100]
     refine Jb 5 <| Jd rfl rfl ?_
     by_cases g101 : r71 = 0
     .have hv := hv.1 g101
      rw [decide_eq_true g101]
      refine Jb 5 <| Jd rfl rfl ?_
      by_cases g102 : r82 = 0
      .have hv := hv.1 g102
       rw [decide_eq_true g102]
       refine WL.take rfl <| Jr 1 Jk JA hS rfl ⟨rfl, rfl⟩ rfl <| WL.take rfl <| JE (cells := #[nI 0, nI 0, nI 0, nI 0, nI 0]) QW rfl rfl rfl <| WL.take rfl <| JW QH rfl rfl rfl <| WL.pick rfl rfl rfl <| Jd rfl rfl ?_
       by_cases g103 : r72 = 0 /\ r73 = 0 /\ r74 = 0 /\ r75 = 0 /\ r76 = 0
       .have hv := hv.1 g103
        rw [decide_eq_true g103]
        refine WL.take rfl <| Jr 0 Jk JA hS rfl ⟨rfl, rfl⟩ rfl <| WL.take rfl <| JE (cells := #[nI 0, nI 0, nI 0, nI 0, nI 0]) QW rfl rfl rfl <| WL.take rfl <| JW QH rfl rfl rfl <| Jb 3 <| W.ret <| ⟨_, rfl, Fin.nil ?_⟩
        exact (hS.pick [] rfl).fin rfl ⟨(decide (r83 = 0 /\ r84 = 0 /\ r85 = 0 /\ r86 = 0 /\ r87 = 0)), rfl, rfl, hv⟩
       have hv := hv.2 g103
       rw [decide_eq_false g103]
       refine Jb 6 <| W.ret <| ⟨_, rfl, Fin.nil ?_⟩
       exact (hS.pick [] rfl).fin rfl ⟨false, rfl, rfl, hv⟩
      have hv := hv.2 g102
      rw [decide_eq_false g102]
      refine Jb 11 <| W.ret <| ⟨_, rfl, Fin.nil ?_⟩
      exact (hS.pick [] rfl).fin rfl ⟨false, rfl, rfl, hv⟩
     have hv := hv.2 g101
     rw [decide_eq_false g101]
     refine Jb 15 <| W.ret <| ⟨_, rfl, Fin.nil ?_⟩
     exact (hS.pick [] rfl).fin rfl ⟨false, rfl, rfl, hv⟩
    have hv := hv.2 g100
    rw [decide_eq_false g100]
    refine Jb 19 <| W.ret <| ⟨_, rfl, Fin.nil ?_⟩
    exact (hS.pick [] rfl).fin rfl ⟨false, rfl, rfl, hv⟩
   have hv := hv.2 g99
   rw [decide_eq_false g99]
   refine Jb 23 <| W.ret <| ⟨_, rfl, Fin.nil ?_⟩
   exact (hS.pick [] rfl).fin rfl ⟨false, rfl, rfl, hv⟩
  have hv := hv.2 (oF c98)
  refine Jh <| Je 5 <| Jd rfl rfl ?_
  by_cases g104 : r77 ≠ 0
  .have hv := hv.1 g104
   rw [decide_eq_true g104]
   refine Jb 19 <| Jq rfl <| Je 4 <| W.ret <| ⟨_, rfl, Fin.nil ?_⟩
   exact (hS.pick [] rfl).fin rfl ⟨false, rfl, rfl, hv⟩
  have hv := hv.2 g104
  rw [decide_eq_false g104]
  refine Jb 5 <| Jd rfl rfl ?_
  by_cases g105 : r88 ≠ 0
  .have hv := hv.1 g105
   rw [decide_eq_true g105]
   refine Jb 15 <| Jq rfl <| Je 4 <| W.ret <| ⟨_, rfl, Fin.nil ?_⟩
   exact (hS.pick [] rfl).fin rfl ⟨false, rfl, rfl, hv⟩
  have hv := hv.2 g105
  rw [decide_eq_false g105]
  refine Jb 7 <| SL.call hS (Yz (hS.ro hl) hv) XF26 rfl XN26 rfl rfl ?_
  rintro _ _ w106 ⟨r107, rfl, rfl, hv⟩ hGw106 hS
  have hS := hS.n0
  refine Jb 3 <| Jd rfl rfl ?_
  by_cases g108 : r71 ≠ r107
  .have hv := hv.1 g108
   rw [decide_eq_true g108]
   refine Jb 8 <| Jq rfl <| Je 4 <| W.ret <| ⟨_, rfl, Fin.nil ?_⟩
   exact (hS.pick [] rfl).fin rfl ⟨false, rfl, rfl, hv⟩
  have hv := hv.2 g108
  rw [decide_eq_false g108]
  refine Jb 9 <| SL.call hS (Yz (hS.ro hl) hv) XF26 rfl XN26 rfl rfl ?_
  rintro _ _ w109 ⟨r110, rfl, rfl, hv⟩ hGw109 hS
  have hS := hS.n0
  refine Jb 4 <| Jg rfl (fun c111 => ?_) (fun c111 => ?_)
  .have hv := hv.1 (oT c111)
   refine Je 4 <| W.ret <| ⟨_, rfl, Fin.nil ?_⟩
   exact (hS.pick [] rfl).fin rfl ⟨false, rfl, rfl, hv⟩
  have hv := hv.2 (oF c111)
  refine Jh <| Je 6 <| Jg rfl (fun c112 => ?_) (fun c112 => ?_)
  .have hv := hv.1 (oT c112)
   refine Je 2 <| Jr 1 Jk JA hS rfl ⟨rfl, rfl⟩ rfl <| JE (cells := #[nI 0, nI 0, nI 0, nI 0, nI 0]) QW rfl rfl rfl <| JW QH rfl rfl rfl <| Jd rfl rfl ?_
   by_cases g113 : r72 = 0 /\ r73 = 0 /\ r74 = 0 /\ r75 = 0 /\ r76 = 0
   .have hv := hv.1 g113
    rw [decide_eq_true g113]
    refine WL.take rfl <| Jr 0 Jk JA hS rfl ⟨rfl, rfl⟩ rfl <| WL.take rfl <| JE (cells := #[nI 0, nI 0, nI 0, nI 0, nI 0]) QW rfl rfl rfl <| WL.take rfl <| JW QH rfl rfl rfl <| WL.pick rfl rfl rfl <| Jd rfl rfl ?_
    by_cases g114 : r83 = 0 /\ r84 = 0 /\ r85 = 0 /\ r86 = 0 /\ r87 = 0
    .have hv := hv.1 g114
     rw [decide_eq_true g114]
     refine Jb 7 <| W.ret <| ⟨_, rfl, Fin.nil ?_⟩
     exact (hS.pick [] rfl).fin rfl ⟨(decide (r82 = 1)), rfl, rfl, hv⟩
    have hv := hv.2 g114
    rw [decide_eq_false g114]
    refine Jb 5 <| W.ret <| ⟨_, rfl, Fin.nil ?_⟩
    exact (hS.pick [] rfl).fin rfl ⟨false, rfl, rfl, hv⟩
   have hv := hv.2 g113
   rw [decide_eq_false g113]
   refine Jb 10 <| W.ret <| ⟨_, rfl, Fin.nil ?_⟩
   exact (hS.pick [] rfl).fin rfl ⟨false, rfl, rfl, hv⟩
  have hv := hv.2 (oF c112)
  refine Jh <| Je 4 <| Jr 1 Jk JA hS rfl ⟨rfl, rfl⟩ rfl <| SL.call hS (Qy (hS.ro hl) hv) XF23 rfl XN23 rfl rfl ?_
  rintro _ _ w115 ⟨r116, r117, rfl, rfl, hv⟩ hGw115 hS
  have hS := hS.n0
  refine Jb 6 <| Je 4 <| Jr 0 Jk JA hS rfl ⟨rfl, rfl⟩ rfl <| SL.call hS (Qy (hS.ro hl) hv) XF23 rfl XN23 rfl rfl ?_
  rintro _ _ w118 ⟨r119, r120, rfl, rfl, hv⟩ hGw118 hS
  have hS := hS.n0
  refine Jb 6 <| Je 4 <| Jd rfl rfl ?_
  by_cases g121 : r117 = 0
  .have hv := hv.1 g121
   rw [decide_eq_true g121]
   refine Jb 5 <| Jd rfl rfl ?_
   by_cases g122 : r120 = 0
   .have hv := hv.1 g122
    rw [decide_eq_true g122]
    refine Jb 7 <| Jd rfl rfl ?_
    by_cases g123 : r116 = r71
    .have hv := hv.1 g123
     rw [decide_eq_true g123]
     refine Jb 7 <| Jd rfl rfl ?_
     by_cases g124 : r119 = r82
     .have hv := hv.1 g124
      rw [decide_eq_true g124]
      refine WL.take rfl <| Jc (off := 3) QC rfl rfl <| WL.take rfl <| Jo 1 3 XU3 hS rfl rfl rfl ⟨rfl, rfl⟩ <| Jb 3 <| Jd rfl rfl ?_
      by_cases g125 : r75 = 0
      .have hv := hv.1 g125
       rw [decide_eq_true g125]
       refine WL.take rfl <| Jc (off := 4) JM rfl rfl <| WL.take rfl <| Jo 1 4 XU3 hS rfl rfl rfl ⟨rfl, rfl⟩ <| Jb 5 <| W.ret <| ⟨_, rfl, Fin.nil ?_⟩
       exact (hS.pick [] rfl).fin rfl ⟨(decide (r76 = 0)), rfl, rfl, hv⟩
      have hv := hv.2 g125
      rw [decide_eq_false g125]
      refine Jb 6 <| W.ret <| ⟨_, rfl, Fin.nil ?_⟩
      exact (hS.pick [] rfl).fin rfl ⟨false, rfl, rfl, hv⟩
     have hv := hv.2 g124
     rw [decide_eq_false g124]
     refine Jb 11 <| W.ret <| ⟨_, rfl, Fin.nil ?_⟩
     exact (hS.pick [] rfl).fin rfl ⟨false, rfl, rfl, hv⟩
    have hv := hv.2 g123
    rw [decide_eq_false g123]
    refine Jb 16 <| W.ret <| ⟨_, rfl, Fin.nil ?_⟩
    exact (hS.pick [] rfl).fin rfl ⟨false, rfl, rfl, hv⟩
   have hv := hv.2 g122
   rw [decide_eq_false g122]
   refine Jb 21 <| W.ret <| ⟨_, rfl, Fin.nil ?_⟩
   exact (hS.pick [] rfl).fin rfl ⟨false, rfl, rfl, hv⟩
  have hv := hv.2 g121
  rw [decide_eq_false g121]
  refine Jb 25 <| W.ret <| ⟨_, rfl, Fin.nil ?_⟩
  exact (hS.pick [] rfl).fin rfl ⟨false, rfl, rfl, hv⟩
end Go.Proofs.Ytppkigdakobebaa
namespace Go.Proofs.Ytppkigdakobebaa
theorem isB.uniq {n : Int} {P : Int -> Prop} {b b' : Int} (h : isB n P b) (h' : isB n P b') : b = b' := by
  have g : ∀ t : Int, Int.gcd (1 * t) n = Int.gcd t n := fun t => by rw [Int.one_mul]
  have h1 : Int.gcd 1 n = 1 := by rw [Int.one_gcd]
  have := h.le h' h1 (fun a p => by rw [Int.one_mul]; exact p) (fun t e => by rw [g]; exact e)
  have := h'.le h h1 (fun a p => by rw [Int.one_mul]; exact p) (fun t e => by rw [g]; exact e)
  omega
theorem isT.uniq {n : Int} {P : Int -> Prop} {b b' : Int} (h : isT n P b) (h' : isT n P b') : b = b' := by
  have g : ∀ t : Int, Int.gcd (1 * t) n = Int.gcd t n := fun t => by rw [Int.one_mul]
  have := h.le h' (k := 1) (fun a p => by rw [Int.one_mul]; exact p) g
  have := h'.le h (k := 1) (fun a p => by rw [Int.one_mul]; exact p) g
  omega
end Go.Proofs.Ytppkigdakobebaa
set_option linter.unusedVariables false
set_option linter.unusedSimpArgs false
namespace Go.Proofs.Ytppkigdakobebaa
/-! ### runs inside a list of zeros; Check -/
theorem mulb {i r : Int} (h0 : 0 <= i) (h1 : i <= 64) (h2 : -2147483648 <= r) (h3 : r <= 2147483648) : -137438953472 <= i * r /\ i * r <= 137438953472 := by
  have a := Int.mul_le_mul_of_nonneg_left h3 h0
  have b := Int.mul_le_mul_of_nonneg_left h2 h0
  omega
def AllP (P : Int -> Prop) (s t c x m : Int) : Prop := ∀ i j : Int, 0 <= i -> i < c -> 0 <= j -> j <= m -> P (s + i * t + j * x)
theorem ZV {x : Int} {Q : Bool -> Prop} (h1 : Near x -> Q true) (h0 : ¬ Near x -> Q false) : Yo x Q := by
  refine ⟨fun a => ?_, fun a => h0 fun c => a c.1⟩
  by_cases b : x <= 2147483648
  . rw [decide_eq_true b]; exact h1 ⟨a, b⟩
  . rw [decide_eq_false b]; exact h0 fun c => b c.2
theorem Jcv {n : Int} {P : Int -> Prop} {r0 r1 r2 r3 r4 : Int} (h : ZS n r0 r1 r2 r3 r4) : Val n P r0 r1 r2 r3 r4 ↔ Int.gcd r1 n = 1 /\ (0 < r4 -> (Int.gcd r3 n : Int) <= r2) /\ AllP P r0 r1 r2 r3 r4 :=
  ⟨fun v => ⟨v.2.2.2.2.1, v.2.2.2.2.2.1, v.2.2.2.2.2.2⟩, fun v => ⟨h.2.2.2.1, h.2.2.2.2.1, h.2.2.2.2.2.1, h.2.2.2.2.2.2, v.1, v.2.1, v.2.2⟩⟩
theorem YF {n : Int} {l : List Int} {Q : List Int -> Prop} (hn : 0 < n) (h64 : n <= 1000000) (hl : l.length <= 100000) (h : ∀ x : List Int, x.length <= 1000000 -> (∀ y : Int, y % n ∈ x ↔ PZ n l y) -> Q x) : JT n l Q := by
  refine ⟨fun x z => 0 <= z /\ z <= (l.length : Nat) /\ (x.length : Int) = z /\ ∀ i : Int, 0 <= i -> i < z -> gi x i = gi l i % n, fun _ z => ((l.length : Nat) - z : Int).toNat, ⟨by omega, by omega, rfl, fun i _ _ => by omega⟩, ?_⟩
  rintro x z ⟨h0, h1, hx, hk⟩
  refine ⟨fun hlt => ⟨⟨h0, hlt⟩, Yi hn h64 ⟨by omega, JD (by omega) (by omega), ⟨by omega, by omega, by rw [List.length_append]; simp; omega, fun i a b => ?_⟩, by show ((l.length : Nat) - (z + 1) : Int).toNat < ((l.length : Nat) - z : Int).toNat; omega⟩⟩, fun hge => h x (by omega) fun y => ?_⟩
  . by_cases e : i = z
    . subst e
      rw [<- hx, YA]
    . rw [Zm a (by omega)]; exact hk i a (by omega)
  . have : z = (l.length : Nat) := by omega
    subst this
    rw [Qh]
    constructor
    . rintro ⟨j, a, b, e⟩
      rw [hk j a (by omega)] at e
      exact ⟨gi l j, Qh.2 ⟨j, a, by omega, rfl⟩, e⟩
    . rintro ⟨u, hu, e⟩
      obtain ⟨j, a, b, rfl⟩ := Qh.1 hu
      exact ⟨j, a, by omega, by rw [hk j a b]; exact e⟩
theorem Jbo {l : List Int} {x : Int} {Q : Bool -> Prop} (hl : l.length <= 1000000) (h1 : x ∈ l -> Q true) (h0 : x ∉ l -> Q false) : Yh l x Q := by
  refine ⟨fun z => 0 <= z /\ ∀ i : Int, 0 <= i -> i < z -> i < (l.length : Nat) -> gi l i ≠ x, fun z => ((l.length : Nat) - z : Int).toNat, ⟨by omega, fun i _ _ => by omega⟩, ?_⟩
  rintro z ⟨g0, hk⟩
  refine ⟨fun hlt => ⟨⟨g0, hlt⟩, fun e => h1 (Qh.2 ⟨z, g0, hlt, e⟩), fun e => ⟨JD (by omega) (by omega), ⟨by omega, fun i a b c => ?_⟩, by show ((l.length : Nat) - (z + 1) : Int).toNat < ((l.length : Nat) - z : Int).toNat; omega⟩⟩, fun hge => h0 fun hm => ?_⟩
  . by_cases ei : i = z
    . subst ei; exact e
    . exact hk i a (by omega) c
  . obtain ⟨j, a, b, e⟩ := Qh.1 hm
    exact hk j a (by omega) b e
theorem Zg {n r0 r1 r2 r3 r4 : Int} {Q : Int -> Prop} (h4 : ¬ (1 <= n /\ n <= 64) -> Q 4) (h6 : 1 <= n -> n <= 64 -> ¬ ZS n r0 r1 r2 r3 r4 -> Q 6) (h0 : 1 <= n -> n <= 64 -> ZS n r0 r1 r2 r3 r4 -> Q 0) : Qf n r0 r1 r2 r3 r4 Q := by
  refine ⟨fun c => h4 (by omega), fun c1 => ⟨fun c => h4 (by omega), fun c2 => ?_⟩⟩
  have n1 : 1 <= n := by omega
  have n64 : n <= 64 := by omega
  refine ZV (fun N0 => nT (ZV (fun N1 => nT (ZV (fun N3 => nT ?_) fun c => nF (h6 n1 n64 fun a => c a.2.2.1))) fun c => nF (h6 n1 n64 fun a => c a.2.1))) fun c => nF (h6 n1 n64 fun a => c a.1)
  exact ⟨fun c => h6 n1 n64 fun a => by have := a.2.2.2.1; omega, fun c2 => ⟨fun c => h6 n1 n64 fun a => by have := a.2.2.2.2.1; omega, fun c3 => ⟨fun c => h6 n1 n64 fun a => by have := a.2.2.2.2.2.1; omega, fun c4 => ⟨fun c => h6 n1 n64 fun a => by have := a.2.2.2.2.2.2; omega, fun c5 => h0 n1 n64 ⟨N0, N1, N3, by omega, by omega, by omega, by omega⟩⟩⟩⟩⟩
theorem rloop {n : Int} {z : List Int} {r0 r1 r2 r3 r4 : Int} {Q : Int × Int -> Prop} (hz : z.length <= 1000) (n1 : 1 <= n) (n64 : n <= 64) (ha : ZS n r0 r1 r2 r3 r4)
    (h13 : ¬ AllP (PZ n z) r0 r1 r2 r3 r4 -> Q (0, 13)) (h0 : AllP (PZ n z) r0 r1 r2 r3 r4 -> Q (r2 + 1 + r4, 0)) : JT n z (fun x118 => ∃ (I125 : Int -> Prop) (μ126 : Int -> Nat), I125 (0 : Int) /\ ∀ (z124 : Int), (I125 z124 -> (((z124 < r2) -> (∃ (I132 : Int -> Prop) (μ133 : Int -> Nat), I132 (0 : Int) /\ ∀ (z131 : Int), (I132 z131 -> (((z131 <= r4) -> ((I64 (z124 * r1)) /\ ((I64 (r0 + (z124 * r1))) /\ ((I64 (z131 * r3)) /\ ((I64 ((r0 + (z124 * r1)) + (z131 * r3))) /\ (JN ((r0 + (z124 * r1)) + (z131 * r3)) n (fun r141 => Yh x118 r141 (fun r143 => (((!r143) = true) -> (Q ((0 : Int), (13 : Int)))) /\ ((!r143) = false -> ((I64 (z131 + (1 : Int))) /\ (I132 (z131 + (1 : Int)) /\ μ133 (z131 + (1 : Int)) < μ133 z131))))))))))) /\ (¬ (z131 <= r4) -> ((I64 (z124 + (1 : Int))) /\ (I125 (z124 + (1 : Int)) /\ μ126 (z124 + (1 : Int)) < μ126 z124))))))) /\ (¬ (z124 < r2) -> ((I64 (r2 + (1 : Int))) /\ ((I64 ((r2 + (1 : Int)) + r4)) /\ (Q (((r2 + (1 : Int)) + r4), (0 : Int))))))))) := by
  obtain ⟨N0, N1, N3, A1, A2, A3, A4⟩ := ha
  refine YF (by omega) (by omega) (by omega) fun x hxl hx => ?_
  refine ⟨fun i => 0 <= i /\ i <= r2 /\ ∀ k j : Int, 0 <= k -> k < i -> 0 <= j -> j <= r4 -> PZ n z (r0 + k * r1 + j * r3), fun i => (r2 - i).toNat, ⟨by omega, by omega, fun k j _ _ => by omega⟩, ?_⟩
  rintro i ⟨g0, g1, hi⟩
  refine ⟨fun hlt => ?_, fun hge => ⟨JD (by omega) (by omega), JD (by omega) (by omega), h0 fun k j a b c d => hi k j a (by omega) c d⟩⟩
  refine ⟨fun j => 0 <= j /\ j <= r4 + 1 /\ ∀ k : Int, 0 <= k -> k < j -> PZ n z (r0 + i * r1 + k * r3), fun j => (r4 + 1 - j).toNat, ⟨by omega, by omega, fun k _ _ => by omega⟩, ?_⟩
  rintro j ⟨f0, f1, hj⟩
  refine ⟨fun hlt2 => ?_, fun hge2 => ⟨JD (by omega) (by omega), ⟨by omega, by omega, fun k j' a b c d => ?_⟩, by show (r2 - (i + 1)).toNat < (r2 - i).toNat; omega⟩⟩
  . have q1 := N0.1; have q2 := N0.2
    have m1 := mulb (i := i) g0 (by omega) N1.1 N1.2
    have m2 := mulb (i := j) f0 (by omega) N3.1 N3.2
    refine ⟨JD (by omega) (by omega), JD (by omega) (by omega), JD (by omega) (by omega), JD (by omega) (by omega), Yi (by omega) (by omega) (Jbo hxl (fun hm => nT ⟨JD (by omega) (by omega), ⟨by omega, by omega, fun k a b => ?_⟩, by show (r4 + 1 - (j + 1)).toNat < (r4 + 1 - j).toNat; omega⟩) fun hm => nF (h13 fun hall => hm ((hx _).2 (hall i j g0 hlt f0 (by omega)))))⟩
    by_cases ek : k = j
    . subst ek; exact (hx _).1 hm
    . exact hj k a (by omega)
  . by_cases ek : k = i
    . subst ek; exact hj j' c (by omega)
    . exact hi k j' a (by omega) c d
theorem Y2 {n : Int} {z : List Int} {r0 r1 r2 r3 r4 : Int} {Q : Int × Int -> Prop} (hz : z.length <= 1000) (h4 : ¬ (1 <= n /\ n <= 64) -> Q (0, 4)) (h6 : 1 <= n -> n <= 64 -> ¬ ZS n r0 r1 r2 r3 r4 -> Q (0, 6))
    (h13 : 1 <= n -> n <= 64 -> ZS n r0 r1 r2 r3 r4 -> ¬ Val n (PZ n z) r0 r1 r2 r3 r4 -> Q (0, 13)) (h0 : 1 <= n -> n <= 64 -> ZS n r0 r1 r2 r3 r4 -> Val n (PZ n z) r0 r1 r2 r3 r4 -> Q (r2 + 1 + r4, 0)) : J5 n z r0 r1 r2 r3 r4 Q := by
  refine Zg (fun c => ⟨fun _ => h4 c, fun e => absurd (by decide) e⟩) (fun a b c => ⟨fun _ => h6 a b c, fun e => absurd (by decide) e⟩) fun n1 n64 ha => ⟨fun e => absurd rfl e, fun _ => ?_⟩
  have hv := Jcv (P := PZ n z) ha
  have hn : 0 < n := by omega
  have gg : ∀ x : Int, ∃ r : Int, JN x n (fun q => q = r) /\ ∃ g : Int, JV r n (fun q => q = g) /\ r = x % n /\ g = ((Int.gcd x n : Nat) : Int) := fun x =>
    ⟨x % n, Yi hn (by omega) rfl, _, Zf (Qm hn).1 (by omega) (by rw [QB (show x % n % n = x % n from Int.emod_emod _ _)]), rfl, rfl⟩
  obtain ⟨a, ea, b, eb, _, hb⟩ := gg r1
  obtain ⟨c, ec, d, ed, _, hd⟩ := gg r3
  by_cases g1 : Int.gcd r1 n = 1
  case neg => exact .inl ⟨a, ea, b, eb, by omega, h13 n1 n64 ha fun v => g1 (hv.1 v).1⟩
  by_cases g3 : 0 < r4 -> (Int.gcd r3 n : Int) <= r2
  case neg =>
    have hr4 : 0 < r4 := Classical.byContradiction fun c => g3 fun d => absurd d c
    have hlt : r2 < (Int.gcd r3 n : Int) := by
      rcases Int.lt_or_le r2 (Int.gcd r3 n : Int) with q | q
      . exact q
      . exact absurd (fun _ => q) g3
    exact .inr (.inl ⟨fun _ => ⟨a, ea, b, eb, by omega, c, ec, d, ed, by omega, h13 n1 n64 ha fun v => g3 (hv.1 v).2.1⟩, fun c => absurd hr4 c⟩)
  have L := rloop (Q := Q) hz n1 n64 ha (fun hn => h13 n1 n64 ha fun v => hn (hv.1 v).2.2) (fun hall => h0 n1 n64 ha (hv.2 ⟨g1, g3, hall⟩))
  exact .inr (.inr ⟨fun hr4 => ⟨a, ea, b, eb, by omega, c, ec, d, ed, by have := g3 hr4; omega, L⟩, fun _ => ⟨a, ea, b, eb, by omega, L⟩⟩)
end Go.Proofs.Ytppkigdakobebaa
set_option linter.unusedVariables false
set_option linter.unusedSimpArgs false
namespace Go.Proofs.Ytppkigdakobebaa
/-! ### the reference's search -/
theorem Jbp {n : Int} {P : Int -> Prop} {l : List Int} {aa x y : Int} {Q : Int -> Prop} (hn : 1 <= n) (h64 : n <= 64) (hl : l.length <= 1000000) (hx : ∀ y : Int, y % n ∈ l ↔ P y) (a0 : -1000000 <= aa) (a1 : aa <= 1000000) (x0 : 0 <= x) (x1 : x <= 64) (y0 : -1 <= y) (y1 : y <= 63 + 1)
    (h : ∀ z, -1 <= z -> z <= y -> (∀ k : Int, 0 <= k -> k <= z -> P (aa + k * x)) -> (z < y -> ¬ P (aa + (z + 1) * x)) -> Q z) : Qv n l aa x y Q := by
  refine ⟨fun z => -1 <= z /\ z <= y /\ (∀ k : Int, 0 <= k -> k <= z -> P (aa + k * x)) /\ (z < y -> ¬ P (aa + (z + 1) * x)), ?_, fun z hz => h z hz.1 hz.2.1 hz.2.2.1 hz.2.2.2⟩
  refine ⟨fun z => -1 <= z /\ z <= y /\ ∀ k : Int, 0 <= k -> k <= z -> P (aa + k * x), fun z => (y - z).toNat, ⟨by omega, by omega, fun k _ _ => by omega⟩, ?_⟩
  rintro z ⟨z0, z1, hz⟩
  refine ⟨fun hlt => ?_, fun hge => ⟨z0, z1, hz, fun c => absurd c hge⟩⟩
  have hm := Jau (i := z + 1) (y := x) (by omega) (by omega) x0 x1
  refine ⟨JD (by omega) (by omega), JD (by omega) (by omega), JD (by omega) (by omega), Yi (by omega) (by omega) (Jbo hl (fun hp => ⟨fun _ => ⟨JD (by omega) (by omega), ⟨by omega, by omega, fun k a b => ?_⟩, by show (y - (z + 1)).toNat < (y - z).toNat; omega⟩, fun c => by cases c⟩) fun hp => ⟨(fun c => by cases c), fun _ => ⟨z0, z1, hz, fun _ c => hp ((hx _).2 c)⟩⟩)⟩
  by_cases e : k = z + 1
  . subst e; exact (hx _).1 hp
  . exact hz k a (by omega)
theorem Jbd {n : Int} {P : Int -> Prop} {xl : List Int} {st t x y b0 : Int} {bb : Bool} (J : Int -> Bool -> Prop) (hn : 1 <= n) (h64 : n <= 64) (hxl : xl.length <= 1000000) (hx : ∀ y : Int, y % n ∈ xl ↔ P y)
    (ht : Int.gcd t n = 1) (t0 : 0 <= t) (tn : t < n) (x0 : 0 <= x) (xn : x < n) (s0 : 0 <= st) (sn : st < n) (y0 : 0 <= y) (yn : y <= n) (hW : Wit n P y b0)
    (hJ : ∀ b, Wit n P y b -> b0 <= b -> (∀ c m, m <= y -> Val n P st t c x m -> c + 1 + m <= b) -> J b bb) : (∃ (I100 : Int -> Int -> Int -> Prop) (μ101 : Int -> Int -> Int -> Nat), I100 b0 y (1 : Int) /\ ∀ (z97 : Int) (z98 : Int) (z99 : Int), (I100 z97 z98 z99 -> (((z99 <= n) -> (∃ J108 : Int -> Int -> Bool -> Bool -> Prop, ((I64 (z99 - (1 : Int))) /\ ((I64 ((z99 - (1 : Int)) * t)) /\ ((I64 (st + ((z99 - (1 : Int)) * t))) /\ (Qv n xl (st + ((z99 - (1 : Int)) * t)) x z98 (fun r113 => (((min z98 r113) < (0 : Int)) -> J z97 bb) /\ (¬ ((min z98 r113) < (0 : Int)) -> ((I64 (z99 + (1 : Int))) /\ (JV x n (fun r117 => ((r117 <= z99) -> ((I64 (z99 + (1 : Int))) /\ ((I64 ((z99 + (1 : Int)) + (min z98 r113))) /\ (J108 (max (max z97 (z99 + (1 : Int))) ((z99 + (1 : Int)) + (min z98 r113))) (min z98 r113) (decide ((min z98 r113) < (0 : Int))) (decide (r117 <= z99)))))) /\ (¬ (r117 <= z99) -> (J108 (max z97 (z99 + (1 : Int))) (min z98 r113) (decide ((min z98 r113) < (0 : Int))) (decide (r117 <= z99))))))))))))) /\ ∀ (z104 : Int) (z105 : Int) (b106 : Bool) (b107 : Bool), (J108 z104 z105 b106 b107 -> ((I64 (z99 + (1 : Int))) /\ (I100 z104 z105 (z99 + (1 : Int)) /\ μ101 z104 z105 (z99 + (1 : Int)) < μ101 z97 z98 z99))))) /\ (¬ (z99 <= n) -> J z97 bb)))) := by
  refine ⟨fun b rows k => 1 <= k /\ k <= n + 1 /\ 0 <= rows /\ rows <= y /\ Wit n P y b /\ b0 <= b /\ (∀ i j : Int, 0 <= i -> i < k - 1 -> 0 <= j -> j <= rows -> P (st + i * t + j * x)) /\ (∀ m, m <= y -> (∀ i j : Int, 0 <= i -> i < k - 1 -> 0 <= j -> j <= m -> P (st + i * t + j * x)) -> m <= rows) /\ ∀ c m, c < k -> m <= y -> Val n P st t c x m -> c + 1 + m <= b, fun _ _ k => (n + 1 - k).toNat, ⟨by omega, by omega, y0, by omega, hW, by omega, fun i j _ _ => by omega, fun m a _ => a, fun c m a _ v => by have := v.1; omega⟩, ?_⟩
  rintro b rows k ⟨k1, kn, r0, ry, hB, hbb, hA, hU, hV⟩
  refine ⟨fun hk => ?_, fun hk => hJ b hB hbb fun c m a v => hV c m (by have := v.2.1; omega) a v⟩
  have hB1 := hB.1; have hB2 := hB.2.1
  have hm := Jau (i := k - 1) (y := t) (by omega) (by omega) t0 (by omega)
  refine ⟨fun b' rows' _ _ => 1 <= k + 1 /\ k + 1 <= n + 1 /\ 0 <= rows' /\ rows' <= y /\ Wit n P y b' /\ b0 <= b' /\ (∀ i j : Int, 0 <= i -> i < k + 1 - 1 -> 0 <= j -> j <= rows' -> P (st + i * t + j * x)) /\ (∀ m, m <= y -> (∀ i j : Int, 0 <= i -> i < k + 1 - 1 -> 0 <= j -> j <= m -> P (st + i * t + j * x)) -> m <= rows') /\ ∀ c m, c < k + 1 -> m <= y -> Val n P st t c x m -> c + 1 + m <= b', ⟨JD (by omega) (by omega), JD (by omega) (by omega), JD (by omega) (by omega), Jbp hn h64 hxl hx (by omega) (by omega) x0 (by omega) (by omega) (by omega) fun col c0 c1 hc hd => ⟨fun hneg => ?_, fun hpos => ⟨JD (by omega) (by omega), Zf x0 (by omega) ?_⟩⟩⟩, fun b' rows' _ _ h => ⟨JD (by omega) (by omega), h, by show (n + 1 - (k + 1)).toNat < (n + 1 - k).toNat; omega⟩⟩
  . have hcol : col = -1 := by omega
    subst hcol
    have hnp := hd (by omega)
    refine hJ b hB hbb fun c m a v => ?_
    rcases Int.lt_or_le c k with q | q
    . exact hV c m q a v
    . refine absurd ?_ hnp
      have := v.2.2.2.2.2.2 (k - 1) 0 (by omega) (by omega) (by omega) v.2.2.1
      rw [Int.zero_mul, Int.add_zero] at this
      rw [show (-1 : Int) + 1 = 0 by omega, Int.zero_mul, Int.add_zero]; exact this
  . have hcol : col <= rows := c1
    have hmin : min rows col = col := by omega
    rw [hmin]
    have hc0 : 0 <= col := by omega
    have hA' : ∀ i j : Int, 0 <= i -> i < k + 1 - 1 -> 0 <= j -> j <= col -> P (st + i * t + j * x) := fun i j a b c d => by
      by_cases e : i = k - 1
      . subst e; exact hc j c d
      . exact hA i j a (by omega) c (by omega)
    have hU' : ∀ m, m <= y -> (∀ i j : Int, 0 <= i -> i < k + 1 - 1 -> 0 <= j -> j <= m -> P (st + i * t + j * x)) -> m <= col := fun m a hall => by
      have h1 := hU m a fun i j p q r s => hall i j p (by omega) r s
      rcases Int.lt_or_le col m with q | q
      . exact absurd (hall (k - 1) (col + 1) (by omega) (by omega) (by omega) (by omega)) (hd (by omega))
      . exact q
    have v0 : Val n P st t k x 0 := ⟨k1, by omega, by omega, by omega, ht, fun c => absurd c (by omega), fun i j a b c d => hA' i j a (by omega) c (by omega)⟩
    have W0 : Wit n P y (max b (k + 1)) := by have := hB.max h64 v0 y0; rwa [Int.add_zero] at this
    have hV' : ∀ b', b <= b' -> k + 1 <= b' -> (((Int.gcd x n : Nat) : Int) <= k -> k + 1 + col <= b') -> ∀ c m, c < k + 1 -> m <= y -> Val n P st t c x m -> c + 1 + m <= b' := fun b' h1 h2 h3 c m a d v => by
      by_cases e : c = k
      . subst e
        have hm := hU' m d fun i j p q r s => v.2.2.2.2.2.2 i j p (by omega) r s
        by_cases em : m = 0
        . omega
        . have := h3 (v.2.2.2.2.2.1 (by have := v.2.2.1; omega)); omega
      . have := hV c m (by omega) d v; omega
    refine ⟨fun hg => ⟨JD (by omega) (by omega), JD (by omega) (by omega), by omega, by omega, hc0, by omega, ?_, by omega, hA', hU', hV' _ (by omega) (by omega) fun _ => by omega⟩, fun hg => ⟨by omega, by omega, hc0, by omega, W0, by omega, hA', hU', hV' _ (by omega) (by omega) fun c => absurd c hg⟩⟩
    have v1 : Val n P st t k x col := ⟨k1, by omega, hc0, by omega, ht, fun _ => hg, fun i j a b c d => hA' i j a (by omega) c d⟩
    exact W0.max h64 v1 (by omega)
theorem Jbq {n y : Int} {l : List Int} {Q : Int -> Prop} (hl : l.length <= 1000) (hn : 1 <= n) (h64 : n <= 64) (y0 : 0 <= y) (yn : y <= n) (h : ∀ b, isY n (PZ n l) y b -> Q b) : Q5 n l y Q := by
  refine YF (by omega) (by omega) (by omega) fun xl hxl hx => ?_
  have hP := Jad n l
  generalize hPP : PZ n l = P at *
  have W1 : Wit n P y 1 := ⟨by omega, by omega, .inl rfl⟩
  refine ⟨fun b st => 0 <= st /\ st <= n /\ Wit n P y b /\ ∀ s, 0 <= s -> s < st -> ∀ t c x m, m <= y -> (y = 0 -> x = 0) -> Val n P s t c x m -> c + 1 + m <= b, fun _ st => (n - st).toNat, ⟨by omega, by omega, W1, fun s a b => by omega⟩, ?_⟩
  rintro b st ⟨s0, s1, hB, hS⟩
  refine ⟨fun hst => ?_, fun hst => h b ⟨hB, fun s t c x m a d v => ?_⟩⟩
  . refine ⟨fun b t => 0 <= t /\ t <= n /\ Wit n P y b /\ (∀ s, 0 <= s -> s < st -> ∀ t c x m, m <= y -> (y = 0 -> x = 0) -> Val n P s t c x m -> c + 1 + m <= b) /\ ∀ t', 0 <= t' -> t' < t -> ∀ c x m, m <= y -> (y = 0 -> x = 0) -> Val n P st t' c x m -> c + 1 + m <= b, fun _ t => (n - t).toNat, ⟨by omega, by omega, hB, hS, fun t' a b => by omega⟩, ?_⟩
    rintro b t ⟨t0, t1, hB, hS, hT⟩
    refine ⟨fun htn => ?_, fun htn => ⟨JD (by omega) (by omega), ⟨by omega, by omega, hB, fun s a c t' c' x m d e v => ?_⟩, by show (n - (st + 1)).toNat < (n - st).toNat; omega⟩⟩
    . refine ⟨fun b x => 0 <= x /\ x <= n /\ Wit n P y b /\ (∀ s, 0 <= s -> s < st -> ∀ t c x m, m <= y -> (y = 0 -> x = 0) -> Val n P s t c x m -> c + 1 + m <= b) /\ (∀ t', 0 <= t' -> t' < t -> ∀ c x m, m <= y -> (y = 0 -> x = 0) -> Val n P st t' c x m -> c + 1 + m <= b) /\ ∀ x', 0 <= x' -> x' < x -> ∀ c m, m <= y -> (y = 0 -> x' = 0) -> Val n P st t c x' m -> c + 1 + m <= b, fun _ x => (n - x).toNat, ⟨by omega, by omega, hB, hS, hT, fun x' a b => by omega⟩, ?_⟩
      rintro b x ⟨x0, x1, hB, hS, hT, hX⟩
      refine ⟨fun hxn => ?_, fun hxn => ⟨JD (by omega) (by omega), ⟨by omega, by omega, hB, hS, fun t' a c c' x' m d e v => ?_⟩, by show (n - (t + 1)).toNat < (n - t).toNat; omega⟩⟩
      . refine ⟨fun b' _ => Wit n P y b' /\ b <= b' /\ ∀ c m, m <= y -> (y = 0 -> x = 0) -> Val n P st t c x m -> c + 1 + m <= b', ?_, ?_⟩
        . have skip : (∀ c m, m <= y -> (y = 0 -> x = 0) -> ¬ Val n P st t c x m) -> Wit n P y b /\ b <= b /\ ∀ c m, m <= y -> (y = 0 -> x = 0) -> Val n P st t c x m -> c + 1 + m <= b := fun hno => ⟨hB, Int.le_refl b, fun c m a d v => absurd v (hno c m a d)⟩
          refine Zf t0 (by omega) ⟨fun hg => skip fun c m _ _ v => hg (by have := v.2.2.2.2.1; omega), fun hg => ?_⟩
          have hg1 : Int.gcd t n = 1 := by omega
          refine Jbo hxl (fun hp => nT ?_) fun hp => nF (skip fun c m _ _ v => hp ?_)
          . have L : ∀ bb : Bool, _ := fun bb => Jbd (bb := bb) (fun b' _ => Wit n P y b' /\ b <= b' /\ ∀ c m, m <= y -> (y = 0 -> x = 0) -> Val n P st t c x m -> c + 1 + m <= b') hn h64 hxl hx hg1 t0 (by omega) x0 (by omega) s0 (by omega) y0 yn hB fun b' h1 h2 h3 => ⟨h1, h2, fun c m a _ v => h3 c m a v⟩
            exact ⟨fun hx0 => ⟨fun hy => skip fun c m _ d _ => by have := d hy; omega, fun hy => L true⟩, fun hx0 => L true⟩
          . have := v.2.2.2.2.2.2 0 0 (by omega) (by have := v.1; omega) (by omega) v.2.2.1
            rw [Int.zero_mul, Int.zero_mul, Int.add_zero, Int.add_zero] at this
            have h5 := (hx st).2 this
            rwa [Int.emod_eq_of_lt s0 (by omega)] at h5
        . rintro b' _ ⟨h1, h2, h3⟩
          exact ⟨JD (by omega) (by omega), ⟨by omega, by omega, h1, fun s a c t' c' x' m d e v => by have := hS s a c t' c' x' m d e v; omega, fun t' a c c' x' m d e v => by have := hT t' a c c' x' m d e v; omega, fun x' a c c' m d e v => by
            by_cases ex : x' = x
            . subst ex; exact h3 c' m d e v
            . have := hX x' a (by omega) c' m d e v; omega⟩, by show (n - (x + 1)).toNat < (n - x).toNat; omega⟩
      . by_cases et : t' = t
        . subst et
          have hy := Qm (x := x') (show 0 < n by omega)
          exact hX (x' % n) hy.1 (by omega) c' m d (fun e0 => by rw [e e0, Int.zero_emod]) (v.mod hP rfl rfl (Int.emod_emod _ _).symm)
        . exact hT t' a (by omega) c' x' m d e v
    . by_cases es : s = st
      . subst es
        have hy := Qm (x := t') (show 0 < n by omega)
        exact hT (t' % n) hy.1 (by omega) c' x m d e (v.mod hP rfl (Int.emod_emod _ _).symm rfl)
      . exact hS s a (by omega) t' c' x m d e v
  . have hy := Qm (x := s) (show 0 < n by omega)
    exact hS (s % n) hy.1 (by omega) t c x m a d (v.mod hP (Int.emod_emod _ _).symm rfl rfl)
end Go.Proofs.Ytppkigdakobebaa
set_option linter.unusedVariables false
set_option linter.unusedSimpArgs false
namespace Go.Proofs.Ytppkigdakobebaa
/-! ### the law of the greatest bounds -/
theorem Bst.one {n : Int} {P : Int -> Prop} {b r0 r1 r2 r3 r4 : Int} (h : Bst n P b r0 r1 r2 r3 r4) (h1 : b = 1) : r0 = 0 /\ r1 = 0 /\ r2 = 0 /\ r3 = 0 /\ r4 = 0 := by
  rcases h with h | ⟨v, e, _⟩
  . exact h.2
  . have := v.1; have := v.2.2.1; omega
theorem isB.one_ {n : Int} {P : Int -> Prop} {b d : Int} (h : isB n P b) (h' : isT n P d) (h1 : b = 1) : d = 1 := by
  rcases h'.2.2 with e | ⟨s, t, c, x, m, v, e⟩
  . exact e
  . have := h.2.1 s t c v.flat; have := v.1; omega
theorem ZT : (((4 : Int) = 4 -> (((4 : Int) = 4 -> (((0 : Int) = 0 -> (((0 : Int) = 0 -> (((0 : Int) = 0 /\ (0 : Int) = 0 /\ (0 : Int) = 0 /\ (0 : Int) = 0 /\ (0 : Int) = 0 -> decide ((0 : Int) = 0 /\ (0 : Int) = 0 /\ (0 : Int) = 0 /\ (0 : Int) = 0 /\ (0 : Int) = 0) = true) /\ (¬ ((0 : Int) = 0 /\ (0 : Int) = 0 /\ (0 : Int) = 0 /\ (0 : Int) = 0 /\ (0 : Int) = 0) -> false = true))) /\ (¬ ((0 : Int) = 0) -> false = true))) /\ (¬ ((0 : Int) = 0) -> false = true))) /\ (¬ ((4 : Int) = 4) -> false = true))) /\ (¬ ((4 : Int) = 4) -> false = true)) :=
  ⟨fun _ => ⟨fun _ => ⟨fun _ => ⟨fun _ => ⟨fun _ => by decide, fun c => absurd ⟨rfl, rfl, rfl, rfl, rfl⟩ c⟩, fun c => absurd rfl c⟩, fun c => absurd rfl c⟩, fun c => absurd rfl c⟩, fun c => absurd rfl c⟩
theorem YZ (n : Int) (l : List Int) : Yp n l (fun b => b = true) := by
  refine ⟨fun _ => rfl, fun hl => ?_⟩
  have hz : l.length <= 1000 := by omega
  refine ⟨fun h12 => ⟨fun _ => rfl, fun h64 => ?_⟩, fun h12 => ?_⟩
  . have hno : ¬ (1 <= n /\ n <= 64) := fun c => h64 c.2
    exact Q8 hz (fun _ => QS hz (fun _ => ⟨fun c => by omega, fun _ => ⟨fun _ => ZT, fun c => by omega⟩⟩) (fun _ _ _ _ _ _ a b => absurd ⟨a, b⟩ hno)) (fun _ _ _ _ a b => absurd ⟨a, b⟩ hno)
  . refine Q8 hz (fun hno => QS hz (fun _ => ⟨fun _ => ZT, fun c => ⟨fun _ => ZT, fun c2 => by omega⟩⟩) (fun _ _ _ _ _ _ a b => absurd ⟨a, b⟩ hno)) (fun b r0 r1 r2 n1 n64 hb hB => ?_)
    refine QS hz (fun hno => absurd ⟨n1, n64⟩ hno) (fun d q0 q1 q2 q3 q4 _ _ hd hT => ?_)
    refine ⟨fun c => by omega, fun _ => ⟨fun c => by omega, fun _ => ⟨fun c => absurd rfl c, fun _ => ⟨fun c => absurd rfl c, fun _ => ?_⟩⟩⟩⟩
    refine Jbq hz n1 n64 (by omega) (by omega) fun e he => ⟨fun c => absurd (hB.uniq he.isB) c, fun _ => Jbq hz n1 n64 (by omega) (by omega) fun f hf => ⟨fun c => absurd (hT.uniq (hf.isT n1)) c, fun _ => ⟨fun h1 => ?_, fun h1 => ?_⟩⟩⟩
    . have d1 := hB.one_ hT h1
      obtain ⟨rfl, rfl, rfl, _, _⟩ := hb.one h1
      obtain ⟨rfl, rfl, rfl, rfl, rfl⟩ := hd.one d1
      exact ⟨fun _ => ⟨fun _ => decide_eq_true d1, fun c => absurd ⟨rfl, rfl, rfl, rfl, rfl⟩ c⟩, fun c => absurd ⟨rfl, rfl, rfl, rfl, rfl⟩ c⟩
    . have hbd := hB.leT hT
      have d1 : d ≠ 1 := by have := hB.1; omega
      obtain ⟨v, e1, ha⟩ := hb.val h1
      obtain ⟨v', e2, ha'⟩ := hd.val d1
      refine Y2 hz (fun c => absurd ⟨n1, n64⟩ c) (fun _ _ c => absurd ha c) (fun _ _ _ c => absurd v c) fun _ _ _ _ => ?_
      refine Y2 hz (fun c => absurd ⟨n1, n64⟩ c) (fun _ _ c => absurd ha' c) (fun _ _ _ c => absurd v' c) fun _ _ _ _ => ?_
      exact ⟨fun _ => ⟨fun _ => ⟨fun _ => ⟨fun _ => ⟨fun _ => by decide, fun c => absurd rfl c⟩, fun c => absurd e2.symm c⟩, fun c => absurd e1.symm c⟩, fun c => absurd rfl c⟩, fun c => absurd rfl c⟩
end Go.Proofs.Ytppkigdakobebaa
