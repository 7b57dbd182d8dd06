/- What only this law leans on. -/
import Derived.Test.YtbdmnolcmeojbaaDlogTablesG5
namespace Go.Proofs.Ytbdmnolcmeojbaa
open Go.RowKit
abbrev XF4 := Try.func4
end Go.Proofs.Ytbdmnolcmeojbaa
set_option linter.unusedSimpArgs false
set_option linter.unusedVariables false
set_option maxRecDepth 4000
set_option maxHeartbeats 4000000
namespace Go.Proofs.Ytbdmnolcmeojbaa
open Go.RowKit
def QJ (Pd : Int) (Md : Int) (md : List Int) (bd : Int) (xd : Int) (yd : Int) (Q : Bool -> Prop) : Prop :=
  YA Pd Md md bd (fun q => match q with | (none, r15) => Q r15 | (some (b18, x19, x20, x21), _) => Jba b18 x19 x20 x21 xd yd (fun r35 => YX Pd Md md xd yd (fun r37 => ((r35 ≠ r37) -> Q false) /\ (¬ (r35 ≠ r37) -> (J1 Pd Md md (fun r40 => (I64 (r40 - 1)) /\ (Qq b18 x19 x20 x21 xd (fun (r43, r44) => Qq b18 x19 x20 x21 yd (fun (r46, r47) => Qq b18 x19 x20 x21 r35 (fun (r49, r50) => ((r44 ≠ 0) -> (((r50 = 7) -> (((r44 = 0) -> (((r47 = 0) -> Q true) /\ (¬ (r47 = 0) -> (Q (decide (r47 = 7)))))) /\ (¬ (r44 = 0) -> (((r44 = 7) -> (((r47 = 0) -> Q true) /\ (¬ (r47 = 0) -> (Q (decide (r47 = 7)))))) /\ (¬ (r44 = 7) -> Q false))))) /\ (¬ (r50 = 7) -> Q false))) /\ (¬ (r44 ≠ 0) -> (((r47 ≠ 0) -> (((r50 = 7) -> (((r44 = 0) -> (((r47 = 0) -> Q true) /\ (¬ (r47 = 0) -> (Q (decide (r47 = 7)))))) /\ (¬ (r44 = 0) -> (((r44 = 7) -> (((r47 = 0) -> Q true) /\ (¬ (r47 = 0) -> (Q (decide (r47 = 7)))))) /\ (¬ (r44 = 7) -> Q false))))) /\ (¬ (r50 = 7) -> Q false))) /\ (¬ (r47 ≠ 0) -> (((r50 = 0) -> ((I64 (r43 + r46)) /\ (((r40 - 1) ≠ 0) /\ (Q (decide (r49 = ((r43 + r46).tmod (r40 - 1)))))))) /\ (¬ (r50 = 0) -> Q false)))))))))))))))
theorem ZT {w : World} {Q : Bool -> Prop} {Pd : Int} {Md : Int} {md : List Int} {bd : Int} {xd : Int} {yd : Int} {Bd : Nat} {Ad : Option Addr} {nd kd : Nat} (hd : Rd Bd w 1 Ad nd kd (is md)) (hv : QJ Pd Md md bd xd yd Q) :
    Calls Try.prog 4 #[.agg #[.int .i64 Pd, .int .i64 Md, .slice Ad nd kd, .int .i64 bd, .int .i64 xd, .int .i64 yd]] w <| Rt w fun v Qr => ∃ (r0 : Bool), v = .bool r0 /\ Qr = [] /\ Q r0 := by
  have hnd := hd.ilen
  subst hnd
  refine Jh <| Jf (vs := [.agg #[nI Pd, nI Md, nS Ad md kd, nI bd, nI xd, nI yd]]) [2] XF4 rfl rfl rfl rfl ?_
  have hS := Jm w
  unfold QJ at hv
  refine Jd 2 <| JC (z := 6) (cs := [nI Pd, nI Md, nS Ad md kd, nI bd, nI xd, nI yd]) hS rfl rfl rfl rfl ?_
  intro g11 w12 hS
  refine Jc 2 <| Jd 2 <| Jb (off := 0) QR rfl rfl <| J0 (cs := [nI Pd, nI Md, nS Ad md kd]) JJ JM rfl rfl (Yd (hS.rd (i := 0) rfl) 0 rfl) rfl <| Jb (off := 3) YU rfl rfl <| SL.lv 0 3 XU3 hS rfl rfl rfl ⟨rfl, rfl⟩ <| SL.call hS (Jan (hS.ro hd) hv) XF6 rfl XN6 rfl rfl ?_
  rintro _ _ w14 ⟨o, r15, hv, hK⟩ hGw14 hS
  cases o with
  | none =>
   obtain ⟨rfl, rfl⟩ := hK
   have hS := hS.n0
   refine Jc 8 <| Jd 5 <| JI rfl <| Jd 5 <| W.ret <| ⟨_, rfl, Fin.nil ?_⟩
   exact (hS.pick [] rfl).fin rfl ⟨r15, rfl, rfl, hv⟩
  | some t_ =>
   obtain ⟨b18, x19, x20, x21⟩ := t_
   obtain ⟨g17, A22, A23, A24, k25, k26, k27, m28, m29, m30, rfl, rfl⟩ := hK
   have hS := hS.n4
   refine Jc 8 <| Jd 5 <| J9 rfl <| Jj <| Jd 3 <| Jb (off := 4) QQ rfl rfl <| SL.lv 4 4 XU3 hS rfl rfl rfl ⟨rfl, rfl⟩ <| Jb (off := 5) Q7 rfl rfl <| SL.lv 4 5 XU3 hS rfl rfl rfl ⟨rfl, rfl⟩ <| SL.call hS (Jgt (hS.rd (i := 1) rfl) (hS.rd (i := 2) rfl) (hS.rd (i := 3) rfl) (hS.rd (i := 0) rfl) hv) XF11 rfl XN11 rfl rfl ?_
   rintro _ _ w34 ⟨r35, rfl, rfl, hv⟩ hGw34 hS
   have hS := hS.n0
   refine Jc 2 <| Jd 4 <| Jb (off := 0) QR rfl rfl <| J0 (cs := [nI Pd, nI Md, nS Ad md kd]) JJ JM rfl rfl (Yd (hS.rd (i := 4) rfl) 0 rfl) rfl <| Jb (off := 4) QQ rfl rfl <| SL.lv 4 4 XU3 hS rfl rfl rfl ⟨rfl, rfl⟩ <| Jb (off := 5) Q7 rfl rfl <| SL.lv 4 5 XU3 hS rfl rfl rfl ⟨rfl, rfl⟩ <| SL.call hS (Z5 (hS.ro hd) hv) XF12 rfl XN12 rfl rfl ?_
   rintro _ _ w36 ⟨r37, rfl, rfl, hv⟩ hGw36 hS
   have hS := hS.n0
   refine Jc 2 <| Jg rfl (fun c38 => ?_) (fun c38 => ?_)
   .have hv := hv.1 (oT c38)
    refine Jd 4 <| W.ret <| ⟨_, rfl, Fin.nil ?_⟩
    exact (hS.pick [] rfl).fin rfl ⟨false, rfl, rfl, hv⟩
   have hv := hv.2 (oF c38)
   refine Jj <| Jd 2 <| Jb (off := 0) QR rfl rfl <| J0 (cs := [nI Pd, nI Md, nS Ad md kd]) JJ JM rfl rfl (Yd (hS.rd (i := 4) rfl) 0 rfl) rfl <| SL.call hS (Qd (hS.ro hd) hv) Jda rfl Jer rfl rfl ?_
   rintro _ _ w39 ⟨r40, rfl, rfl, hv⟩ hGw39 hS
   have hS := hS.n0
   obtain ⟨o41, hv⟩ := hv
   refine WL.sub (r := (r40 - 1)) rfl rfl (wr o41) rfl <| Jc 2 <| Jd 3 <| Jb (off := 4) QQ rfl rfl <| SL.lv 4 4 XU3 hS rfl rfl rfl ⟨rfl, rfl⟩ <| SL.call hS (QL (hS.rd (i := 1) rfl) (hS.rd (i := 2) rfl) (hS.rd (i := 3) rfl) (hS.rd (i := 0) rfl) hv) XF7 rfl XN7 rfl rfl ?_
   rintro _ _ w42 ⟨r43, r44, rfl, rfl, hv⟩ hGw42 hS
   have hS := hS.n0
   refine Jc 6 <| Jd 3 <| Jb (off := 5) Q7 rfl rfl <| SL.lv 4 5 XU3 hS rfl rfl rfl ⟨rfl, rfl⟩ <| SL.call hS (QL (hS.rd (i := 1) rfl) (hS.rd (i := 2) rfl) (hS.rd (i := 3) rfl) (hS.rd (i := 0) rfl) hv) XF7 rfl XN7 rfl rfl ?_
   rintro _ _ w45 ⟨r46, r47, rfl, rfl, hv⟩ hGw45 hS
   have hS := hS.n0
   refine Jc 6 <| Jd 4 <| SL.call hS (QL (hS.rd (i := 1) rfl) (hS.rd (i := 2) rfl) (hS.rd (i := 3) rfl) (hS.rd (i := 0) rfl) hv) XF7 rfl XN7 rfl rfl ?_
   rintro _ _ w48 ⟨r49, r50, rfl, rfl, hv⟩ hGw48 hS
   have hS := hS.n0
   refine Jc 6 <| Jd 5 <| Jl rfl rfl ?_
   by_cases g51 : r44 ≠ 0
   .have hv := hv.1 g51
    rw [decide_eq_true g51]
    refine Jc 4 <| JI rfl <| Jd 4 <| Jl rfl rfl ?_
    by_cases g52 : r50 = 7
    .have hv := hv.1 g52
     rw [decide_eq_true g52]
     refine Jc 5 <| Jl rfl rfl ?_
     by_cases g53 : r44 = 0
     .have hv := hv.1 g53
      rw [decide_eq_true g53]
      refine Jc 11 <| Jl rfl rfl ?_
      by_cases g54 : r47 = 0
      .have hv := hv.1 g54
       rw [decide_eq_true g54]
       refine Jc 7 <| W.ret <| ⟨_, rfl, Fin.nil ?_⟩
       exact (hS.pick [] rfl).fin rfl ⟨true, rfl, rfl, hv⟩
      have hv := hv.2 g54
      rw [decide_eq_false g54]
      refine Jc 9 <| W.ret <| ⟨_, rfl, Fin.nil ?_⟩
      exact (hS.pick [] rfl).fin rfl ⟨(decide (r47 = 7)), rfl, rfl, hv⟩
     have hv := hv.2 g53
     rw [decide_eq_false g53]
     refine Jc 7 <| Jl rfl rfl ?_
     by_cases g55 : r44 = 7
     .have hv := hv.1 g55
      rw [decide_eq_true g55]
      refine Jc 5 <| Jl rfl rfl ?_
      by_cases g56 : r47 = 0
      .have hv := hv.1 g56
       rw [decide_eq_true g56]
       refine Jc 7 <| W.ret <| ⟨_, rfl, Fin.nil ?_⟩
       exact (hS.pick [] rfl).fin rfl ⟨true, rfl, rfl, hv⟩
      have hv := hv.2 g56
      rw [decide_eq_false g56]
      refine Jc 9 <| W.ret <| ⟨_, rfl, Fin.nil ?_⟩
      exact (hS.pick [] rfl).fin rfl ⟨(decide (r47 = 7)), rfl, rfl, hv⟩
     have hv := hv.2 g55
     rw [decide_eq_false g55]
     refine Jc 3 <| JY rfl rfl <| JY rfl rfl <| Jc 4 <| W.ret <| ⟨_, rfl, Fin.nil ?_⟩
     exact (hS.pick [] rfl).fin rfl ⟨false, rfl, rfl, hv⟩
    have hv := hv.2 g52
    rw [decide_eq_false g52]
    refine Jc 3 <| JY rfl rfl <| JY rfl rfl <| Jc 6 <| JY rfl rfl <| JY rfl rfl <| Jc 4 <| W.ret <| ⟨_, rfl, Fin.nil ?_⟩
    exact (hS.pick [] rfl).fin rfl ⟨false, rfl, rfl, hv⟩
   have hv := hv.2 g51
   rw [decide_eq_false g51]
   refine Jc 6 <| Jg rfl (fun c57 => ?_) (fun c57 => ?_)
   .have hv := hv.1 (oT c57)
    refine Jd 4 <| Jl rfl rfl ?_
    by_cases g58 : r50 = 7
    .have hv := hv.1 g58
     rw [decide_eq_true g58]
     refine Jc 5 <| Jl rfl rfl ?_
     by_cases g59 : r44 = 0
     .have hv := hv.1 g59
      rw [decide_eq_true g59]
      refine Jc 11 <| Jl rfl rfl ?_
      by_cases g60 : r47 = 0
      .have hv := hv.1 g60
       rw [decide_eq_true g60]
       refine Jc 7 <| W.ret <| ⟨_, rfl, Fin.nil ?_⟩
       exact (hS.pick [] rfl).fin rfl ⟨true, rfl, rfl, hv⟩
      have hv := hv.2 g60
      rw [decide_eq_false g60]
      refine Jc 9 <| W.ret <| ⟨_, rfl, Fin.nil ?_⟩
      exact (hS.pick [] rfl).fin rfl ⟨(decide (r47 = 7)), rfl, rfl, hv⟩
     have hv := hv.2 g59
     rw [decide_eq_false g59]
     refine Jc 7 <| Jl rfl rfl ?_
     by_cases g61 : r44 = 7
     .have hv := hv.1 g61
      rw [decide_eq_true g61]
      refine Jc 5 <| Jl rfl rfl ?_
      by_cases g62 : r47 = 0
      .have hv := hv.1 g62
       rw [decide_eq_true g62]
       refine Jc 7 <| W.ret <| ⟨_, rfl, Fin.nil ?_⟩
       exact (hS.pick [] rfl).fin rfl ⟨true, rfl, rfl, hv⟩
      have hv := hv.2 g62
      rw [decide_eq_false g62]
      refine Jc 9 <| W.ret <| ⟨_, rfl, Fin.nil ?_⟩
      exact (hS.pick [] rfl).fin rfl ⟨(decide (r47 = 7)), rfl, rfl, hv⟩
     have hv := hv.2 g61
     rw [decide_eq_false g61]
     refine Jc 3 <| JY rfl rfl <| JY rfl rfl <| Jc 4 <| W.ret <| ⟨_, rfl, Fin.nil ?_⟩
     exact (hS.pick [] rfl).fin rfl ⟨false, rfl, rfl, hv⟩
    have hv := hv.2 g58
    rw [decide_eq_false g58]
    refine Jc 3 <| JY rfl rfl <| JY rfl rfl <| Jc 6 <| JY rfl rfl <| JY rfl rfl <| Jc 4 <| W.ret <| ⟨_, rfl, Fin.nil ?_⟩
    exact (hS.pick [] rfl).fin rfl ⟨false, rfl, rfl, hv⟩
   have hv := hv.2 (oF c57)
   refine Jj <| Jd 4 <| Jl rfl rfl ?_
   by_cases g63 : r50 = 0
   .have hv := hv.1 g63
    rw [decide_eq_true g63]
    refine Jc 7 ?_
    obtain ⟨o64, hv⟩ := hv
    refine WL.add (r := (r43 + r46)) rfl rfl (wr o64) rfl <| Jc 3 ?_
    obtain ⟨o65, hv⟩ := hv
    refine J3 (r := ((r43 + r46).tmod (r40 - 1))) rfl rfl o65 rfl rfl <| Jc 5 <| W.ret <| ⟨_, rfl, Fin.nil ?_⟩
    exact (hS.pick [] rfl).fin rfl ⟨(decide (r49 = ((r43 + r46).tmod (r40 - 1)))), rfl, rfl, hv⟩
   have hv := hv.2 g63
   rw [decide_eq_false g63]
   refine Jc 10 <| W.ret <| ⟨_, rfl, Fin.nil ?_⟩
   exact (hS.pick [] rfl).fin rfl ⟨false, rfl, rfl, hv⟩
end Go.Proofs.Ytbdmnolcmeojbaa
set_option linter.unusedVariables false
namespace Go.Proofs.Ytbdmnolcmeojbaa
section
variable {q : Nat} {A M : Nat -> Nat -> Nat} (R : CR q A M)
include R
namespace CR
end CR
end
namespace Gn
variable {q g : Nat} {A M : Nat -> Nat -> Nat}
theorem lg_eq (G : Gn q M g) (R : CR q A M) {k : Nat} (hk : k < q - 1) : lg q M g (pw M g k) = k := by
  obtain ⟨h1, h2⟩ := G.lg_spec R (Nat.pos_of_ne_zero (G.ne0 R k)) (R.pw_lt g k)
  rcases Nat.lt_trichotomy (lg q M g (pw M g k)) k with h | h | h
  . exact absurd h2 (G.inj R h hk)
  . exact h
  . exact absurd h2.symm (G.inj R h h1)
theorem mul_ne (G : Gn q M g) (R : CR q A M) {x y : Nat} (hx0 : 0 < x) (hx : x < q) (hy0 : 0 < y) (hy : y < q) : M x y ≠ 0 := by
  obtain ⟨i, _, rfl⟩ := G.surj R hx0 hx
  obtain ⟨j, _, rfl⟩ := G.surj R hy0 hy
  rw [<- R.pw_add G.lt]; exact G.ne0 R _
end Gn
end Go.Proofs.Ytbdmnolcmeojbaa
set_option linter.unusedVariables false
set_option linter.unusedSimpArgs false
namespace Go.Proofs.Ytbdmnolcmeojbaa
theorem ZA (P M : Int) (mf : List Int) (b x y : Int) : QJ P M mf b x y (fun b => b = true) := by
  refine Jb9 rfl fun F p m v g E L Z K hF hP hT => ?_
  have R := hF.ring
  have hq := hF.q
  have hq2 := R.q2
  have G := hP.gn R
  have eN : ((p ^ m : Nat) : Int) - 1 = ((p ^ m - 1 : Nat) : Int) := by omega
  have ne : ∀ {A B : Prop} {a : Int}, B -> (a ≠ a -> A) /\ (¬ (a ≠ a) -> B) := fun h => ⟨fun c => absurd rfl c, fun _ => h⟩
  have one : ∀ {A B : Prop} {a : Int}, A -> ((a = a -> A) /\ (¬ (a = a) -> B)) := fun h => ⟨fun _ => h, fun c => absurd rfl c⟩
  refine Jiu R G hT hq (Jcc hF (ne (Qw ?_)))
  rw [hF.ord, eN]
  refine ⟨Jo (by omega) (by omega), QD hT (fun hx => ?_) fun x' ex hx0 hxq => ?_⟩
  . have hz : Jq p m (dv p v) (inE (p ^ m) x) (inE (p ^ m) y) = 0 := by rw [Q4 hx, R.Z0 (JS R.pos y)]
    rw [hz]
    have zl : ∀ {hT' : Int × Int -> Prop}, hT' (0, 7) -> Qq b E L Z ((0 : Nat) : Int) hT' := fun h => QD hT (fun _ => h) fun y e h0 _ => by omega
    refine QD hT (fun hy => zl ?_) fun y' ey hy0 hyq => zl ?_
    . exact ⟨fun _ => one ⟨fun c => absurd c (by decide), fun _ => one ⟨fun c => absurd c (by decide), fun _ => decide_eq_true rfl⟩⟩, fun c => absurd (by decide) c⟩
    . exact ⟨fun _ => one ⟨fun c => absurd c (by decide), fun _ => one (one rfl)⟩, fun c => absurd (by decide) c⟩
  . subst ex
    have zl : ∀ {hT' : Int × Int -> Prop}, hT' (0, 7) -> Qq b E L Z ((0 : Nat) : Int) hT' := fun h => QD hT (fun _ => h) fun y e h0 _ => by omega
    refine QD hT (fun hy => ?_) fun y' ey hy0 hyq => ?_
    . have hz : Jq p m (dv p v) (inE (p ^ m) (x' : Int)) (inE (p ^ m) y) = 0 := by rw [Q4 hy, R.M0 (JS R.pos _)]
      rw [hz]
      refine zl ⟨fun c => absurd rfl c, fun _ => ⟨fun _ => one (one ⟨fun c => absurd c (by decide), fun _ => decide_eq_true rfl⟩), fun c => absurd (by decide) c⟩⟩
    . subst ey
      rw [JZ hxq, JZ hyq]
      have hne := G.mul_ne R hx0 hxq hy0 hyq
      have hlt := R.Ml x' y'
      obtain ⟨h1, e1⟩ := G.lg_spec R hx0 hxq
      obtain ⟨h2, e2⟩ := G.lg_spec R hy0 hyq
      refine QD hT (fun c => absurd ⟨by omega, by omega⟩ c) fun z ez hz0 hzq => ?_
      have ez' : z = Jq p m (dv p v) x' y' := by omega
      subst ez'
      refine ne ⟨fun c => absurd rfl c, fun _ => one ⟨Jo (by omega) (by omega), by omega, decide_eq_true ?_⟩⟩
      rw [<- Jjx R G hx0 hxq hy0 hyq, <- G.modp R, G.lg_eq R (Nat.mod_lt _ (by omega)), Int.tmod_eq_emod_of_nonneg (by omega)]
      push_cast; rfl
end Go.Proofs.Ytbdmnolcmeojbaa
