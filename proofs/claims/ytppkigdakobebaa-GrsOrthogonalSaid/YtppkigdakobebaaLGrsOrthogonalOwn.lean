/- What only this law leans on. -/
import Derived.Test.YtppkigdakobebaaGrsChecksG7
set_option linter.unusedSimpArgs false
set_option linter.unusedVariables false
namespace Go.Proofs.Ytppkigdakobebaa
open Go.ChangeShapes Go.WideShapes Go.ChangeAt Go.RowKit
section
variable {H : Type} {enc : TypeId × Value -> H} {P : Program} {W : World} {base : Nat} {spare : Nat -> Bool} {held : Bool}
theorem Jj9 {r : Reach} {t e : TypeId} {n : Nat} {v : Value} (ht : P.underlying t = some (.array n e)) (h : Value.okWide P W r base t v) : ∃ cs, v = .agg cs /\ cs.size = P.cellsOf t := by
  simp only [Value.okWide, ht] at h
  obtain ⟨cs, h1, h2, _⟩ := h
  exact ⟨cs, h1, h2⟩
/-- an array of two lists of ints -/
theorem Jn9 {t e u : TypeId} {cs : Array Value} {d : DataW H} {p : List MemPlace} (ht : P.underlying t = some (.array 2 e)) (he : P.underlying e = some (.slice u)) (hu : P.underlying u = some (.int .i64)) (hc : P.cellsOf e = 1) (hcu : P.cellsOf u = 1) (h2 : P.cellsOf t = 2) (h : DataW.Trod enc P W base spare held t (.agg cs) d p) :
    ∃ A m c A' m' c' xs xs', cs = #[.slice A m c, .slice A' m' c'] /\ Rd W.heap.size W 1 A m c (is xs) /\ Rd W.heap.size W 1 A' m' c' (is xs') := by
  obtain ⟨fuel, hf⟩ := h
  obtain ⟨xs, n, _, _, hl, hx, hel⟩ := DataW.trod_array ht hf
  have e2 : (Value.agg cs).cells.toList = cs.toList := rfl
  rw [e2] at hl hel
  rw [h2] at hl
  generalize hcs : cs.toList = l at *
  match l, hl with
  | [v0, v1], _ =>
    match xs, hx with
    | [x0, x1], _ =>
      have h0 := hel 0 (by omega)
      have h1 := hel 1 (by omega)
      simp only [hc, Nat.zero_mul, Nat.one_mul, Nat.mul_one, List.drop_zero, List.drop_succ_cons, List.take_succ_cons, List.take_zero, List.getElem?_cons_zero, List.getElem?_cons_succ] at h0 h1
      obtain ⟨A, m, c, y, rfl, R0⟩ := Yo he hu hcu h0
      obtain ⟨A', m', c', y', rfl, R1⟩ := Yo he hu hcu h1
      refine ⟨A, m, c, A', m', c', y, y', ?_, R0, R1⟩
      rw [<- Array.toArray_toList (xs := cs), hcs]
end
end Go.Proofs.Ytppkigdakobebaa
set_option linter.unusedSimpArgs false
set_option linter.unusedVariables false
namespace Go.Proofs.Ytppkigdakobebaa
open Go.RowKit
section
variable {P : Program} {n : Nat} {ro : Option Nat} {df : List Deferred} {N : J2} {B : Qd} {L : Fr} {w : World}
end
/-- Arrays as values: one cell an entry. -/
def arrB (P : Program) (t n : Nat) : Bool :=
  match P.underlying t with
  | some (.array m e) => m == n && (match P.underlying e with | some (.struct _) => false | some (.array _ _) => false | some _ => true | none => false) && (match P.info? e with | some i => i.size == 1 | none => false)
  | _ => false
section
variable {P : Program} {n : Nat} {ro : Option Nat} {df : List Deferred} {N : J2} {L : Fr} {w : World} {ops : Array Oper} {rest : List Oper}
variable {d : Nat} {ty : TypeId} {pos : String} {af : Array Edge}
end
end Go.Proofs.Ytppkigdakobebaa
set_option linter.unusedSimpArgs false
set_option linter.unusedVariables false
namespace Go.Proofs.Ytppkigdakobebaa
open Go.RowKit
/-! ### pointers and functions beside nil; entries of an array that lies in memory -/
section
variable {P : Program} {n : Nat} {ro : Option Nat} {df : List Deferred} {N : J2} {L : Fr} {w : World} {rest : List Oper} {ops : Array Oper}
variable {d : Nat} {ty : TypeId} {pos : String} {af : Array Edge}
/-- the address of an entry of an array -/
theorem ZT {x i : Operand} {t m : Nat} {p q : Addr} {k : IntKind} {J : Int} (j : Nat) (hA : arrB P t m = true) (hx : ev L x = some (.pointer (some p))) (hi : ev L i = some (.int k J)) (hJ : J = j) (hj : j < m) (hq : p.add (j * 1) = q) (hn : Nat.blt d n = true)
    (h : WL P n ro df ops rest N ((d, .pointer (some q)) :: L) w) : WL P n ro df ops (⟨some d, .indexAddr t x i, ty, pos, af, none⟩ :: rest) N L w := by
  refine WL.val rfl rfl hn (fun a ha => ?_) h
  subst hJ; subst hq
  unfold arrB at hA
  split at hA
  . rename_i m' e hu
    simp only [Bool.and_eq_true, beq_iff_eq] at hA
    obtain ⟨⟨hm, hk⟩, hs⟩ := hA
    subst hm
    cases hi2 : P.info? e with
    | none => rw [hi2] at hs; cases hs
    | some it =>
      rw [hi2] at hs
      simp only [beq_iff_eq] at hs
      have hc : (0 : Int) <= (j : Int) /\ (j : Int) < (m' : Int) := by omega
      simp [execOp, ha.ev hx, ha.ev hi, Instr.indexAt, Instr.sureAddr, asIntOf, run_underlying hu, sizeOf, typeInfo, hi2, hs, hj]
  . cases hA
end
end Go.Proofs.Ytppkigdakobebaa
set_option linter.unusedVariables false
namespace Go.Proofs.Ytppkigdakobebaa
open Go.RowKit
theorem Try.arr64 : arrB Try.prog 64 2 = true := by kernel_rfl
theorem Try.nm44 : (Try.f44.name == "runtime.NumGoroutine") = false := by kernel_rfl
end Go.Proofs.Ytppkigdakobebaa
namespace Go.Proofs.Ytppkigdakobebaa
open Go.RowKit
abbrev XF12 := Try.func12
abbrev XF44 := Try.func44
abbrev XN44 := Try.nm44
end Go.Proofs.Ytppkigdakobebaa
set_option linter.unusedSimpArgs false
set_option linter.unusedVariables false
set_option maxRecDepth 4000
set_option maxHeartbeats 4000000
namespace Go.Proofs.Ytppkigdakobebaa
open Go.RowKit
def Jhb (Pf : Int) (Mf : Int) (mf : List Int) (a : List Int) (b : List Int) (Q : Int -> Prop) : Prop :=
  ∃ J14 : Int -> Prop, (∃ (I21 : Int -> Int -> Prop) (μ22 : Int -> Int -> Nat), I21 0 (0 : Int) /\ ∀ (z19 : Int) (z20 : Int), (I21 z19 z20 -> (((z20 < (a.length : Int)) -> (((z20 < (b.length : Int)) -> ((0 <= z20 /\ z20 < (a.length : Nat)) /\ ((0 <= z20 /\ z20 < (b.length : Nat)) /\ (∃ (r40 : Int), YC Pf Mf mf (gi a z20) (gi b z20) (fun q => q = r40) /\ (∃ (r44 : Int), ZC Pf Mf mf z19 r40 (fun q => q = r44) /\ ((I64 (z20 + 1)) /\ (I21 r44 (z20 + 1) /\ μ22 r44 (z20 + 1) < μ22 z19 z20))))))) /\ (¬ (z20 < (b.length : Int)) -> J14 z19))) /\ (¬ (z20 < (a.length : Int)) -> J14 z19)))) /\ ∀ (z13 : Int), (J14 z13 -> Q z13)
theorem Jso {w : World} {Q : Int -> Prop} {Pf : Int} {Mf : Int} {mf : List Int} {a : List Int} {b : List Int} {Bf : Nat} {Af : Option Addr} {nf kf : Nat} (hf : Rd Bf w 1 Af nf kf (is mf)) {Ba : Nat} {Aa : Option Addr} {na ka : Nat} (ha : Rd Ba w 1 Aa na ka (is a)) {Bb : Nat} {Ab : Option Addr} {nb kb : Nat} (hb : Rd Bb w 1 Ab nb kb (is b)) (hv : Jhb Pf Mf mf a b Q) :
    Calls Try.prog 44 #[.agg #[.int .i64 Pf, .int .i64 Mf, .slice Af nf kf], .slice Aa na ka, .slice Ab nb kb] w <| Rt w fun v Qr => ∃ (r0 : Int), v = .int .i64 r0 /\ Qr = [] /\ Q r0 := by
  have hnf := hf.ilen
  subst hnf
  have hna := ha.ilen
  subst hna
  have hnb := hb.ilen
  subst hnb
  refine Jn <| Jl (vs := [.agg #[nI Pf, nI Mf, nS Af mf kf], nS Aa a ka, nS Ab b kb]) [6] XF44 rfl rfl rfl rfl ?_
  have hS := Jt w
  unfold Jhb at hv
  refine Jd 2 <| JH (z := 3) (cs := [nI Pf, nI Mf, nS Af mf kf]) hS rfl rfl rfl rfl ?_
  intro g11 w12 hS
  refine Jc 2 <| Jd 9 ?_
  obtain ⟨J14, hv, hk52⟩ := hv
  refine QT (σ := Int) (fun z13 w1 => J14 z13 /\ St TT w none w1 [.row 24 3 (nA g11) 1 1 [nI Pf, nI Mf, nS Af mf kf]]) (fun z13 => [(6, nI 0), (7, nI z13)]) ?_ ?_
  .refine W.block ?_
   obtain ⟨I21, μ22, hv, hk50⟩ := hv
   refine JE (σ := Int × Int) (fun q w1 => match q with | (z19, z20) => I21 z19 z20 /\ St TT w none w1 [.row 24 3 (nA g11) 1 1 [nI Pf, nI Mf, nS Af mf kf]]) (fun (z19, z20) => [(1, nS Aa a ka), (2, nS Ab b kb), (3, nP g11), (6, nI 0), (7, nI z19), (8, nI z20)]) (fun (z19, z20) => μ22 z19 z20) ((0 : Int), (0 : Int)) ⟨hv, hS⟩ ⟨rfl, rfl, rfl, rfl, rfl, rfl, trivial⟩ ?_
   rintro ⟨z19, z20⟩ w23 ⟨hv, hS⟩
   have hv := hk50 z19 z20 hv
   refine Jd 5 <| WL.len Jh rfl rfl <| Q8 rfl rfl rfl <| Jq rfl rfl ?_
   by_cases g24 : z20 < (a.length : Int)
   .have hv := hv.1 g24
    rw [decide_eq_true g24]
    refine Jc 5 <| WL.len Jh rfl rfl <| Jc 4 <| Jj rfl (fun c25 => ?_) (fun c25 => ?_)
    .have hv := hv.1 (oT c25)
     refine Jr <| JA <| W.block ?_
     obtain ⟨o32, hv⟩ := hv
     obtain ⟨o37, hv⟩ := hv
     obtain ⟨r40, o42, hv⟩ := hv
     obtain ⟨r44, o46, hv⟩ := hv
     refine JK 14 [⟨[], [3], false⟩, ⟨[], [7], true⟩, ⟨[], [3], false⟩, ⟨[], [1], true⟩, ⟨[], [8], true⟩, ⟨[3, 4], [], true⟩, ⟨[5], [], false⟩, ⟨[], [2], true⟩, ⟨[], [8], true⟩, ⟨[7, 8], [], true⟩, ⟨[9], [], false⟩, ⟨[2, 6, 10], [], false⟩, ⟨[0, 1, 11], [], false⟩, ⟨[12], [], true⟩] [(21, .agg #[nI Pf, nI Mf, nS Af mf kf]), (22, nI z19), (23, .agg #[nI Pf, nI Mf, nS Af mf kf]), (24, nS Aa a ka), (25, nI z20), (26, .pointer (some ((JU Aa).add z20.toNat))), (27, nI (gi a z20)), (28, nS Ab b kb), (29, nI z20), (30, .pointer (some ((JU Ab).add z20.toNat))), (31, nI (gi b z20)), (32, nI r40), (33, nI r44), (7, nI r44)] Try.mixed (by kernel_rfl) rfl rfl ?_ ?_
     . refine ⟨og hS fun _ _ hS => JD 0 JW J0 hS rfl ⟨rfl, rfl⟩ rfl <| Ja ⟨rfl, Jg _⟩, oD, og hS fun _ _ hS => JD 0 JW J0 hS rfl ⟨rfl, rfl⟩ rfl <| Ja ⟨rfl, Jg _⟩, oD, oD, fun _ _ _ => Jo Jh XE3 (hS.ro ha) rfl rfl o32 rfl <| Ja ⟨rfl, rfl⟩, og hS fun _ _ hS => Js XU3 rfl rfl (JJ (hS.ro ha) o32) rfl <| Ja ⟨rfl, Jg _⟩, oD, oD, fun _ _ _ => Jo Jh XE3 (hS.ro hb) rfl rfl o37 rfl <| Ja ⟨rfl, rfl⟩, og hS fun _ _ hS => Js XU3 rfl rfl (JJ (hS.ro hb) o37) rfl <| Ja ⟨rfl, Jg _⟩, ?_, ?_, oD, trivial⟩
       . intro w39 hE RR
         have hS := hS.grow (hE rfl)
         refine WL.call Ji5 rfl Jlc rfl rfl (JF (Zb (hS.ro hf) o42)) ?_
         rintro _ w41 ⟨_, hGw41, hRww41, hNww41, r40q, rfl, rfl, he⟩
         subst he
         exact Ja ⟨rfl, hGw41⟩
       intro w43 hE RR
       have hS := hS.grow (hE rfl)
       refine WL.call XF89 rfl XN89 rfl rfl (JF (Jc7 (hS.ro hf) o46)) ?_
       rintro _ w45 ⟨_, hGw45, hRww45, hNww45, r44q, rfl, rfl, he⟩
       subst he
       exact Ja ⟨rfl, hGw45⟩
     intro w48 hT
     have hS := hS.grow hT
     refine JC <| Jd 2 ?_
     obtain ⟨o49, hv⟩ := hv
     refine WL.add (r := (z20 + 1)) rfl rfl (wr o49) rfl <| Jc 2 ?_
     exact ⟨(r44, (z20 + 1)), sp rfl, hv.2, rfl, hv.1, hS⟩
    have hv := hv.2 (oF c25)
    refine JB ?_
    exact ⟨z19, ⟨rfl, rfl, trivial⟩, rfl, hv, hS⟩
   have hv := hv.2 g24
   rw [decide_eq_false g24]
   refine Jc 6 <| YL rfl <| JB ?_
   exact ⟨z19, ⟨rfl, rfl, trivial⟩, rfl, hv, hS⟩
  rintro z13 w51 ⟨hv, hS⟩
  have hv := hk52 z13 hv
  refine Jd 5 <| W.ret <| ⟨_, rfl, Fin.nil ?_⟩
  exact (hS.pick [] rfl).fin rfl ⟨z13, rfl, rfl, hv⟩
end Go.Proofs.Ytppkigdakobebaa
set_option linter.unusedVariables false
set_option linter.unusedSimpArgs false
namespace Go.Proofs.Ytppkigdakobebaa
section
variable {P M : Int} {mf : List Int} {p m v : Nat}
end
section
variable {P M : Int} {mf : List Int} {p m v : Nat}
/-- sums of products -/
def Jig (p m : Nat) (c : Vec) (l o : List Int) : Nat -> Nat
  | 0 => 0
  | k + 1 => Qp p m (Jig p m c l o k) (JO p m c (inE (p ^ m) (vo l k)) (inE (p ^ m) (vo o k)))
theorem Js4 {c : Vec} {l o : List Int} (hp : 0 < p) : ∀ k, Jig p m c l o k < p ^ m
  | 0 => Nat.pow_pos hp
  | k + 1 => Jmg hp _ _
theorem v_rDot (F : FV P M mf p m v) {l o : List Int} {Q : Int -> Prop} (hl : l.length <= 1000) (ho : o.length <= 1000) (h : Q ((Jig p m (dv p v) l o (min l.length o.length) : Nat) : Int)) : Jhb P M mf l o Q := by
  have hp := F.p2
  refine ⟨fun z => z = ((Jig p m (dv p v) l o (min l.length o.length) : Nat) : Int), ⟨fun z i => ∃ k : Nat, i = k /\ k <= min l.length o.length /\ z = ((Jig p m (dv p v) l o k : Nat) : Int), fun z i => (l.length - i).toNat, ⟨0, rfl, Nat.zero_le _, rfl⟩, ?_⟩, fun z hz => by rw [hz]; exact h⟩
  rintro _ _ ⟨k, rfl, hk, rfl⟩
  dsimp only
  rw [JG, JG]
  refine ⟨fun h1 => ⟨fun h2 => ?_, fun h2 => ?_⟩, fun h1 => ?_⟩
  . refine ⟨⟨by omega, by omega⟩, ⟨by omega, by omega⟩, _, Jo6 F rfl, _, Jjp F rfl, Jw (by omega) (by omega), ⟨k + 1, by push_cast; rfl, by omega, ?_⟩, by omega⟩
    rw [Yh (Js4 (by omega) k), Yh (Jgw (by omega) _ _)]; rfl
  . rw [show min l.length o.length = k by omega]
  . rw [show min l.length o.length = k by omega]
end
end Go.Proofs.Ytppkigdakobebaa
set_option linter.unusedVariables false
set_option linter.unusedSimpArgs false
namespace Go.Proofs.Ytppkigdakobebaa
section
variable {α : Type} [Cr α]
namespace Cr
end Cr
theorem Jlw (f : Nat -> α) : ∀ n, sgm (fun i => -(f i)) n = -(sgm f n)
  | 0 => Cr.neg_zero.symm
  | n + 1 => by rw [sgm, sgm, Jlw f n, Cr.neg_addd]
namespace Pl
end Pl
theorem Jks (a : α) (f : Pl α) (k : Nat) : (ct a * f) k = a * f k := by rw [ct, Jkb, if_pos (Nat.zero_le k), Nat.sub_zero]
theorem Su.ct {f : Pl α} {n : Nat} (a : α) (h : Su f n) : Su (Go.Proofs.Ytppkigdakobebaa.ct a * f) n := fun i hi => by rw [Jks, h i hi, Cr.mul_zero]
end
end Go.Proofs.Ytppkigdakobebaa
set_option linter.unusedVariables false
set_option linter.unusedSimpArgs false
set_option linter.unusedSectionVars false
namespace Go.Proofs.Ytppkigdakobebaa
section
variable {α : Type} [Cr α]
theorem Fs.ct (a : α) : Fs (ct a) := ⟨1, ct_su a⟩
theorem Js5 (f : Pl α) (n : Nat) (x : α) : evp (-f) n x = -(evp f n x) := by
  unfold evp
  rw [<- Jlw]
  exact J3 fun i _ => Cr.neg_mul _ _
theorem vl_neg {f : Pl α} (hf : Fs f) (x : α) : vl_ (-f) x = -(vl_ f x) := by
  obtain ⟨n, hn⟩ := hf
  rw [YH hn, YH hn.neg, Js5]
theorem vl_sub {f g : Pl α} (hf : Fs f) (hg : Fs g) (x : α) : vl_ (f - g) x = vl_ f x - vl_ g x := by
  rw [Cr.sub_eq, Jjl hf hg.neg, vl_neg hg]; rfl
theorem Jr7 (x : α) : vl_ (0 : Pl α) x = 0 := YH (Su.zero 0) x
theorem Jkm {f : Nat -> Pl α} : ∀ {n : Nat}, (∀ i, i < n -> Fs (f i)) -> Fs (sgm f n)
  | 0, _ => Fs.zero
  | n + 1, h => (Jkm (n := n) fun i hi => h i (by omega)).add (h n (by omega))
end
section
variable {α : Type} [Cr α] [Fd α]
theorem Dg.ct {f : Pl α} {d : Nat} {a : α} (h : Dg f d) (ha : a ≠ 0) : Dg (Go.Proofs.Ytppkigdakobebaa.ct a * f) d :=
  ⟨fun e => by rw [Jks] at e; rcases ZF e with e | e; exact ha e; exact h.1 e, h.2.ct a⟩
end
end Go.Proofs.Ytppkigdakobebaa
set_option linter.unusedSectionVars false
namespace Go.Proofs.Ytppkigdakobebaa
/-! ### counting: how many of the numbers below n have a property -/
section
open Classical
end
section
variable {α : Type} [Cr α] [Fd α]
def pll (x : Nat -> α) (i : Nat) : Nat -> Pl α
  | 0 => 1
  | j + 1 => if j = i then pll x i j else pll x i j * lin (x j)
theorem Z9 (x : Nat -> α) (i : Nat) : ∀ n, Fs (pll x i n)
  | 0 => Fs.one
  | n + 1 => by
    unfold pll; split
    . exact Z9 x i n
    . exact (Z9 x i n).mul ⟨2, QK _⟩
theorem Jj1 (x : Nat -> α) (i : Nat) : ∀ n, vl_ (pll x i n) (x i) = pdl x i 1 n
  | 0 => Joy _
  | n + 1 => by
    unfold pll pdl; split
    . exact Jj1 x i n
    . rw [Y6 (Z9 x i n) ⟨2, QK _⟩, Jfx, Jj1 x i n]
theorem Jdt (x : Nat -> α) (i k : Nat) (hk : k ≠ i) : ∀ n, k < n -> vl_ (pll x i n) (x k) = 0
  | 0, h => absurd h (Nat.not_lt_zero k)
  | n + 1, h => by
    unfold pll
    by_cases e : k = n
    . subst e
      rw [if_neg hk, Y6 (Z9 x i k) ⟨2, QK _⟩, Jfx, Cr.sub_self, Cr.mul_zero]
    . split
      . exact Jdt x i k hk n (by omega)
      . rw [Y6 (Z9 x i n) ⟨2, QK _⟩, Jdt x i k hk n (by omega), Cr.zero_mul]
theorem Jpt (x : Nat -> α) (i : Nat) : ∀ n, n <= i -> Dg (pll x i n) n /\ pll x i n n = 1
  | 0, _ => ⟨⟨Fd.ne, Su.one⟩, rfl⟩
  | n + 1, h => by
    obtain ⟨h1, h2⟩ := Jpt x i n (by omega)
    unfold pll
    rw [if_neg (by omega)]
    refine ⟨h1.mul (Jgl _), ?_⟩
    rw [Jao h1.2 (QK _), h2, Cr.one_mul]; rfl
theorem Jj0 (x : Nat -> α) (i : Nat) : ∀ n, i < n -> Su (pll x i n) n /\ pll x i n (n - 1) = 1
  | 0, h => absurd h (Nat.not_lt_zero i)
  | n + 1, h => by
    unfold pll
    by_cases e : n = i
    . subst e
      rw [if_pos rfl]
      obtain ⟨h1, h2⟩ := Jpt x n n (Nat.le_refl n)
      exact ⟨h1.2, h2⟩
    . rw [if_neg e]
      obtain ⟨h1, h2⟩ := Jj0 x i n (by omega)
      obtain ⟨m, rfl⟩ : ∃ m, n = m + 1 := ⟨n - 1, by omega⟩
      refine ⟨(h1.mul (QK _)).mono (by omega), ?_⟩
      have := Jao h1 (QK (x (m + 1)))
      show (pll x i (m + 1) * lin (x (m + 1))) (m + 1) = 1
      rw [this, show pll x i (m + 1) m = 1 from h2, Cr.one_mul]; rfl
theorem Jox {f : Nat -> Pl α} (y : α) : ∀ {n : Nat}, (∀ i, i < n -> Fs (f i)) -> vl_ (sgm f n) y = sgm (fun i => vl_ (f i) y) n
  | 0, _ => Jr7 y
  | n + 1, h => by
    show vl_ (sgm f n + f n) y = sgm (fun i => vl_ (f i) y) n + vl_ (f n) y
    rw [Jjl (Jkm fun i hi => h i (by omega)) (h n (by omega)), Jox y fun i hi => h i (by omega)]
theorem Jpg (f : Nat -> Pl α) (j : Nat) : ∀ n, sgm f n j = sgm (fun i => f i j) n
  | 0 => rfl
  | n + 1 => by show sgm f n j + f n j = _; rw [Jpg f j n]; rfl
theorem Jpe {f : Nat -> Pl α} {m : Nat} : ∀ {n : Nat}, (∀ i, i < n -> Su (f i) m) -> Su (sgm f n) m
  | 0, _ => Su.zero m
  | n + 1, h => (Jpe fun i hi => h i (by omega)).add (h n (by omega))
theorem Jii {f : Pl α} {n : Nat} (hf : Su f n) (x : Nat -> α) (hx : ∀ i j, i < j -> j < n -> x i ≠ x j) (h : ∀ i, i < n -> vl_ f (x i) = 0) : f = 0 := by
  have hd := Jkd ⟨n, hf⟩ x n h hx
  rcases Jci hf with e | ⟨d, hdk, hg⟩
  . exact e
  . have := hd.dg (Jgj _ _) hg; omega
/-- the highest coefficient of a polynomial of a degree below n by its values at n places -/
theorem Jjq {f : Pl α} {n : Nat} (hf : Su f (n + 1)) (x : Nat -> α) (hx : ∀ i j, i < j -> j < n + 1 -> x i ≠ x j) : sgm (fun i => vl_ f (x i) * Qo (pdl x i 1 (n + 1))) (n + 1) = f n := by
  have hne : ∀ i, i < n + 1 -> pdl x i 1 (n + 1) ≠ 0 := fun i hi => Jdu Fd.ne fun j hj hji e => by
    rcases Nat.lt_or_gt_of_ne hji with h | h
    . exact hx j i h hi e.symm
    . exact hx i j h hj e
  have hs : ∀ i, i < n + 1 -> Su (ct (vl_ f (x i) * Qo (pdl x i 1 (n + 1))) * pll x i (n + 1)) (n + 1) := fun i hi => (Jj0 x i (n + 1) hi).1.ct _
  have key : f - sgm (fun i => ct (vl_ f (x i) * Qo (pdl x i 1 (n + 1))) * pll x i (n + 1)) (n + 1) = 0 :=
    Jii (hf.sub (Jpe hs)) x hx fun k hk => by
      rw [vl_sub ⟨_, hf⟩ (Jkm fun i hi => ⟨_, hs i hi⟩), Jox _ fun i hi => ⟨_, hs i hi⟩, Jar hk, Y6 (Fs.ct _) (Z9 _ _ _), Jo1, Jj1, Cr.mul_assoc, Cr.mul_comm (Qo _), ZN (hne k hk), Cr.mul_one, Cr.sub_self]
      intro i hi hik
      rw [Y6 (Fs.ct _) (Z9 _ _ _), Jdt x i k (fun e => hik e.symm) _ hk, Cr.mul_zero]
  have e := congrArg (fun g : Pl α => g n) (Cr.eq_of_sub key)
  refine Eq.trans ?_ e.symm
  show _ = sgm (fun i => ct (vl_ f (x i) * Qo (pdl x i 1 (n + 1))) * pll x i (n + 1)) (n + 1) n
  rw [Jpg]
  refine J3 fun i hi => ?_
  rw [Jks, show pll x i (n + 1) n = 1 from (Jj0 x i (n + 1) hi).2, Cr.mul_one]
/-- words of a description and of its dual are orthogonal -/
theorem Jqe {a b : Pl α} {n k : Nat} (hk : k <= n + 1) (ha : Su a k) (hb : Su b (n + 1 - k)) (x u : Nat -> α) (hx : ∀ i j, i < j -> j < n + 1 -> x i ≠ x j) (hu : ∀ i, i < n + 1 -> u i ≠ 0) :
    sgm (fun i => u i * vl_ a (x i) * (Qo (pdl x i (u i) (n + 1)) * vl_ b (x i))) (n + 1) = 0 := by
  have hs : Su (a * b) n := (ha.mul hb).mono (by omega)
  have := Jjq (hs.mono (Nat.le_succ n)) x hx
  rw [hs n (Nat.le_refl n)] at this
  rw [<- this]
  refine J3 fun i hi => ?_
  have hne : pdl x i 1 (n + 1) ≠ 0 := Jdu Fd.ne fun j hj hji e => by
    rcases Nat.lt_or_gt_of_ne hji with h | h
    . exact hx j i h hi e.symm
    . exact hx i j h hj e
  have he : Qo (pdl x i 1 (n + 1)) = u i * Qo (pdl x i (u i) (n + 1)) := by
    refine (Yv ?_).symm
    have h1 : pdl x i (u i) (n + 1) ≠ 0 := by rw [Jau]; exact fun e => (ZF e).elim (hu i hi) hne
    have h2 := ZN h1
    rw [Jau] at h2 ⊢
    exact (show _ = u i * pdl x i 1 (n + 1) * Qo (u i * pdl x i 1 (n + 1)) by ac_rfl).trans h2
  rw [Y6 ⟨_, ha⟩ ⟨_, hb⟩, he]; ac_rfl
end
end Go.Proofs.Ytppkigdakobebaa
set_option linter.unusedSimpArgs false
set_option linter.unusedVariables false
set_option maxRecDepth 4000
set_option maxHeartbeats 4000000
namespace Go.Proofs.Ytppkigdakobebaa
open Go.RowKit
def YS (Pd : Int) (Md : Int) (md : List Int) (Kd : Int) (da : List Int) (db : List Int) (v0 : List Int) (v1 : List Int) (Q : Bool -> Prop) : Prop :=
  QV  (fun r16 => (((!r16) = true) -> Q false) /\ ((!r16) = false -> (Jca Pd Md md Kd da db (fun r19 => (((!r19) = true) -> Q true) /\ ((!r19) = false -> (Qe Pd Md md v0 Kd (3 : Int) (fun r22 => ((r22 ≠ 0) -> Q true) /\ (¬ (r22 ≠ 0) -> ((I64 ((da.length : Int) - Kd)) /\ (Qe Pd Md md v1 ((da.length : Int) - Kd) (3 : Int) (fun r26 => ((r26 ≠ 0) -> Q true) /\ (¬ (r26 ≠ 0) -> (Zi Pd Md md Kd da db (fun (r29, r30, x31, c32, x33, x34, r35) => QC Pd Md md Kd da db v0 (fun (x49, r50) => QC r29 r30 x31 c32 x33 x34 v1 (fun (x55, r56) => ((r35 = 0) -> (((r50 = 0) -> (((r56 = 0) -> ((((x49.length : Int) = (da.length : Int)) -> ((((x55.length : Int) = (x49.length : Int)) -> (Jhb Pd Md md x49 x55 (fun r66 => Q (decide (r66 = 0))))) /\ (¬ ((x55.length : Int) = (x49.length : Int)) -> Q false))) /\ (¬ ((x49.length : Int) = (da.length : Int)) -> Q false))) /\ (¬ (r56 = 0) -> Q false))) /\ (¬ (r50 = 0) -> Q false))) /\ (¬ (r35 = 0) -> Q false)))))))))))))))))
theorem Jd0 {w : World} {Q : Bool -> Prop} {Pd : Int} {Md : Int} {md : List Int} {Kd : Int} {da : List Int} {db : List Int} {v0 : List Int} {v1 : List Int} {Bd : Nat} {Ad : Option Addr} {nd kd : Nat} (hd : Rd Bd w 1 Ad nd kd (is md)) {Bda : Nat} {Ada : Option Addr} {nda kda : Nat} (hda : Rd Bda w 1 Ada nda kda (is da)) {Bdb : Nat} {Adb : Option Addr} {ndb kdb : Nat} (hdb : Rd Bdb w 1 Adb ndb kdb (is db)) {Bv0 : Nat} {Av0 : Option Addr} {nv0 kv0 : Nat} (hv0 : Rd Bv0 w 1 Av0 nv0 kv0 (is v0)) {Bv1 : Nat} {Av1 : Option Addr} {nv1 kv1 : Nat} (hv1 : Rd Bv1 w 1 Av1 nv1 kv1 (is v1)) (hv : YS Pd Md md Kd da db v0 v1 Q) :
    Calls Try.prog 12 #[.agg #[.int .i64 Pd, .int .i64 Md, .slice Ad nd kd, .int .i64 Kd, .slice Ada nda kda, .slice Adb ndb kdb], .agg #[.slice Av0 nv0 kv0, .slice Av1 nv1 kv1]] w <| Rt w fun v Qr => ∃ (r0 : Bool), v = .bool r0 /\ Qr = [] /\ Q r0 := by
  have hnd := hd.ilen
  subst hnd
  have hnda := hda.ilen
  subst hnda
  have hndb := hdb.ilen
  subst hndb
  have hnv0 := hv0.ilen
  subst hnv0
  have hnv1 := hv1.ilen
  subst hnv1
  refine Jn <| Jl (vs := [.agg #[nI Pd, nI Md, nS Ad md kd, nI Kd, nS Ada da kda, nS Adb db kdb], .agg #[nS Av0 v0 kv0, nS Av1 v1 kv1]]) [4] XF12 rfl rfl rfl rfl ?_
  have hS := Jt w
  unfold YS at hv
  refine Jd 2 <| JH (z := 6) (cs := [nI Pd, nI Md, nS Ad md kd, nI Kd, nS Ada da kda, nS Adb db kdb]) hS rfl rfl rfl rfl ?_
  intro g11 w12 hS
  refine JH (z := 2) (cs := [nS Av0 v0 kv0, nS Av1 v1 kv1]) hS rfl rfl rfl rfl ?_
  intro g13 w14 hS
  refine Jc 2 <| Jd 3 <| SL.call hS (Yu  hv) Ji6 rfl Jld rfl rfl ?_
  rintro _ _ w15 ⟨r16, rfl, rfl, hv⟩ hGw15 hS
  have hS := hS.n0
  refine Jc 2 <| Jj rfl (fun c17 => ?_) (fun c17 => ?_)
  .have hv := hv.1 (c17)
   refine Jd 4 <| W.ret <| ⟨_, rfl, Fin.nil ?_⟩
   exact (hS.pick [] rfl).fin rfl ⟨false, rfl, rfl, hv⟩
  have hv := hv.2 (c17)
  refine Jr <| Jd 3 <| JD 1 JQ J7 hS rfl ⟨rfl, rfl⟩ rfl <| SL.call hS (Jgb (hS.ro hd) (hS.ro hda) (hS.ro hdb) hv) XF43 rfl XN43 rfl rfl ?_
  rintro _ _ w18 ⟨r19, rfl, rfl, hv⟩ hGw18 hS
  have hS := hS.n0
  refine Yf rfl rfl <| Jq rfl rfl ?_
  rcases g20 : (!r19) with _ | _
  .have hv := hv.2 g20
   refine WL.take rfl <| Jb (off := 0) Qf rfl rfl <| WL.take rfl <| J4 (cs := [nI Pd, nI Md, nS Ad md kd]) JW J0 rfl rfl (QE (hS.rd (i := 1) rfl) 0 rfl) rfl <| WL.take rfl <| ZT 0 Try.arr64 rfl rfl rfl (by decide) rfl rfl <| WL.take rfl <| Jp 0 0 Jh hS rfl rfl rfl ⟨rfl, rfl⟩ <| WL.take rfl <| Jb (off := 3) Qm rfl rfl <| WL.take rfl <| Jp 1 3 XU3 hS rfl rfl rfl ⟨rfl, rfl⟩ <| WL.take rfl <| SL.call hS (Q6 (hS.ro hd) (hS.ro hv0) hv) XF38 rfl XN38 rfl rfl ?_
   rintro _ _ w21 ⟨r22, rfl, rfl, hv⟩ hGw21 hS
   have hS := hS.n0
   refine Jc 3 <| Jq rfl rfl ?_
   by_cases g23 : r22 ≠ 0
   .have hv := hv.1 g23
    rw [decide_eq_true g23]
    refine Jc 14 <| JP rfl <| Jd 4 <| W.ret <| ⟨_, rfl, Fin.nil ?_⟩
    exact (hS.pick [] rfl).fin rfl ⟨true, rfl, rfl, hv⟩
   have hv := hv.2 g23
   rw [decide_eq_false g23]
   refine WL.take rfl <| Jb (off := 0) Qf rfl rfl <| WL.take rfl <| J4 (cs := [nI Pd, nI Md, nS Ad md kd]) JW J0 rfl rfl (QE (hS.rd (i := 1) rfl) 0 rfl) rfl <| WL.take rfl <| ZT 1 Try.arr64 rfl rfl rfl (by decide) rfl rfl <| WL.take rfl <| Jp 0 1 Jh hS rfl rfl rfl ⟨rfl, rfl⟩ <| WL.take rfl <| Jb (off := 4) Ju rfl rfl <| WL.take rfl <| Jp 1 4 Jh hS rfl rfl rfl ⟨rfl, rfl⟩ <| WL.take rfl <| WL.len Jh rfl rfl <| WL.take rfl <| Jb (off := 3) Qm rfl rfl <| WL.take rfl <| Jp 1 3 XU3 hS rfl rfl rfl ⟨rfl, rfl⟩ <| WL.take rfl ?_
   obtain ⟨o24, hv⟩ := hv
   refine WL.sub (r := ((da.length : Int) - Kd)) rfl rfl (wr o24) rfl <| WL.take rfl <| SL.call hS (Q6 (hS.ro hd) (hS.ro hv1) hv) XF38 rfl XN38 rfl rfl ?_
   rintro _ _ w25 ⟨r26, rfl, rfl, hv⟩ hGw25 hS
   have hS := hS.n0
   refine Jc 4 <| Jj rfl (fun c27 => ?_) (fun c27 => ?_)
   .have hv := hv.1 (oT c27)
    refine Jd 4 <| W.ret <| ⟨_, rfl, Fin.nil ?_⟩
    exact (hS.pick [] rfl).fin rfl ⟨true, rfl, rfl, hv⟩
   have hv := hv.2 (oF c27)
   refine Jr <| Jd 2 <| JD 1 JQ J7 hS rfl ⟨rfl, rfl⟩ rfl <| SL.call hS (Jav (hS.ro hd) (hS.ro hda) (hS.ro hdb) hv) XF41 rfl XN41 rfl rfl ?_
   rintro _ _ w28 ⟨r29, r30, x31, c32, x33, x34, r35, A36, k37, A39, k40, A42, k43, rfl, rfl, hv⟩ hGw28 hS
   have hS := hS.n3
   refine Jc 3 <| SL.alloc (cs := [nI 0, nI 0, .slice none 0 0, nI 0, .slice none 0 0, .slice none 0 0]) hS JQ rfl rfl ?_
   intro g45 w46 hS
   refine JS (cs := [nI r29, nI r30, nS A36 x31 k37, nI c32, nS A39 x33 k40, nS A42 x34 k43]) 0 hS rfl JQ rfl rfl rfl rfl rfl ?_
   intro w47 hS
   refine Jc 2 <| Jd 2 <| JD 5 JQ J7 hS rfl ⟨rfl, rfl⟩ rfl <| ZT 0 Try.arr64 rfl rfl rfl (by decide) rfl rfl <| Jp 4 0 Jh hS rfl rfl rfl ⟨rfl, rfl⟩ <| SL.call hS (Q2 (hS.ro hd) (hS.ro hda) (hS.ro hdb) (hS.ro hv0) hv) Jle rfl Joa rfl rfl ?_
   rintro _ _ w48 ⟨x49, r50, A51, k52, rfl, rfl, hv⟩ hGw48 hS
   have hS := hS.n1
   refine Jc 6 <| Jd 2 <| JD 1 JQ J7 hS rfl ⟨rfl, rfl⟩ rfl <| ZT 1 Try.arr64 rfl rfl rfl (by decide) rfl rfl <| Jp 5 1 Jh hS rfl rfl rfl ⟨rfl, rfl⟩ <| SL.call hS (Q2 (hS.rd (i := 2) rfl) (hS.rd (i := 3) rfl) (hS.rd (i := 4) rfl) (hS.ro hv1) hv) Jle rfl Joa rfl rfl ?_
   rintro _ _ w54 ⟨x55, r56, A57, k58, rfl, rfl, hv⟩ hGw54 hS
   have hS := hS.n1
   refine Jc 6 <| Jd 4 <| Jq rfl rfl ?_
   by_cases g60 : r35 = 0
   .have hv := hv.1 g60
    rw [decide_eq_true g60]
    refine Jc 5 <| Jq rfl rfl ?_
    by_cases g61 : r50 = 0
    .have hv := hv.1 g61
     rw [decide_eq_true g61]
     refine Jc 5 <| Jq rfl rfl ?_
     by_cases g62 : r56 = 0
     .have hv := hv.1 g62
      rw [decide_eq_true g62]
      refine Jc 3 <| WL.len Jh rfl rfl <| WL.take rfl <| Jb (off := 4) Ju rfl rfl <| WL.take rfl <| Jp 7 4 Jh hS rfl rfl rfl ⟨rfl, rfl⟩ <| WL.take rfl <| WL.len Jh rfl rfl <| Jc 3 <| Jq rfl rfl ?_
      by_cases g63 : (x49.length : Int) = (da.length : Int)
      .have hv := hv.1 g63
       rw [decide_eq_true g63]
       refine Jc 3 <| WL.len Jh rfl rfl <| Jc 3 <| WL.len Jh rfl rfl <| Jc 3 <| Jq rfl rfl ?_
       by_cases g64 : (x55.length : Int) = (x49.length : Int)
       .have hv := hv.1 g64
        rw [decide_eq_true g64]
        refine WL.take rfl <| Jb (off := 0) Qf rfl rfl <| WL.take rfl <| J4 (cs := [nI Pd, nI Md, nS Ad md kd]) JW J0 rfl rfl (QE (hS.rd (i := 7) rfl) 0 rfl) rfl <| Jc 5 <| SL.call hS (Jso (hS.ro hd) (hS.rd (i := 1) rfl) (hS.rd (i := 0) rfl) hv) XF44 rfl XN44 rfl rfl ?_
        rintro _ _ w65 ⟨r66, rfl, rfl, hv⟩ hGw65 hS
        have hS := hS.n0
        refine Jc 5 <| W.ret <| ⟨_, rfl, Fin.nil ?_⟩
        exact (hS.pick [] rfl).fin rfl ⟨(decide (r66 = 0)), rfl, rfl, hv⟩
       have hv := hv.2 g64
       rw [decide_eq_false g64]
       refine Jc 9 <| W.ret <| ⟨_, rfl, Fin.nil ?_⟩
       exact (hS.pick [] rfl).fin rfl ⟨false, rfl, rfl, hv⟩
      have hv := hv.2 g63
      rw [decide_eq_false g63]
      refine Jc 16 <| W.ret <| ⟨_, rfl, Fin.nil ?_⟩
      exact (hS.pick [] rfl).fin rfl ⟨false, rfl, rfl, hv⟩
     have hv := hv.2 g62
     rw [decide_eq_false g62]
     refine Jc 24 <| W.ret <| ⟨_, rfl, Fin.nil ?_⟩
     exact (hS.pick [] rfl).fin rfl ⟨false, rfl, rfl, hv⟩
    have hv := hv.2 g61
    rw [decide_eq_false g61]
    refine Jc 28 <| W.ret <| ⟨_, rfl, Fin.nil ?_⟩
    exact (hS.pick [] rfl).fin rfl ⟨false, rfl, rfl, hv⟩
   have hv := hv.2 g60
   rw [decide_eq_false g60]
   refine Jc 32 <| W.ret <| ⟨_, rfl, Fin.nil ?_⟩
   exact (hS.pick [] rfl).fin rfl ⟨false, rfl, rfl, hv⟩
  have hv := hv.1 g20
  refine Jc 24 <| JP rfl <| Jd 4 <| W.ret <| ⟨_, rfl, Fin.nil ?_⟩
  exact (hS.pick [] rfl).fin rfl ⟨true, rfl, rfl, hv⟩
end Go.Proofs.Ytppkigdakobebaa
set_option linter.unusedVariables false
set_option linter.unusedSimpArgs false
namespace Go.Proofs.Ytppkigdakobebaa
open Ks
/-! ### generalized Reed-Solomon codes: the laws -/
section
variable {P M : Int} {mf : List Int} {k k' : Ks} {F : GFv} {K : Int} {da db : List Int}
theorem Jif (l o : List Int) : ∀ n, ((Jig k.p k.m (dv k.p k.v) l o n : Nat) : Int) = k.co (sgm (fun i => k.el (vo l i) * k.el (vo o i)) n)
  | 0 => rfl
  | n + 1 => by
    have := Jif l o n
    have e : Jig k.p k.m (dv k.p k.v) l o n = (sgm (fun i => k.el (vo l i) * k.el (vo o i)) n).1 := Int.ofNat.inj this
    show ((Qp k.p k.m (Jig k.p k.m (dv k.p k.v) l o n) _ : Nat) : Int) = _
    rw [e]; rfl
theorem Jaw (P M : Int) (mf : List Int) (K : Int) (da db v0 v1 : List Int) : YS P M mf K da db v0 v1 (fun b => b = true) := by
  refine YG (zT (Jjj (fun h24 hz => zT ?_) fun _ => zF rfl))
  obtain ⟨k, hF⟩ := Jh5 (Qs hz)
  have G := Jes hF hz
  have hV := Qs hz
  have k0 := G.k0; have kn := G.kn; have hlen := G.len; have n1 := G.n1
  have ho := hF.ord
  refine Je4 hV (by omega) (fun _ => tq (by decide) rfl) (fun _ _ => tq (by decide) rfl) fun hl hb => tn (by decide) ⟨Jw (by omega) (by omega), Je4 hV (by omega) (fun _ => tq (by decide) rfl) (fun _ _ => tq (by decide) rfl) fun hl1 hb1 => tn (by decide) ?_⟩
  refine Jcz (fun c => absurd hz c) fun k1 hF1 G1 => ?_
  refine Ym (by omega) (fun c => absurd hz c) (fun _ c => absurd hl c) (fun _ _ c => absurd hb c) fun k2 hF2 G2 _ _ => ?_
  have hzd := (G1.dual (K := K)).ck hF1
  refine Ym (by omega) (fun c => absurd hzd c) (fun _ c => absurd hl1 c) (fun _ _ c => absurd hb1 c) fun k3 hF3 G3 _ _ => ?_
  rw [DM_k hF1 hF, GW_k v0 hF2 hF, GW_k v1 hF3 hF]
  refine tq rfl (tq rfl (tq rfl (tq (by rw [QW]) (tq (by rw [QW, QW]) ?_))))
  refine v_rDot hF (by rw [QW]; omega) (by rw [QW]; omega) (decide_eq_true ?_)
  rw [QW, QW, Nat.min_self, Jif]
  obtain ⟨n, hn⟩ : ∃ n, da.length = n + 1 := ⟨da.length - 1, by omega⟩
  have key := Jqe (n := n) (k := v0.length) (a := k.pol v0) (b := k.pol v1) (by omega) (Yq _) ((Yq _).mono (by omega)) (fun i => k.el (vo da i)) (fun i => k.el (vo db i)) (fun i j hij hj => G.el_ne (by omega) (by omega) (by omega)) (fun i hi => G.mu_ne (by omega))
  refine Jb4.2 (Eq.trans ?_ key)
  rw [hn]
  refine J3 fun i hi => ?_
  rw [Jr3 _ (by omega), Jr3 _ (by omega), Jjf (by omega), Qx, Qx, Qx, hn]
end
end Go.Proofs.Ytppkigdakobebaa
