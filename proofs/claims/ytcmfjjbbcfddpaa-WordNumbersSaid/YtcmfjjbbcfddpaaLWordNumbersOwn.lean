/- What only this law leans on. -/
import Derived.Test.YtcmfjjbbcfddpaaWordCleansG7
set_option linter.unusedVariables false
namespace Go.Proofs.Ytcmfjjbbcfddpaa
open Go.RowKit
theorem Try.nm37 : (Try.f37.name == "runtime.NumGoroutine") = false := by kernel_rfl
theorem Try.nm38 : (Try.f38.name == "runtime.NumGoroutine") = false := by kernel_rfl
theorem Try.nm68 : (Try.f68.name == "runtime.NumGoroutine") = false := by kernel_rfl
end Go.Proofs.Ytcmfjjbbcfddpaa
namespace Go.Proofs.Ytcmfjjbbcfddpaa
open Go.RowKit
abbrev XF37 := Try.func37
abbrev XF38 := Try.func38
abbrev XF68 := Try.func68
abbrev XF9 := Try.func9
abbrev XN37 := Try.nm37
abbrev XN38 := Try.nm38
abbrev XN68 := Try.nm68
end Go.Proofs.Ytcmfjjbbcfddpaa
set_option linter.unusedSimpArgs false
set_option linter.unusedVariables false
set_option maxRecDepth 4000
set_option maxHeartbeats 4000000
namespace Go.Proofs.Ytcmfjjbbcfddpaa
open Go.RowKit
def V_wdigits (qo : Int) (n : Int) (x : Int) (Q : List Int → Prop) : Prop :=
  (0 ≤ n ∧ n * 8 ≤ 281474976710656 ∧ n ≤ 281474976710656) ∧ ((I64 (n - (1 : Int))) ∧ (∃ (I25 : List Int → Int → Int → Prop) (μ26 : List Int → Int → Int → Nat), I25 (List.replicate n.toNat (0 : Int)) x (n - (1 : Int)) ∧ ∀ (x22 : List Int) (z23 : Int) (z24 : Int), (I25 x22 z23 z24 → ((((0 : Int) ≤ z24) → ((qo ≠ 0) ∧ ((0 ≤ z24 ∧ z24 < (n.toNat : Nat)) ∧ ((qo ≠ 0 ∧ I64 (z23.tdiv qo)) ∧ ((I64 (z24 - (1 : Int))) ∧ (I25 (si x22 z24 (z23.tmod qo)) (z23.tdiv qo) (z24 - (1 : Int)) ∧ μ26 (si x22 z24 (z23.tmod qo)) (z23.tdiv qo) (z24 - (1 : Int)) < μ26 x22 z23 z24)))))) ∧ (¬ ((0 : Int) ≤ z24) → Q x22)))))
theorem ok_wdigits {w : World} {Q : List Int → Prop} {qo : Int} {n : Int} {x : Int}  (hv : V_wdigits qo n x Q) :
    Calls Try.prog 68 #[.int .i64 qo, .int .i64 n, .int .i64 x] w fun e w' => ∃ v Qr, e = .returned v ∧ w.grownBy w' none ∧ Rows w.heap.size none w' Qr ∧ News w.heap.size Qr ∧ ∃ (x : List Int)  (A : Option Addr) (c : Nat), v = .slice A x.length c ∧ Qr = [.row 3 1 A x.length c (is x)] ∧ Q x := by
  refine calls_swap <| calls_of_W (vs := [.int .i64 qo, .int .i64 n, .int .i64 x]) [6] XF68 rfl rfl rfl rfl ?_
  have hS := St.start w
  unfold V_wdigits at hv
  refine W.seq <| W.region <| WL.assign rfl rfl <| WL.done <| W.seq <| W.region <| WL.move rfl rfl ?_
  obtain ⟨o11, hv⟩ := hv
  refine SL.make (J := n) hS XU22 XE3 rfl rfl o11 (made_is _) rfl ?_
  intro A12 w13 hS
  refine WL.assign rfl rfl <| WL.done <| W.seq <| W.seq <| W.region <| WL.move rfl rfl ?_
  obtain ⟨o15, hv⟩ := hv
  refine WL.sub (r := (n - (1 : Int))) rfl rfl (wr o15) rfl <| WL.assign rfl rfl <| WL.done <| W.block ?_
  obtain ⟨I25, μ26, hv, hk34⟩ := hv
  refine W.loop (σ := List Int × Int × Int) (fun q w1 => match q with | (x22, z23, z24) => I25 x22 z23 z24 ∧ St TT w none w1 [.row 3 1 A12 n.toNat n.toNat (is x22)]) (fun q => match q with | (x22, z23, z24) => [(0, .int .i64 qo), (2, .int .i64 z23), (6, .slice none 0 0), (7, .slice A12 n.toNat n.toNat), (8, .int .i64 z24)]) (fun q => match q with | (x22, z23, z24) => μ26 x22 z23 z24) (List.replicate n.toNat (0 : Int), x, (n - (1 : Int))) ⟨hv, hS⟩ ⟨rfl, rfl, rfl, rfl, rfl, trivial⟩ ?_
  rintro ⟨x22, z23, z24⟩ w27 ⟨hv, hS⟩
  have hv := hk34 x22 z23 z24 hv
  refine W.seq <| W.seq <| W.region <| WL.move rfl rfl <| WL.geqD rfl rfl rfl <| WL.done <| W.cond2 rfl (fun c28 => ?_) (fun c28 => ?_)
  ·have hv := hv.1 (of_decide_eq_true c28)
   refine W.skip <| W.seq <| W.block <| W.seq <| W.region <| WL.move rfl rfl <| WL.move rfl rfl <| WL.move rfl rfl <| WL.move rfl rfl ?_
   obtain ⟨o29, hv⟩ := hv
   refine WL.rem (r := (z23.tmod qo)) rfl rfl o29 rfl rfl ?_
   obtain ⟨o30, hv⟩ := hv
   refine SL.index XU22 XE3 (hS.rd (i := 0) rfl) rfl rfl o30 rfl <| SL.store (cs' := is (si x22 z24 (z23.tmod qo))) 0 z24.toNat hS rfl XE3 rfl rfl rfl (is_lt (hS.rd (i := 0) rfl) o30) (is_set _ _ _) ?_
   intro w31 hS
   refine WL.done <| W.region <| WL.move rfl rfl <| WL.move rfl rfl ?_
   obtain ⟨o32, hv⟩ := hv
   refine WL.quo (r := (z23.tdiv qo)) rfl rfl o32.1 (wr o32.2) rfl <| WL.assign rfl rfl <| WL.done <| W.region <| WL.move rfl rfl ?_
   obtain ⟨o33, hv⟩ := hv
   refine WL.sub (r := (z24 - (1 : Int))) rfl rfl (wr o33) rfl <| WL.assign rfl rfl <| WL.done ?_
   exact ⟨(si x22 z24 (z23.tmod qo), (z23.tdiv qo), (z24 - (1 : Int))), ⟨rfl, rfl, rfl, rfl, rfl, trivial⟩, hv.2, rfl, hv.1, hS⟩
  have hv := hv.2 (of_decide_eq_false c28)
  refine W.exit <| W.seq <| W.region <| WL.move rfl rfl <| WL.assign rfl rfl <| WL.done <| W.ret ?_
  have hm := (hS.rd (i := 0) rfl).ilen
  have hS := hS.relen (i := 0) rfl hm.symm
  refine ⟨_, rfl, Fin.nil ?_⟩
  exact ⟨_, hS.ext, (hS.pick [0] rfl).rows, News.of (hS.pick [0] rfl).rows rfl, ⟨x22, A12, n.toNat, (by rw [hm]), rfl, hv⟩⟩
def V_FromIndex (Fg : GFv) (n : Int) (i : Int) (Q : List Int × Int → Prop) : Prop :=
  V_Count Fg n (fun q => match q with | (r12, r13) => ((r13 ≠ (0 : Int)) → (Q (([] : List Int), r13))) ∧ (¬ (r13 ≠ (0 : Int)) → (((i < (0 : Int)) → (Q (([] : List Int), (6 : Int)))) ∧ (¬ (i < (0 : Int)) → (((r12 ≤ i) → (Q (([] : List Int), (6 : Int)))) ∧ (¬ (r12 ≤ i) → (V_Order Fg (fun r18 => V_wdigits r18 n i (fun x20 => Q (x20, (0 : Int)))))))))))
theorem ok_FromIndex {w : World} {Q : List Int × Int → Prop} {Fg : GFv} {n : Int} {i : Int} {ag : Addr} {Bg : Nat} (hgg : GFR Bg w ag Fg) (hv : V_FromIndex Fg n i Q) :
    Calls Try.prog 37 #[.pointer (some ag), .int .i64 n, .int .i64 i] w fun e w' => ∃ v Qr, e = .returned v ∧ w.grownBy w' none ∧ Rows w.heap.size none w' Qr ∧ News w.heap.size Qr ∧ ∃ (r0 : List Int) (r1 : Int) (Ar0 : Option Addr) (cr0 : Nat), v = .tuple #[.slice Ar0 r0.length cr0, .int .i64 r1] ∧ Qr = [.row 3 1 Ar0 r0.length cr0 (is r0)] ∧ Q (r0, r1) := by
  have hgg_ := hgg
  obtain ⟨Ag_mod, kg_mod, Ag_exp, kg_exp, Ag_log, kg_log, Ag_above, kg_above, hg_c, hg_mod, hg_exp, hg_log, hg_above⟩ := hgg_
  refine calls_swap <| calls_of_W (vs := [.pointer (some ag), .int .i64 n, .int .i64 i]) [6, 7] XF37 rfl rfl rfl rfl ?_
  have hS := St.start w
  unfold V_FromIndex at hv
  refine W.seq <| W.region <| WL.assign rfl rfl <| WL.assign rfl rfl <| WL.done <| W.seq <| W.region <| WL.move rfl rfl <| WL.move rfl rfl <| SL.call hS (ok_Count (GFR.ext (GFR.norm hgg) hS.ext) hv) XF35 rfl XN35 rfl rfl ?_
  rintro _ _ w11 ⟨r12, r13, rfl, rfl, hv⟩ hGw11 hS
  have hS := hS.n0
  refine WL.move rfl rfl <| WL.extract rfl rfl rfl <| WL.extract rfl rfl rfl <| WL.assign rfl rfl <| WL.assign rfl rfl <| WL.done <| W.seq <| W.seq <| W.region <| WL.move rfl rfl <| WL.neqD rfl rfl rfl <| WL.done <| W.cond2 rfl (fun c14 => ?_) (fun c14 => ?_)
  ·have hv := hv.1 (of_decide_eq_true c14)
   refine W.seq <| W.region <| WL.move rfl rfl <| WL.assign rfl rfl <| WL.assign rfl rfl <| WL.done <| W.ret ?_
   have hS := hS.nil (e := 3) (z := 1)
   refine ⟨_, rfl, Fin.nil ?_⟩
   exact ⟨_, hS.ext, (hS.pick [0] rfl).rows, News.of (hS.pick [0] rfl).rows rfl, ⟨([] : List Int), r13, none, 0, rfl, rfl, hv⟩⟩
  have hv := hv.2 (of_decide_eq_false c14)
  refine W.skip <| W.seq <| W.seq <| W.region <| WL.move rfl rfl <| WL.lssD rfl rfl rfl <| WL.move rfl rfl ?_
  by_cases g15 : i < (0 : Int)
  ·have hv := hv.1 g15
   rw [decide_eq_true g15]
   refine WL.pass rfl rfl rfl <| WL.pass rfl rfl rfl <| WL.pass rfl rfl rfl <| WL.pick rfl rfl rfl <| WL.done <| W.condT rfl <| W.seq <| W.region <| WL.assign rfl rfl <| WL.assign rfl rfl <| WL.done <| W.ret ?_
   have hS := hS.nil (e := 3) (z := 1)
   refine ⟨_, rfl, Fin.nil ?_⟩
   exact ⟨_, hS.ext, (hS.pick [0] rfl).rows, News.of (hS.pick [0] rfl).rows rfl, ⟨([] : List Int), (6 : Int), none, 0, rfl, rfl, hv⟩⟩
  have hv := hv.2 g15
  rw [decide_eq_false g15]
  refine WL.take rfl <| WL.move rfl rfl <| WL.take rfl <| WL.move rfl rfl <| WL.take rfl <| WL.geqD rfl rfl rfl <| WL.pick rfl rfl rfl <| WL.done <| W.cond2 rfl (fun c16 => ?_) (fun c16 => ?_)
  ·have hv := hv.1 (of_decide_eq_true c16)
   refine W.seq <| W.region <| WL.assign rfl rfl <| WL.assign rfl rfl <| WL.done <| W.ret ?_
   have hS := hS.nil (e := 3) (z := 1)
   refine ⟨_, rfl, Fin.nil ?_⟩
   exact ⟨_, hS.ext, (hS.pick [0] rfl).rows, News.of (hS.pick [0] rfl).rows rfl, ⟨([] : List Int), (6 : Int), none, 0, rfl, rfl, hv⟩⟩
  have hv := hv.2 (of_decide_eq_false c16)
  refine W.skip <| W.seq <| W.region <| WL.move rfl rfl <| SL.call hS (ok_Order (GFR.ext (GFR.norm hgg) hS.ext) hv) XF67 rfl XN67 rfl rfl ?_
  rintro _ _ w17 ⟨r18, rfl, rfl, hv⟩ hGw17 hS
  have hS := hS.n0
  refine WL.move rfl rfl <| WL.move rfl rfl <| SL.call hS (ok_wdigits  hv) XF68 rfl XN68 rfl rfl ?_
  rintro _ _ w19 ⟨x20, A21, k22, rfl, rfl, hv⟩ hGw19 hS
  have hS := hS.n1
  refine WL.assign rfl rfl <| WL.assign rfl rfl <| WL.done <| W.ret <| ⟨_, rfl, Fin.nil ?_⟩
  exact ⟨_, hS.ext, (hS.pick [0] rfl).rows, News.of (hS.pick [0] rfl).rows rfl, ⟨x20, (0 : Int), A21, k22, rfl, rfl, hv⟩⟩
end Go.Proofs.Ytcmfjjbbcfddpaa
set_option linter.unusedSimpArgs false
set_option linter.unusedVariables false
set_option maxRecDepth 4000
set_option maxHeartbeats 4000000
namespace Go.Proofs.Ytcmfjjbbcfddpaa
open Go.RowKit
def V_rFromIndex (Pf : Int) (Mf : Int) (mf : List Int) (n : Int) (i : Int) (Q : List Int × Int → Prop) : Prop :=
  V_rCount Pf Mf mf n (fun q => match q with | (r14, r15) => ((r15 ≠ (0 : Int)) → (Q (([] : List Int), r15))) ∧ (¬ (r15 ≠ (0 : Int)) → (((i < (0 : Int)) → (Q (([] : List Int), (6 : Int)))) ∧ (¬ (i < (0 : Int)) → (((r14 ≤ i) → (Q (([] : List Int), (6 : Int)))) ∧ (¬ (r14 ≤ i) → (V_rOrder Pf Mf mf (fun r20 => (0 ≤ n ∧ n * 8 ≤ 281474976710656 ∧ n ≤ 281474976710656) ∧ ((I64 (n - (1 : Int))) ∧ (∃ (I35 : List Int → Int → Int → Prop) (μ36 : List Int → Int → Int → Nat), I35 (List.replicate n.toNat (0 : Int)) i (n - (1 : Int)) ∧ ∀ (x32 : List Int) (z33 : Int) (z34 : Int), (I35 x32 z33 z34 → ((((0 : Int) ≤ z34) → ((r20 ≠ 0) ∧ ((0 ≤ z34 ∧ z34 < (n.toNat : Nat)) ∧ ((r20 ≠ 0 ∧ I64 (z33.tdiv r20)) ∧ ((I64 (z34 - (1 : Int))) ∧ (I35 (si x32 z34 (z33.tmod r20)) (z33.tdiv r20) (z34 - (1 : Int)) ∧ μ36 (si x32 z34 (z33.tmod r20)) (z33.tdiv r20) (z34 - (1 : Int)) < μ36 x32 z33 z34)))))) ∧ (¬ ((0 : Int) ≤ z34) → (Q (x32, (0 : Int))))))))))))))))
theorem ok_rFromIndex {w : World} {Q : List Int × Int → Prop} {Pf : Int} {Mf : Int} {mf : List Int} {n : Int} {i : Int} {Bf : Nat} {Af : Option Addr} {nf kf : Nat} (hf : Rd Bf w 1 Af nf kf (is mf)) (hv : V_rFromIndex Pf Mf mf n i Q) :
    Calls Try.prog 38 #[.agg #[.int .i64 Pf, .int .i64 Mf, .slice Af nf kf], .int .i64 n, .int .i64 i] w fun e w' => ∃ v Qr, e = .returned v ∧ w.grownBy w' none ∧ Rows w.heap.size none w' Qr ∧ News w.heap.size Qr ∧ ∃ (r0 : List Int) (r1 : Int) (Ar0 : Option Addr) (cr0 : Nat), v = .tuple #[.slice Ar0 r0.length cr0, .int .i64 r1] ∧ Qr = [.row 3 1 Ar0 r0.length cr0 (is r0)] ∧ Q (r0, r1) := by
  have hnf := hf.ilen
  subst hnf
  refine calls_swap <| calls_of_W (vs := [.agg #[.int .i64 Pf, .int .i64 Mf, .slice Af mf.length kf], .int .i64 n, .int .i64 i]) [6, 7] XF38 rfl rfl rfl rfl ?_
  have hS := St.start w
  unfold V_rFromIndex at hv
  refine W.seq <| W.region <| SL.box (z := 3) (cs := [.int .i64 Pf, .int .i64 Mf, .slice Af mf.length kf]) hS rfl rfl rfl rfl ?_
  intro g11 w12 hS
  refine WL.assign rfl rfl <| WL.assign rfl rfl <| WL.done <| W.seq <| W.region <| WL.loadV (cs := [.int .i64 Pf, .int .i64 Mf, .slice Af mf.length kf]) XE24 XG24 rfl rfl (Own.vcells (hS.own (i := 0) rfl)) rfl <| WL.move rfl rfl <| SL.call hS (ok_rCount (hS.ro hf) hv) XF36 rfl XN36 rfl rfl ?_
  rintro _ _ w13 ⟨r14, r15, rfl, rfl, hv⟩ hGw13 hS
  have hS := hS.n0
  refine WL.move rfl rfl <| WL.extract rfl rfl rfl <| WL.extract rfl rfl rfl <| WL.assign rfl rfl <| WL.assign rfl rfl <| WL.done <| W.seq <| W.seq <| W.region <| WL.move rfl rfl <| WL.neqD rfl rfl rfl <| WL.done <| W.cond2 rfl (fun c16 => ?_) (fun c16 => ?_)
  ·have hv := hv.1 (of_decide_eq_true c16)
   refine W.seq <| W.region <| WL.move rfl rfl <| WL.assign rfl rfl <| WL.assign rfl rfl <| WL.done <| W.ret ?_
   have hS := hS.nil (e := 3) (z := 1)
   refine ⟨_, rfl, Fin.nil ?_⟩
   exact ⟨_, hS.ext, (hS.pick [0] rfl).rows, News.of (hS.pick [0] rfl).rows rfl, ⟨([] : List Int), r15, none, 0, rfl, rfl, hv⟩⟩
  have hv := hv.2 (of_decide_eq_false c16)
  refine W.skip <| W.seq <| W.seq <| W.region <| WL.move rfl rfl <| WL.lssD rfl rfl rfl <| WL.move rfl rfl ?_
  by_cases g17 : i < (0 : Int)
  ·have hv := hv.1 g17
   rw [decide_eq_true g17]
   refine WL.pass rfl rfl rfl <| WL.pass rfl rfl rfl <| WL.pass rfl rfl rfl <| WL.pick rfl rfl rfl <| WL.done <| W.condT rfl <| W.seq <| W.region <| WL.assign rfl rfl <| WL.assign rfl rfl <| WL.done <| W.ret ?_
   have hS := hS.nil (e := 3) (z := 1)
   refine ⟨_, rfl, Fin.nil ?_⟩
   exact ⟨_, hS.ext, (hS.pick [0] rfl).rows, News.of (hS.pick [0] rfl).rows rfl, ⟨([] : List Int), (6 : Int), none, 0, rfl, rfl, hv⟩⟩
  have hv := hv.2 g17
  rw [decide_eq_false g17]
  refine WL.take rfl <| WL.move rfl rfl <| WL.take rfl <| WL.move rfl rfl <| WL.take rfl <| WL.geqD rfl rfl rfl <| WL.pick rfl rfl rfl <| WL.done <| W.cond2 rfl (fun c18 => ?_) (fun c18 => ?_)
  ·have hv := hv.1 (of_decide_eq_true c18)
   refine W.seq <| W.region <| WL.assign rfl rfl <| WL.assign rfl rfl <| WL.done <| W.ret ?_
   have hS := hS.nil (e := 3) (z := 1)
   refine ⟨_, rfl, Fin.nil ?_⟩
   exact ⟨_, hS.ext, (hS.pick [0] rfl).rows, News.of (hS.pick [0] rfl).rows rfl, ⟨([] : List Int), (6 : Int), none, 0, rfl, rfl, hv⟩⟩
  have hv := hv.2 (of_decide_eq_false c18)
  refine W.skip <| W.seq <| W.region <| WL.loadV (cs := [.int .i64 Pf, .int .i64 Mf, .slice Af mf.length kf]) XE24 XG24 rfl rfl (Own.vcells (hS.own (i := 0) rfl)) rfl <| SL.call hS (ok_rOrder (hS.ro hf) hv) XF42 rfl XN42 rfl rfl ?_
  rintro _ _ w19 ⟨r20, rfl, rfl, hv⟩ hGw19 hS
  have hS := hS.n0
  refine WL.assign rfl rfl <| WL.done <| W.seq <| W.region <| WL.move rfl rfl ?_
  obtain ⟨o21, hv⟩ := hv
  refine SL.make (J := n) hS XU22 XE3 rfl rfl o21 (made_is _) rfl ?_
  intro A22 w23 hS
  refine WL.assign rfl rfl <| WL.done <| W.seq <| W.seq <| W.region <| WL.move rfl rfl ?_
  obtain ⟨o25, hv⟩ := hv
  refine WL.sub (r := (n - (1 : Int))) rfl rfl (wr o25) rfl <| WL.assign rfl rfl <| WL.done <| W.block ?_
  obtain ⟨I35, μ36, hv, hk44⟩ := hv
  refine W.loop (σ := List Int × Int × Int) (fun q w1 => match q with | (x32, z33, z34) => I35 x32 z33 z34 ∧ St TT w none w1 [.row 3 1 A22 n.toNat n.toNat (is x32), .row 24 3 (some ⟨g11, 0, none⟩) 1 1 [.int .i64 Pf, .int .i64 Mf, .slice Af mf.length kf]]) (fun q => match q with | (x32, z33, z34) => [(2, .int .i64 z33), (6, .slice none 0 0), (7, .int .i64 (0 : Int)), (10, .int .i64 r20), (11, .slice A22 n.toNat n.toNat), (12, .int .i64 z34)]) (fun q => match q with | (x32, z33, z34) => μ36 x32 z33 z34) (List.replicate n.toNat (0 : Int), i, (n - (1 : Int))) ⟨hv, hS⟩ ⟨rfl, rfl, rfl, rfl, rfl, rfl, trivial⟩ ?_
  rintro ⟨x32, z33, z34⟩ w37 ⟨hv, hS⟩
  have hv := hk44 x32 z33 z34 hv
  refine W.seq <| W.seq <| W.region <| WL.move rfl rfl <| WL.geqD rfl rfl rfl <| WL.done <| W.cond2 rfl (fun c38 => ?_) (fun c38 => ?_)
  ·have hv := hv.1 (of_decide_eq_true c38)
   refine W.skip <| W.seq <| W.block <| W.seq <| W.region <| WL.move rfl rfl <| WL.move rfl rfl <| WL.move rfl rfl <| WL.move rfl rfl ?_
   obtain ⟨o39, hv⟩ := hv
   refine WL.rem (r := (z33.tmod r20)) rfl rfl o39 rfl rfl ?_
   obtain ⟨o40, hv⟩ := hv
   refine SL.index XU22 XE3 (hS.rd (i := 0) rfl) rfl rfl o40 rfl <| SL.store (cs' := is (si x32 z34 (z33.tmod r20))) 0 z34.toNat hS rfl XE3 rfl rfl rfl (is_lt (hS.rd (i := 0) rfl) o40) (is_set _ _ _) ?_
   intro w41 hS
   refine WL.done <| W.region <| WL.move rfl rfl <| WL.move rfl rfl ?_
   obtain ⟨o42, hv⟩ := hv
   refine WL.quo (r := (z33.tdiv r20)) rfl rfl o42.1 (wr o42.2) rfl <| WL.assign rfl rfl <| WL.done <| W.region <| WL.move rfl rfl ?_
   obtain ⟨o43, hv⟩ := hv
   refine WL.sub (r := (z34 - (1 : Int))) rfl rfl (wr o43) rfl <| WL.assign rfl rfl <| WL.done ?_
   exact ⟨(si x32 z34 (z33.tmod r20), (z33.tdiv r20), (z34 - (1 : Int))), ⟨rfl, rfl, rfl, rfl, rfl, rfl, trivial⟩, hv.2, rfl, hv.1, hS⟩
  have hv := hv.2 (of_decide_eq_false c38)
  refine W.exit <| W.seq <| W.region <| WL.move rfl rfl <| WL.assign rfl rfl <| WL.assign rfl rfl <| WL.done <| W.ret ?_
  have hm0 := (hS.rd (i := 0) rfl).ilen
  have hS := hS.relen (i := 0) rfl hm0.symm
  refine ⟨_, rfl, Fin.nil ?_⟩
  exact ⟨_, hS.ext, (hS.pick [0] rfl).rows, News.of (hS.pick [0] rfl).rows rfl, ⟨x32, (0 : Int), A22, n.toNat, (by first | (rw [hm0]; done) | (rw [hm0]; rfl)), rfl, hv⟩⟩
end Go.Proofs.Ytcmfjjbbcfddpaa
set_option linter.unusedVariables false
set_option linter.unusedSimpArgs false
namespace Go.Proofs.Ytcmfjjbbcfddpaa
/-! ### inner products -/
section
variable {P M : Int} {mf : List Int} {p m v : Nat}
end
section
variable {F : GFv} {p m v g : Nat}
end
/-! ### digits -/
def bd (q n x : Nat) : List Int := (List.range n).map fun t => ((x / q ^ (n - 1 - t) % q : Nat) : Int)
theorem bd_len (q n x : Nat) : (bd q n x).length = n := by simp [bd]
theorem bd_at {q n x t : Nat} (h : t < n) : vo (bd q n x) t = ((x / q ^ (n - 1 - t) % q : Nat) : Int) := by
  unfold bd
  show List.getD _ _ _ = _
  rw [List.getD_eq_getElem?_getD, List.getElem?_map, List.getElem?_range h]; rfl
/-- the loop that takes the digits off -/
def BdI (q n x : Nat) (l : List Int) (z i : Int) : Prop := ∃ j : Nat, j ≤ n ∧ i = (j : Int) - 1 ∧ z = ((x / q ^ (n - j) : Nat) : Int) ∧ l.length = n ∧ ∀ t, j ≤ t → t < n → vo l t = ((x / q ^ (n - 1 - t) % q : Nat) : Int)
theorem bd_start (q n x : Nat) : BdI q n x (List.replicate n 0) x ((n : Int) - 1) := ⟨n, Nat.le_refl _, rfl, by rw [Nat.sub_self, Nat.pow_zero, Nat.div_one], by simp, fun t h1 h2 => absurd h1 (by omega)⟩
theorem bd_step {q n x : Nat} {l : List Int} {z i : Int} (h : BdI q n x l z i) (hi : 0 ≤ i) : BdI q n x (si l i (z.tmod q)) (z.tdiv q) (i - 1) ∧ (0 ≤ z ∧ z ≤ x) ∧ i < n := by
  obtain ⟨j, hj, rfl, rfl, hl, hv⟩ := h
  obtain ⟨j, rfl⟩ : ∃ k, j = k + 1 := ⟨j - 1, by omega⟩
  refine ⟨⟨j, by omega, by omega, ?_, ?_, fun t h1 h2 => ?_⟩, ⟨Int.natCast_nonneg _, ?_⟩, by omega⟩
  · rw [tdivN, Nat.div_div_eq_div_mul, ← Nat.pow_succ, show (n - (j + 1)).succ = n - j by omega]
  · unfold si; rw [List.length_set, hl]
  · rw [show (((j + 1 : Nat) : Int) - 1) = (j : Int) by omega, si_nat, vo_set, tmodN]
    by_cases e : j = t
    · subst e; rw [if_pos ⟨rfl, by omega⟩, show n - 1 - j = n - (j + 1) by omega]
    · rw [if_neg (fun c => e c.1)]; exact hv t (by omega) h2
  · have := Nat.div_le_self x (q ^ (n - (j + 1))); omega
theorem bd_end {q n x : Nat} {l : List Int} {z i : Int} (h : BdI q n x l z i) (hi : ¬ 0 ≤ i) : l = bd q n x := by
  obtain ⟨j, hj, rfl, rfl, hl, hv⟩ := h
  exact vo_ext (by rw [hl, bd_len]) fun t ht => by rw [hv t (by omega) (by omega), bd_at (by omega)]
theorem v_wdigits {q n x : Nat} {Q : List Int → Prop} (hq : 0 < q) (hn : n ≤ 1000) (hx : x ≤ 1000000) (h : Q (bd q n x)) : V_wdigits q n x Q := by
  refine ⟨⟨by omega, by omega, by omega⟩, ⟨by omega, by omega⟩, BdI q n x, fun l z i => (i + 1).toNat, bd_start q n x, fun l z i hb => ⟨fun hi => ?_, fun hi => by rw [bd_end hb hi] ; exact h⟩⟩
  obtain ⟨h1, h2, h3⟩ := bd_step hb hi
  have hz : z.tdiv (q : Int) = ((z.toNat / q : Nat) : Int) := by rw [← tdivN, Int.toNat_of_nonneg h2.1]
  have hd : z.toNat / q ≤ z.toNat := Nat.div_le_self _ _
  exact ⟨by omega, ⟨hi, by simpa using h3⟩, ⟨by omega, by rw [hz]; exact i64N (Nat.le_trans hd (by omega))⟩, ⟨by omega, by omega⟩, h1, by dsimp only; omega⟩
theorem hv_bd_take {q n x : Nat} (hq : 0 < q) : ∀ k, k ≤ n → hv q ((bd q n x).take k) = ((x / q ^ (n - k) % q ^ k : Nat) : Int)
  | 0, _ => by simp [hv, Nat.mod_one]
  | k + 1, hk => by
    rw [hv_take (by rw [bd_len]; omega), hv_bd_take hq k (by omega), bd_at (by omega)]
    rw [show n - 1 - k = n - (k + 1) by omega]
    have e1 : x / q ^ (n - k) = x / q ^ (n - (k + 1)) / q := by rw [Nat.div_div_eq_div_mul, ← Nat.pow_succ, show (n - (k + 1)).succ = n - k by omega]
    rw [e1]
    generalize x / q ^ (n - (k + 1)) = y
    rw [← Int.natCast_mul, ← Int.natCast_add, Nat.pow_succ, Nat.mul_comm (q ^ k) q, Nat.mod_mul, Nat.mul_comm, Nat.add_comm]
theorem hv_bd_all {q n x : Nat} (hq : 0 < q) (hx : x < q ^ n) : hv q (bd q n x) = (x : Int) := by
  have h := hv_bd_take (x := x) hq n (Nat.le_refl _)
  rw [List.take_of_length_le (by rw [bd_len]; omega), Nat.sub_self, Nat.pow_zero, Nat.div_one, Nat.mod_eq_of_lt hx] at h
  exact h
theorem bd_dig {q n x : Nat} (hq : 0 < q) : Dig q (bd q n x) := by
  intro y hy
  obtain ⟨t, _, rfl⟩ := List.mem_map.1 hy
  have := Nat.mod_lt (x / q ^ (n - 1 - t)) hq
  exact ⟨by omega, by omega⟩
def fiS (q : Nat) (n i : Int) : List Int × Int := if (cW q n).2 = 0 then if i < 0 ∨ (cW q n).1 ≤ i then ([], 6) else (bd q n.toNat i.toNat, 0) else ([], (cW q n).2)
theorem cW_okI {q : Nat} {n : Int} (h : (cW q n).2 = 0) : ∃ k : Nat, n = k ∧ k ≤ 64 ∧ q ^ k ≤ 65536 ∧ cW q n = (((q ^ k : Nat) : Int), 0) := by
  have hn : 0 ≤ n := by
    unfold cW at h
    split at h
    · simp at h
    · omega
  obtain ⟨k, rfl⟩ : ∃ k : Nat, n = k := ⟨n.toNat, by omega⟩
  obtain ⟨h1, h2, h3⟩ := cW_ok h
  exact ⟨k, rfl, h1, h2, h3⟩
theorem v_FromIndex {F : GFv} {p m v g : Nat} (K : GFk F p m v g) {n i : Int} {Q : List Int × Int → Prop} (h : Q (fiS (p ^ m) n i)) : V_FromIndex F n i Q := by
  have hq2 := K.fv.ring.q2
  have hq := K.q
  refine v_Count K ?_
  unfold fiS at h
  generalize hc : cW (p ^ m) n = c at h ⊢
  obtain ⟨c1, c2⟩ := c
  dsimp only at h
  refine ⟨fun e => by rw [if_neg e] at h; exact h, fun e => ?_⟩
  have e : c2 = 0 := by simpa using e
  rw [if_pos e] at h
  obtain ⟨k, rfl, hk, hle, hce⟩ := cW_okI (q := p ^ m) (n := n) (by rw [hc]; exact e)
  rw [hc] at hce
  obtain rfl : c1 = ((p ^ m) ^ k : Nat) := congrArg Prod.fst hce
  refine ⟨fun e1 => by rw [if_pos (.inl e1)] at h; exact h, fun e1 => ⟨fun e2 => by rw [if_pos (.inr e2)] at h; exact h, fun e2 => ?_⟩⟩
  rw [if_neg (by omega)] at h
  show V_wdigits F.q k i _
  obtain ⟨x, rfl⟩ : ∃ x : Nat, i = x := ⟨i.toNat, by omega⟩
  rw [hq]
  exact v_wdigits (by omega) (by omega) (by omega) h
theorem v_rFromIndex {P M : Int} {mf : List Int} {p m v : Nat} (F : FV P M mf p m v) {n i : Int} {Q : List Int × Int → Prop} (h : Q (fiS (p ^ m) n i)) : V_rFromIndex P M mf n i Q := by
  have hq2 := F.ring.q2
  refine v_rCount F ?_
  unfold fiS at h
  generalize hc : cW (p ^ m) n = c at h ⊢
  obtain ⟨c1, c2⟩ := c
  dsimp only at h
  refine ⟨fun e => by rw [if_neg e] at h; exact h, fun e => ?_⟩
  have e : c2 = 0 := by simpa using e
  rw [if_pos e] at h
  obtain ⟨k, rfl, hk, hle, hce⟩ := cW_okI (q := p ^ m) (n := n) (by rw [hc]; exact e)
  rw [hc] at hce
  obtain rfl : c1 = ((p ^ m) ^ k : Nat) := congrArg Prod.fst hce
  refine ⟨fun e1 => by rw [if_pos (.inl e1)] at h; exact h, fun e1 => ⟨fun e2 => by rw [if_pos (.inr e2)] at h; exact h, fun e2 => ?_⟩⟩
  rw [if_neg (by omega)] at h
  refine v_rOrder ?_
  rw [F.ord]
  obtain ⟨x, rfl⟩ : ∃ x : Nat, i = x := ⟨i.toNat, by omega⟩
  have hq0 : 0 < p ^ m := by omega
  generalize p ^ m = q at *
  refine ⟨⟨by omega, by omega, by omega⟩, ⟨by omega, by omega⟩, BdI q k x, fun l z i => (i + 1).toNat, bd_start q k x, fun l z i hb => ⟨fun hi => ?_, fun hi => by rw [bd_end hb hi]; exact h⟩⟩
  obtain ⟨h1, h2, h3⟩ := bd_step hb hi
  have hz : z.tdiv (q : Int) = ((z.toNat / q : Nat) : Int) := by rw [← tdivN, Int.toNat_of_nonneg h2.1]
  have hd : z.toNat / q ≤ z.toNat := Nat.div_le_self _ _
  exact ⟨by omega, ⟨hi, by simpa using h3⟩, ⟨by omega, by rw [hz]; exact i64N (Nat.le_trans hd (by omega))⟩, ⟨by omega, by omega⟩, h1, by dsimp only; omega⟩
end Go.Proofs.Ytcmfjjbbcfddpaa
set_option linter.unusedSimpArgs false
set_option linter.unusedVariables false
set_option maxRecDepth 4000
set_option maxHeartbeats 4000000
namespace Go.Proofs.Ytcmfjjbbcfddpaa
open Go.RowKit
def V_LNumbers (Pf : Int) (Mf : Int) (mf : List Int) (n : Int) (i : Int) (Q : Bool → Prop) : Prop :=
  V_open Pf Mf mf (fun q => match q with | (none, r15) => Q r15 | (some F16, _) => V_Count F16 n (fun q => match q with | (r23, r24) => V_rCount Pf Mf mf n (fun q => match q with | (r26, r27) => ((r23 ≠ r26) → Q false) ∧ (¬ (r23 ≠ r26) → (((r24 ≠ r27) → Q false) ∧ (¬ (r24 ≠ r27) → (V_FromIndex F16 n i (fun q => match q with | (x31, r35) => V_rFromIndex Pf Mf mf n i (fun q => match q with | (x37, r41) => ((r35 ≠ r41) → Q false) ∧ (¬ (r35 ≠ r41) → (V_rwSame x31 x37 (fun r44 => (((!r44) = true) → Q false) ∧ ((!r44) = false → (∃ J46 : Prop, (((r41 = (0 : Int)) → (V_Index F16 x31 (fun q => match q with | (r49, r50) => ((r49 ≠ i) → Q false) ∧ (¬ (r49 ≠ i) → (((r50 ≠ (0 : Int)) → Q false) ∧ (¬ (r50 ≠ (0 : Int)) → J46)))))) ∧ (¬ (r41 = (0 : Int)) → J46)) ∧ (J46 → (V_Count F16 (0 : Int) (fun q => match q with | (r55, r56) => ((r55 = (1 : Int)) → (Q (decide (r56 = (0 : Int))))) ∧ (¬ (r55 = (1 : Int)) → Q false))))))))))))))))))
theorem ok_LNumbers {w : World} {Q : Bool → Prop} {Pf : Int} {Mf : Int} {mf : List Int} {n : Int} {i : Int} {Bf : Nat} {Af : Option Addr} {nf kf : Nat} (hf : Rd Bf w 1 Af nf kf (is mf)) (hv : V_LNumbers Pf Mf mf n i Q) :
    Calls Try.prog 9 #[.agg #[.int .i64 Pf, .int .i64 Mf, .slice Af nf kf], .int .i64 n, .int .i64 i] w fun e w' => ∃ v Qr, e = .returned v ∧ w.grownBy w' none ∧ Rows w.heap.size none w' Qr ∧ News w.heap.size Qr ∧ ∃ (r0 : Bool), v = .bool r0 ∧ Qr = [] ∧ Q r0 := by
  have hnf := hf.ilen
  subst hnf
  refine calls_swap <| calls_of_W (vs := [.agg #[.int .i64 Pf, .int .i64 Mf, .slice Af mf.length kf], .int .i64 n, .int .i64 i]) [6] XF9 rfl rfl rfl rfl ?_
  have hS := St.start w
  unfold V_LNumbers at hv
  refine W.seq <| W.region <| SL.box (z := 3) (cs := [.int .i64 Pf, .int .i64 Mf, .slice Af mf.length kf]) hS rfl rfl rfl rfl ?_
  intro g11 w12 hS
  refine WL.assign rfl rfl <| WL.done <| W.seq <| W.region <| WL.loadV (cs := [.int .i64 Pf, .int .i64 Mf, .slice Af mf.length kf]) XE24 XG24 rfl rfl (Own.vcells (hS.own (i := 0) rfl)) rfl <| SL.call hS (ok_open (hS.ro hf) hv) XF17 rfl XN17 rfl rfl ?_
  rintro _ _ w14 ⟨o, r15, hv, hK⟩ hGw14 hS
  cases o with
  | none =>
    obtain ⟨rfl, rfl⟩ := hK
    change St _ _ _ _ [.row 24 3 (some ⟨g11, 0, none⟩) 1 1 [.int .i64 Pf, .int .i64 Mf, .slice Af mf.length kf]] at hS
    refine WL.move rfl rfl <| WL.extract rfl rfl rfl <| WL.extract rfl rfl rfl <| WL.extract rfl rfl rfl <| WL.assign rfl rfl <| WL.assign rfl rfl <| WL.assign rfl rfl <| WL.done <| W.seq <| W.seq <| W.region <| WL.move rfl rfl <| WL.done <| W.condT rfl <| W.seq <| W.region <| WL.move rfl rfl <| WL.assign rfl rfl <| WL.done <| W.ret <| ⟨_, rfl, Fin.nil ?_⟩
    exact ⟨_, hS.ext, (hS.pick [] rfl).rows, News.of (hS.pick [] rfl).rows rfl, ⟨r15, rfl, rfl, hv⟩⟩
  | some F16 =>
    obtain ⟨ad17, lo18, hi19, rfl, rfl⟩ := hK
    change St _ _ _ _ [.ch lo18 hi19 (fun wz => GFX lo18 hi19 wz ad17 F16), .row 24 3 (some ⟨g11, 0, none⟩) 1 1 [.int .i64 Pf, .int .i64 Mf, .slice Af mf.length kf]] at hS
    refine WL.move rfl rfl <| WL.extract rfl rfl rfl <| WL.extract rfl rfl rfl <| WL.extract rfl rfl rfl <| WL.assign rfl rfl <| WL.assign rfl rfl <| WL.assign rfl rfl <| WL.done <| W.seq <| W.seq <| W.region <| WL.move rfl rfl <| WL.done <| W.condF rfl <| W.skip <| W.seq <| W.region <| WL.move rfl rfl <| WL.move rfl rfl <| SL.call hS (ok_Count (GFX.gfr (hS.chunk (i := 0) rfl)) hv) XF35 rfl XN35 rfl rfl ?_
    rintro _ _ w22 ⟨r23, r24, rfl, rfl, hv⟩ hGw22 hS
    have hS := hS.n0
    refine WL.move rfl rfl <| WL.extract rfl rfl rfl <| WL.extract rfl rfl rfl <| WL.assign rfl rfl <| WL.assign rfl rfl <| WL.done <| W.seq <| W.region <| WL.loadV (cs := [.int .i64 Pf, .int .i64 Mf, .slice Af mf.length kf]) XE24 XG24 rfl rfl (Own.vcells (hS.own (i := 1) rfl)) rfl <| WL.move rfl rfl <| SL.call hS (ok_rCount (hS.ro hf) hv) XF36 rfl XN36 rfl rfl ?_
    rintro _ _ w25 ⟨r26, r27, rfl, rfl, hv⟩ hGw25 hS
    have hS := hS.n0
    refine WL.move rfl rfl <| WL.extract rfl rfl rfl <| WL.extract rfl rfl rfl <| WL.assign rfl rfl <| WL.assign rfl rfl <| WL.done <| W.seq <| W.seq <| W.region <| WL.move rfl rfl <| WL.move rfl rfl <| WL.neqD rfl rfl rfl <| WL.move rfl rfl ?_
    by_cases g28 : r23 ≠ r26
    ·have hv := hv.1 g28
     rw [decide_eq_true g28]
     refine WL.pass rfl rfl rfl <| WL.pass rfl rfl rfl <| WL.pass rfl rfl rfl <| WL.pick rfl rfl rfl <| WL.done <| W.condT rfl <| W.seq <| W.region <| WL.assign rfl rfl <| WL.done <| W.ret <| ⟨_, rfl, Fin.nil ?_⟩
     exact ⟨_, hS.ext, (hS.pick [] rfl).rows, News.of (hS.pick [] rfl).rows rfl, ⟨false, rfl, rfl, hv⟩⟩
    have hv := hv.2 g28
    rw [decide_eq_false g28]
    refine WL.take rfl <| WL.move rfl rfl <| WL.take rfl <| WL.move rfl rfl <| WL.take rfl <| WL.neqD rfl rfl rfl <| WL.pick rfl rfl rfl <| WL.done <| W.cond2 rfl (fun c29 => ?_) (fun c29 => ?_)
    ·have hv := hv.1 (of_decide_eq_true c29)
     refine W.seq <| W.region <| WL.assign rfl rfl <| WL.done <| W.ret <| ⟨_, rfl, Fin.nil ?_⟩
     exact ⟨_, hS.ext, (hS.pick [] rfl).rows, News.of (hS.pick [] rfl).rows rfl, ⟨false, rfl, rfl, hv⟩⟩
    have hv := hv.2 (of_decide_eq_false c29)
    refine W.skip <| W.seq <| W.region <| WL.move rfl rfl <| WL.move rfl rfl <| WL.move rfl rfl <| SL.call hS (ok_FromIndex (GFX.gfr (hS.chunk (i := 0) rfl)) hv) XF37 rfl XN37 rfl rfl ?_
    rintro _ _ w30 ⟨x31, r35, A32, k33, rfl, rfl, hv⟩ hGw30 hS
    have hS := hS.n1
    refine WL.move rfl rfl <| WL.extract rfl rfl rfl <| WL.extract rfl rfl rfl <| WL.assign rfl rfl <| WL.assign rfl rfl <| WL.done <| W.seq <| W.region <| WL.loadV (cs := [.int .i64 Pf, .int .i64 Mf, .slice Af mf.length kf]) XE24 XG24 rfl rfl (Own.vcells (hS.own (i := 2) rfl)) rfl <| WL.move rfl rfl <| WL.move rfl rfl <| SL.call hS (ok_rFromIndex (hS.ro hf) hv) XF38 rfl XN38 rfl rfl ?_
    rintro _ _ w36 ⟨x37, r41, A38, k39, rfl, rfl, hv⟩ hGw36 hS
    have hS := hS.n1
    refine WL.move rfl rfl <| WL.extract rfl rfl rfl <| WL.extract rfl rfl rfl <| WL.assign rfl rfl <| WL.assign rfl rfl <| WL.done <| W.seq <| W.seq <| W.region <| WL.move rfl rfl <| WL.move rfl rfl <| WL.neqD rfl rfl rfl <| WL.move rfl rfl ?_
    by_cases g42 : r35 ≠ r41
    ·have hv := hv.1 g42
     rw [decide_eq_true g42]
     refine WL.pass rfl rfl rfl <| WL.pass rfl rfl rfl <| WL.pass rfl rfl rfl <| WL.pass rfl rfl rfl <| WL.pick rfl rfl rfl <| WL.done <| W.condT rfl <| W.seq <| W.region <| WL.assign rfl rfl <| WL.done <| W.ret <| ⟨_, rfl, Fin.nil ?_⟩
     exact ⟨_, hS.ext, (hS.pick [] rfl).rows, News.of (hS.pick [] rfl).rows rfl, ⟨false, rfl, rfl, hv⟩⟩
    have hv := hv.2 g42
    rw [decide_eq_false g42]
    refine WL.take rfl <| WL.move rfl rfl <| WL.take rfl <| WL.move rfl rfl <| WL.take rfl <| SL.call hS (ok_rwSame (hS.rd (i := 1) rfl) (hS.rd (i := 0) rfl) hv) XF18 rfl XN18 rfl rfl ?_
    rintro _ _ w43 ⟨r44, rfl, rfl, hv⟩ hGw43 hS
    have hS := hS.n0
    refine WL.take rfl <| WL.not rfl rfl <| WL.pick rfl rfl rfl <| WL.done <| W.cond2 rfl (fun c45 => ?_) (fun c45 => ?_)
    ·have hv := hv.1 (c45)
     refine W.seq <| W.region <| WL.assign rfl rfl <| WL.done <| W.ret <| ⟨_, rfl, Fin.nil ?_⟩
     exact ⟨_, hS.ext, (hS.pick [] rfl).rows, News.of (hS.pick [] rfl).rows rfl, ⟨false, rfl, rfl, hv⟩⟩
    have hv := hv.2 (c45)
    refine W.skip <| W.seq <| W.seq <| W.region <| WL.move rfl rfl <| WL.eqlD rfl rfl rfl <| WL.done ?_
    obtain ⟨J46, hv, hk58⟩ := hv
    refine W.cutN (σ := Unit) (fun _ w1 => J46 ∧ St TT w none w1 [.row 3 1 A38 x37.length k39 (is x37), .row 3 1 A32 x31.length k33 (is x31), .ch lo18 hi19 (fun wz => GFX lo18 hi19 wz ad17 F16), .row 24 3 (some ⟨g11, 0, none⟩) 1 1 [.int .i64 Pf, .int .i64 Mf, .slice Af mf.length kf]]) (fun _ => [(6, .bool false), (7, .pointer (some ad17))]) ?_ ?_
    ·refine W.cond2 rfl (fun c47 => ?_) (fun c47 => ?_)
     ·have hv := hv.1 (of_decide_eq_true c47)
      refine W.seq <| W.region <| WL.move rfl rfl <| WL.move rfl rfl <| SL.call hS (ok_Index (GFX.gfr (hS.chunk (i := 2) rfl)) (hS.rd (i := 1) rfl) hv) XF39 rfl XN39 rfl rfl ?_
      rintro _ _ w48 ⟨r49, r50, rfl, rfl, hv⟩ hGw48 hS
      have hS := hS.n0
      refine WL.move rfl rfl <| WL.extract rfl rfl rfl <| WL.extract rfl rfl rfl <| WL.assign rfl rfl <| WL.assign rfl rfl <| WL.done <| W.seq <| W.region <| WL.move rfl rfl <| WL.move rfl rfl <| WL.neqD rfl rfl rfl <| WL.move rfl rfl ?_
      by_cases g51 : r49 ≠ i
      ·have hv := hv.1 g51
       rw [decide_eq_true g51]
       refine WL.pass rfl rfl rfl <| WL.pass rfl rfl rfl <| WL.pick rfl rfl rfl <| WL.done <| W.condT rfl <| W.seq <| W.region <| WL.assign rfl rfl <| WL.done <| W.ret <| ⟨_, rfl, Fin.nil ?_⟩
       exact ⟨_, hS.ext, (hS.pick [] rfl).rows, News.of (hS.pick [] rfl).rows rfl, ⟨false, rfl, rfl, hv⟩⟩
      have hv := hv.2 g51
      rw [decide_eq_false g51]
      refine WL.take rfl <| WL.move rfl rfl <| WL.take rfl <| WL.neqD rfl rfl rfl <| WL.pick rfl rfl rfl <| WL.done <| W.cond2 rfl (fun c52 => ?_) (fun c52 => ?_)
      ·have hv := hv.1 (of_decide_eq_true c52)
       refine W.seq <| W.region <| WL.assign rfl rfl <| WL.done <| W.ret <| ⟨_, rfl, Fin.nil ?_⟩
       exact ⟨_, hS.ext, (hS.pick [] rfl).rows, News.of (hS.pick [] rfl).rows rfl, ⟨false, rfl, rfl, hv⟩⟩
      have hv := hv.2 (of_decide_eq_false c52)
      refine W.skip ?_
      exact ⟨(), ⟨rfl, rfl, trivial⟩, rfl, hv, hS⟩
     have hv := hv.2 (of_decide_eq_false c47)
     refine W.skip ?_
     exact ⟨(), ⟨rfl, rfl, trivial⟩, rfl, hv, hS⟩
    rintro _ w53 ⟨hv, hS⟩
    have hv := hk58  hv
    refine W.seq <| W.region <| WL.move rfl rfl <| SL.call hS (ok_Count (GFX.gfr (hS.chunk (i := 2) rfl)) hv) XF35 rfl XN35 rfl rfl ?_
    rintro _ _ w54 ⟨r55, r56, rfl, rfl, hv⟩ hGw54 hS
    have hS := hS.n0
    refine WL.move rfl rfl <| WL.extract rfl rfl rfl <| WL.extract rfl rfl rfl <| WL.assign rfl rfl <| WL.assign rfl rfl <| WL.done <| W.seq <| W.region <| WL.move rfl rfl <| WL.eqlD rfl rfl rfl <| WL.move rfl rfl ?_
    by_cases g57 : r55 = (1 : Int)
    ·have hv := hv.1 g57
     rw [decide_eq_true g57]
     refine WL.take rfl <| WL.move rfl rfl <| WL.take rfl <| WL.eqlD rfl rfl rfl <| WL.pick rfl rfl rfl <| WL.assign rfl rfl <| WL.done <| W.ret <| ⟨_, rfl, Fin.nil ?_⟩
     exact ⟨_, hS.ext, (hS.pick [] rfl).rows, News.of (hS.pick [] rfl).rows rfl, ⟨(decide (r56 = (0 : Int))), rfl, rfl, hv⟩⟩
    have hv := hv.2 g57
    rw [decide_eq_false g57]
    refine WL.pass rfl rfl rfl <| WL.pass rfl rfl rfl <| WL.pick rfl rfl rfl <| WL.assign rfl rfl <| WL.done <| W.ret <| ⟨_, rfl, Fin.nil ?_⟩
    exact ⟨_, hS.ext, (hS.pick [] rfl).rows, News.of (hS.pick [] rfl).rows rfl, ⟨false, rfl, rfl, hv⟩⟩
end Go.Proofs.Ytcmfjjbbcfddpaa
set_option linter.unusedVariables false
set_option linter.unusedSimpArgs false
namespace Go.Proofs.Ytcmfjjbbcfddpaa
theorem v_CountP {F : GFv} {p m v g : Nat} (K : GFk F p m v g) {n : Int} {Q : Int × Int → Prop} (h : ∀ a b, cW (p ^ m) n = (a, b) → Q (a, b)) : V_Count F n Q := v_Count K (pairE h)
theorem v_rCountP {P M : Int} {mf : List Int} {p m v : Nat} (F : FV P M mf p m v) {n : Int} {Q : Int × Int → Prop} (h : ∀ a b, cW (p ^ m) n = (a, b) → Q (a, b)) : V_rCount P M mf n Q := v_rCount F (pairE h)
theorem v_FromIndexP {F : GFv} {p m v g : Nat} (K : GFk F p m v g) {n i : Int} {Q : List Int × Int → Prop} (h : ∀ a b, fiS (p ^ m) n i = (a, b) → Q (a, b)) : V_FromIndex F n i Q := v_FromIndex K (pairE h)
theorem v_rFromIndexP {P M : Int} {mf : List Int} {p m v : Nat} (F : FV P M mf p m v) {n i : Int} {Q : List Int × Int → Prop} (h : ∀ a b, fiS (p ^ m) n i = (a, b) → Q (a, b)) : V_rFromIndex P M mf n i Q := v_rFromIndex F (pairE h)
section
variable {P M : Int} {mf : List Int}
theorem w_countEx {F : GFv} {p m v g : Nat} (K : GFk F p m v g) {Q : Int × Int → Prop} (h : Q (1, 0)) : V_Count F 0 Q := by
  refine v_Count K ?_
  exact h
theorem law_WordNumbers (n i : Int) : V_LNumbers P M mf n i (fun b => b = true) := by
  refine w_open (fun _ => rfl) fun F p m v g K hF => ?_
  have hq2 := hF.ring.q2
  have hlen : (fiS (p ^ m) n i).1.length ≤ 1000 := by
    unfold fiS
    split
    · split
      · simp
      · rename_i h1 h2
        obtain ⟨k, rfl, hk, _⟩ := cW_okI h1
        simp only [Int.toNat_natCast, bd_len]; omega
    · simp
  refine v_CountP K (fun c1 c2 hc => v_rCountP hF (fun d1 d2 hd => ?_))
  obtain ⟨rfl, rfl⟩ := pairQ hc hd
  refine ⟨fun e => absurd rfl e, fun _ => ⟨fun e => absurd rfl e, fun _ => v_FromIndexP K (fun r1 r2 hf => v_rFromIndexP hF (fun s1 s2 hs => ?_))⟩⟩
  obtain ⟨rfl, rfl⟩ := pairQ hf hs
  rw [hf] at hlen
  dsimp only at hlen
  refine ⟨fun e => absurd rfl e, fun _ => v_rwSame (by omega) ?_⟩
  rw [decide_eq_true rfl]
  refine ⟨fun h => absurd h (by decide), fun _ => ⟨True, ⟨fun e => v_Index K (by unfold LB; omega) ?_, fun _ => trivial⟩, fun _ => w_countEx K ⟨fun _ => rfl, fun c => absurd rfl c⟩⟩⟩
  obtain rfl : r2 = 0 := e
  have h0 : (cW (p ^ m) n).2 = 0 := by
    unfold fiS at hf
    split at hf
    · assumption
    · rename_i h; exact absurd (congrArg Prod.snd hf) h
  obtain ⟨k, rfl, hk, hle, hce⟩ := cW_okI h0
  unfold fiS at hf
  rw [if_pos h0, hce] at hf
  split at hf
  · exact absurd (show (6 : Int) = 0 from congrArg Prod.snd hf) (by decide)
  · rename_i hi
    simp only [Int.toNat_natCast] at hf hi
    obtain ⟨x, rfl⟩ : ∃ x : Nat, i = x := ⟨i.toNat, by omega⟩
    obtain rfl : bd (p ^ m) k x = r1 := congrArg Prod.fst hf
    have h1 : (cW (p ^ m) ((bd (p ^ m) k x).length : Nat)).2 = 0 := by rw [bd_len]; exact h0
    unfold ixS
    rw [if_pos h1, cl_of_dig (bd_dig (by omega)), hv_bd_all (by omega) (by omega)]
    exact ⟨fun e => absurd rfl e, fun _ => ⟨fun e => absurd rfl e, fun _ => trivial⟩⟩
end
end Go.Proofs.Ytcmfjjbbcfddpaa
