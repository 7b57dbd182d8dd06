/- Contracts of functions of the program, and what they lean on: D43, D44, D36, Dt, Fa, Fb, Fg, Fp, Fk, Fc, V1, V2. -/
import Derived.Test.YtgjloioccgcceaaGreatCombineSumsG6
set_option linter.unusedSimpArgs false
set_option linter.unusedVariables false
set_option maxRecDepth 4000
set_option maxHeartbeats 4000000
namespace Go.Proofs.YtgjloioccgcceaaGreat
open Go.RowKit
def Jhp (Pa : Int) (Ma : Int) (ma : LI) (Na : Int) (a : LL) (Pb : Int) (Mb : Int) (mb : LI) (Nb : Int) (b : LL) (Q : Int × Int × LI × Int × LL × Int -> Prop) : Prop :=
  Zb ([(Pa, Ma, ma, Na, a), (Pb, Mb, mb, Nb, b)] : List Ct) (fun r21 => ((r21 ≠ 0) -> (Q ((0 : Int), (0 : Int), ([] : LI), (0 : Int), ([] : LL), r21))) /\ (¬ (r21 ≠ 0) -> (Jcj Pa Ma ma Pb Mb mb (fun r26 => (((!r26) = true) -> (Q ((0 : Int), (0 : Int), ([] : LI), (0 : Int), ([] : LL), (10 : Int)))) /\ ((!r26) = false -> ((I64 (Na + Nb)) /\ ((((64 : Int) < (Na + Nb)) -> (Q ((0 : Int), (0 : Int), ([] : LI), (0 : Int), ([] : LL), (4 : Int)))) /\ (¬ ((64 : Int) < (Na + Nb)) -> (∃ (I52 : LL -> Int -> Prop) (μ53 : LL -> Int -> Nat), I52 ([] : LL) (0 : Int) /\ ∀ (x46 : LL) (z51 : Int), (I52 x46 z51 -> (((z51 < (a.length : Int)) -> ((0 <= z51 /\ z51 < (a.length : Nat)) /\ ((0 <= Nb /\ Nb * 8 <= 281474976710656 /\ Nb <= 281474976710656) /\ (Zc ([(gl a z51), List.replicate Nb.toNat (0 : Int)] : LL) (fun x65 => (((x46.length : Nat) + (1 : Nat) : Int) * 24 <= 140737488355328) /\ ((I64 (z51 + 1)) /\ (I52 (x46 ++ [x65]) (z51 + 1) /\ μ53 (x46 ++ [x65]) (z51 + 1) < μ53 x46 z51))))))) /\ (¬ (z51 < (a.length : Int)) -> (∃ (I92 : LL -> Int -> Prop) (μ93 : LL -> Int -> Nat), I92 x46 (0 : Int) /\ ∀ (x87 : LL) (z91 : Int), (I92 x87 z91 -> (((z91 < (b.length : Int)) -> ((0 <= z91 /\ z91 < (b.length : Nat)) /\ ((0 <= Na /\ Na * 8 <= 281474976710656 /\ Na <= 281474976710656) /\ (Zc ([List.replicate Na.toNat (0 : Int), (gl b z91)] : LL) (fun x105 => (((x87.length : Nat) + (1 : Nat) : Int) * 24 <= 140737488355328) /\ ((I64 (z91 + 1)) /\ (I92 (x87 ++ [x105]) (z91 + 1) /\ μ93 (x87 ++ [x105]) (z91 + 1) < μ93 x87 z91))))))) /\ (¬ (z91 < (b.length : Int)) -> ((I64 (Na + Nb)) /\ (Yv Pa Ma ma (Na + Nb) x87 (fun (r119, r120, x121, c122, x123, r124) => Q (r119, r120, x121, c122, x123, r124))))))))))))))))))))
theorem Jwd {w : World} {Q : Int × Int × LI × Int × LL × Int -> Prop} {Pa : Int} {Ma : Int} {ma : LI} {Na : Int} {a : LL} {Pb : Int} {Mb : Int} {mb : LI} {Nb : Int} {b : LL} {Baf : Nat} {Aaf : Option Addr} {naf kaf : Nat} (haf : Rd Baf w 1 Aaf naf kaf (is ma)) {Aa : Option Addr} {na ka : Nat} (ha : Rl w Aa na ka a) {Bbf : Nat} {Abf : Option Addr} {nbf kbf : Nat} (hbf : Rd Bbf w 1 Abf nbf kbf (is mb)) {Ab : Option Addr} {nb kb : Nat} (hb : Rl w Ab nb kb b) (hv : Jhp Pa Ma ma Na a Pb Mb mb Nb b Q) :
   Calls Tryz.prog 5 #[.agg #[.int .i64 Pa, .int .i64 Ma, .slice Aaf naf kaf, .int .i64 Na, .slice Aa na ka], .agg #[.int .i64 Pb, .int .i64 Mb, .slice Abf nbf kbf, .int .i64 Nb, .slice Ab nb kb]] w <| Rt w fun v Qr => ∃ (p0 : Int) (m0 : Int) (f0 : LI) (c0 : Int) (r0 : LL) (r1 : Int) (A0f : Option Addr) (k0f : Nat) (A0 : Option Addr) (k0 : Nat) (hs0 : Hs), v = .tuple #[.agg #[.int .i64 p0, .int .i64 m0, .slice A0f f0.length k0f, .int .i64 c0, .slice A0 r0.length k0], .int .i64 r1] /\ Qr = [.row 3 1 A0f f0.length k0f (is f0), mx 22 3 A0 r0.length k0 hs0 r0] /\ Q (p0, m0, f0, c0, r0, r1) := by
 have hnaf := haf.ilen; subst hnaf; have hna := ha.len; subst hna; obtain ⟨hsa, hHa⟩ := ha.heads; have hnbf := hbf.ilen; subst hnbf; have hnb := hb.len; subst hnb; obtain ⟨hsb, hHb⟩ := hb.heads; refine Jj <| Qa (vs := [.agg #[nI Pa, nI Ma, nS Aaf ma kaf, nI Na, nS Aa a ka], .agg #[nI Pb, nI Mb, nS Abf mb kbf, nI Nb, nS Ab b kb]]) [.cell 4 27, .tmp 5] XF5 rfl rfl rfl rfl ?_; have hS := Jo w; unfold Jhp at hv; refine Jd 2 <| JA (z := 5) (cs := [nI Pa, nI Ma, nS Aaf ma kaf, nI Na, nS Aa a ka]) hS rfl rfl rfl rfl ?_; intro g11 w12 hS; refine JA (z := 5) (cs := [nI Pb, nI Mb, nS Abf mb kbf, nI Nb, nS Ab b kb]) hS rfl rfl rfl rfl ?_; intro g13 w14 hS; refine SL.alloc (cs := [nI 0, nI 0, .slice none 0 0, nI 0, .slice none 0 0]) hS JL rfl rfl ?_; intro g15 w16 hS; refine Jb 2 <| Jd 3 <| JD 2 JL Qg hS rfl ⟨rfl, rfl⟩ rfl <| JD 1 JL Qg hS rfl ⟨rfl, rfl⟩ rfl <| Jby (cells := [nI Pa, nI Ma, nS Aaf ma kaf, nI Na, nS Aa a ka, nI Pb, nI Mb, nS Abf mb kbf, nI Nb, nS Ab b kb]) hS Jjs JL rfl ⟨_, rfl, by kernel_rfl⟩ rfl rfl ?_; intro A17 w18 hS; refine SL.call hS (Jfp (Rc.two (a := (Pa, Ma, ma, Na, a)) (b := (Pb, Mb, mb, Nb, b)) (Ha := ((Aaf, kaf), (Aa, ka), hsa)) (Hb := ((Abf, kbf), (Ab, kb), hsb)) (hS.rd (i := 0) rfl) ⟨⟨_, (QG (hS.ro haf))⟩, (RlH.ext hHa hS.ext)⟩ ⟨⟨_, (QG (hS.ro hbf))⟩, (RlH.ext hHb hS.ext)⟩) hv) XF11 rfl XN11 rfl rfl ?_; rintro _ _ w20 ⟨r21, rfl, rfl, hv⟩ hGw20 hS; have hS := hS.n0; refine Jb 2 <| Jd 5 <| Jf rfl (fun c22 => ?_) (fun c22 => ?_)
 .have hv := hv.1 (oT c22); refine Jd 2 <| JS (cells := #[nI 0, nI 0, .slice none 0 0, nI 0, .slice none 0 0]) Jau rfl rfl rfl <| Jn rfl rfl <| Jz (cs := [nI 0, nI 0, .slice none 0 0, nI 0, .slice none 0 0]) 1 hS rfl JL rfl rfl rfl rfl rfl ?_; intro w23 hS; refine Jb 2 <| W.ret ?_; have hS := hS.nil (e := 3) (z := 1); have hS := hS.mxNil 22 3; have hm4 := hS.mxlen (i := 0) rfl; have hS := hS.relenMx (i := 0) rfl hm4.symm
  change St _ _ _ _ [_, _, _, _, _, _] at hS
  repeat with_reducible first | refine blk.ret ?_ | refine exits.retI ?_
  refine endC.mk ⟨[.agg #[nI 0, nI 0, .slice none 0 0, nI 0, .slice none 0 0], nI r21], ⟨_, _, _, rfl, rfl, JC (cs := [nI 0, nI 0, .slice none 0 0, nI 0, .slice none 0 0]) JL Qg rfl (Jy (hS.own (i := 3) rfl)), ⟨_, _, rfl, rfl, rfl⟩⟩, ?_⟩; exact ⟨_, hS.ext, (hS.pick [1, 0] rfl).rows, J4 (hS.pick [1, 0] rfl).rows rfl, ⟨(0 : Int), (0 : Int), ([] : LI), (0 : Int), ([] : LL), r21, none, 0, none, 0, (fun _ => (none, 0)), (by (try unfold nS); first | (rw [show (Value.slice none 0 0) = Value.slice none (([] : LL)).length 0 from sm0 hm4.symm]; done) | (rw [show (Value.slice none 0 0) = Value.slice none (([] : LL)).length 0 from sm0 hm4.symm]; rfl)), rfl, hv⟩⟩
 have hv := hv.2 (oF c22); refine Jl <| Jd 3 <| Jc (off := 0) QP rfl rfl <| J5 (cs := [nI Pa, nI Ma, nS Aaf ma kaf]) J0 J3 rfl rfl (QQ (hS.rd (i := 3) rfl) 0 rfl) rfl <| Jc (off := 0) QP rfl rfl <| J5 (cs := [nI Pb, nI Mb, nS Abf mb kbf]) J0 J3 rfl rfl (QQ (hS.rd (i := 2) rfl) 0 rfl) rfl <| SL.call hS (Jmu (hS.ro haf) (hS.ro hbf) hv) XF12 rfl XN12 rfl rfl ?_; rintro _ _ w25 ⟨r26, rfl, rfl, hv⟩ hGw25 hS; have hS := hS.n0; refine Jb 2 <| Jf rfl (fun c27 => ?_) (fun c27 => ?_)
 .have hv := hv.1 (c27); refine Jd 2 <| JS (cells := #[nI 0, nI 0, .slice none 0 0, nI 0, .slice none 0 0]) Jau rfl rfl rfl <| Jz (cs := [nI 0, nI 0, .slice none 0 0, nI 0, .slice none 0 0]) 1 hS rfl JL rfl rfl rfl rfl rfl ?_; intro w28 hS; refine Jb 2 <| W.ret ?_; have hS := hS.nil (e := 3) (z := 1); have hS := hS.mxNil 22 3; have hm4 := hS.mxlen (i := 0) rfl; have hS := hS.relenMx (i := 0) rfl hm4.symm
  change St _ _ _ _ [_, _, _, _, _, _] at hS
  repeat with_reducible first | refine blk.ret ?_ | refine exits.retI ?_
  refine endC.mk ⟨[.agg #[nI 0, nI 0, .slice none 0 0, nI 0, .slice none 0 0], nI 10], ⟨_, _, _, rfl, rfl, JC (cs := [nI 0, nI 0, .slice none 0 0, nI 0, .slice none 0 0]) JL Qg rfl (Jy (hS.own (i := 3) rfl)), ⟨_, _, rfl, rfl, rfl⟩⟩, ?_⟩; exact ⟨_, hS.ext, (hS.pick [1, 0] rfl).rows, J4 (hS.pick [1, 0] rfl).rows rfl, ⟨(0 : Int), (0 : Int), ([] : LI), (0 : Int), ([] : LL), (10 : Int), none, 0, none, 0, (fun _ => (none, 0)), (by (try unfold nS); first | (rw [show (Value.slice none 0 0) = Value.slice none (([] : LL)).length 0 from sm0 hm4.symm]; done) | (rw [show (Value.slice none 0 0) = Value.slice none (([] : LL)).length 0 from sm0 hm4.symm]; rfl)), rfl, hv⟩⟩
 have hv := hv.2 (c27); refine Jl <| Jd 3 <| Jc (off := 3) J6 rfl rfl <| Jg 3 3 XU3 hS rfl rfl rfl ⟨rfl, rfl⟩ <| Jc (off := 3) J6 rfl rfl <| Jg 2 3 XU3 hS rfl rfl rfl ⟨rfl, rfl⟩ ?_; obtain ⟨o30, hv⟩ := hv; refine WL.add (r := (Na + Nb)) rfl rfl (wr o30) rfl <| Jb 2 <| Jf rfl (fun c31 => ?_) (fun c31 => ?_)
 .have hv := hv.1 (oT c31); refine Jd 2 <| JS (cells := #[nI 0, nI 0, .slice none 0 0, nI 0, .slice none 0 0]) Jau rfl rfl rfl <| Jz (cs := [nI 0, nI 0, .slice none 0 0, nI 0, .slice none 0 0]) 1 hS rfl JL rfl rfl rfl rfl rfl ?_; intro w32 hS; refine Jb 2 <| W.ret ?_; have hS := hS.nil (e := 3) (z := 1); have hS := hS.mxNil 22 3; have hm4 := hS.mxlen (i := 0) rfl; have hS := hS.relenMx (i := 0) rfl hm4.symm
  change St _ _ _ _ [_, _, _, _, _, _] at hS
  repeat with_reducible first | refine blk.ret ?_ | refine exits.retI ?_
  refine endC.mk ⟨[.agg #[nI 0, nI 0, .slice none 0 0, nI 0, .slice none 0 0], nI 4], ⟨_, _, _, rfl, rfl, JC (cs := [nI 0, nI 0, .slice none 0 0, nI 0, .slice none 0 0]) JL Qg rfl (Jy (hS.own (i := 3) rfl)), ⟨_, _, rfl, rfl, rfl⟩⟩, ?_⟩; exact ⟨_, hS.ext, (hS.pick [1, 0] rfl).rows, J4 (hS.pick [1, 0] rfl).rows rfl, ⟨(0 : Int), (0 : Int), ([] : LI), (0 : Int), ([] : LL), (4 : Int), none, 0, none, 0, (fun _ => (none, 0)), (by (try unfold nS); first | (rw [show (Value.slice none 0 0) = Value.slice none (([] : LL)).length 0 from sm0 hm4.symm]; done) | (rw [show (Value.slice none 0 0) = Value.slice none (([] : LL)).length 0 from sm0 hm4.symm]; rfl)), rfl, hv⟩⟩
 have hv := hv.2 (oF c31); refine Jl <| Jd 7 <| Jc (off := 4) QB rfl rfl <| Jg 3 4 Jr hS rfl rfl rfl ⟨rfl, rfl⟩ <| WL.len Jr rfl rfl <| Jb 2 <| W.block ?_; obtain ⟨I52, μ53, hv, hk134⟩ := hv; have hS := hS.mxNil 22 3; have hm0 : 0 = ([] : LL).length := (hS.mxlen (i := 0) rfl).symm; have hS := hS.relenMx (i := 0) rfl hm0
 change St _ _ _ _ [_, _, _, _, _] at hS
 refine JB (σ := LL × Int × Option Addr × Nat × Hs) (fun q w1 => match q with | (x46, z51, A47, k48, hs49) => I52 x46 z51 /\ St TT w none w1 [mx 22 3 A47 x46.length k48 hs49 x46, .row 27 5 A17 2 2 [nI Pa, nI Ma, nS Aaf ma kaf, nI Na, nS Aa a ka, nI Pb, nI Mb, nS Abf mb kbf, nI Nb, nS Ab b kb], .row 27 5 (nA g15) 1 1 [nI 0, nI 0, .slice none 0 0, nI 0, .slice none 0 0], .row 27 5 (nA g13) 1 1 [nI Pb, nI Mb, nS Abf mb kbf, nI Nb, nS Ab b kb], .row 27 5 (nA g11) 1 1 [nI Pa, nI Ma, nS Aaf ma kaf, nI Na, nS Aa a ka]]) (fun (x46, z51, A47, k48, hs49) => [(2, nP g11), (3, nP g13), (4, nP g15), (5, nI 0), (7, nS A47 x46 k48), (35, nS Aa a ka), (36, nI (a.length : Int)), (37, nI z51)]) (fun (x46, z51, A47, k48, hs49) => μ53 x46 z51) (([] : LL), (0 : Int), none, 0, (fun _ => (none, 0))) ⟨hv, hS⟩ ⟨rfl, rfl, rfl, rfl, (sm (by first | rfl | assumption | omega)), rfl, rfl, rfl, trivial⟩ ?_; rintro ⟨x46, z51, A47, k48, hs49⟩ w54 ⟨hv, hS⟩; have hv := hk134 x46 z51 hv; refine Jd 5 <| Jf rfl (fun c55 => ?_) (fun c55 => ?_)
 .have hv := hv.1 (oT c55); refine Jl <| Ju <| W.block <| Jd 2 ?_; obtain ⟨o56, hv⟩ := hv; refine JT Jr Jt hHa rfl rfl o56 rfl <| Jk Jp rfl rfl (hS.cell (RlH.cell hHa o56)) rfl <| Jb 2 <| Jd 3 <| Jc (off := 3) J6 rfl rfl <| Jg 3 3 XU3 hS rfl rfl rfl ⟨rfl, rfl⟩ ?_; obtain ⟨o57, hv⟩ := hv; refine QN (J := Nb) hS Jp XE3 rfl rfl o57 (QA _) rfl ?_; intro A58 w59 hS; refine JV (vs := [.slice ((hsa z51.toNat).1) ((gl a z51).length) ((hsa z51.toNat).2), .slice A58 Nb.toNat Nb.toNat]) hS Jr Jt rfl rfl rfl rfl (by simp [Value.oneCell']) rfl ?_; intro A61 w62 hS; refine SL.call hS (ZW (⟨_, _, (hS.rd (i := 0) rfl), ⟨⟨_, _, _, rfl, (QG (hS.ro (Qb hHa o56)))⟩, ⟨_, _, _, (sm0 (hS.rd (i := 1) rfl).ilen.symm), (QG (hS.rd (i := 1) rfl))⟩, trivial⟩⟩ : Rl _ _ _ _ ([(gl a z51), List.replicate Nb.toNat (0 : Int)] : LL)) hv) XF13 rfl XN13 rfl rfl ?_; rintro _ _ w64 ⟨x65, A66, k67, rfl, rfl, hv⟩ hGw64 hS; have hS := hS.n1; refine JV (vs := [nS A66 x65 k67]) hS Jr Jt rfl rfl rfl rfl (by simp [Value.oneCell']) rfl ?_; intro A69 w70 hS; obtain ⟨o72, hv⟩ := hv; have hS := hS.pick [4, 0, 1, 2, 3, 5, 6, 7, 8] rfl; have hS := hS.pick [1, 2, 0, 3, 4, 5, 6, 7, 8] rfl; have hS := Qi (hS.rd (i := 1) rfl).ilen.symm hS
  change St _ _ _ _ [_, _, _, _, _, _, _, _] at hS
  refine JU hS Jr Jt rfl rfl (apk o72).1 (apk o72).2 rfl ?_; intro A73 k74 w75 hS; refine Jb 2 <| Jv ?_; obtain ⟨o76, hv⟩ := hv; refine WL.add (r := (z51 + 1)) rfl rfl (wr o76) rfl <| Jb 2 ?_; have hS := hS.pick [0, 3, 4, 5, 6] rfl; exact ⟨(x46 ++ [x65], (z51 + 1), A73, k74, (Yh x46.length hs49 (fun _ => (A66, k67)))), sp rfl, hv.2, rfl, hv.1, hS⟩
 have hv := hv.2 (oF c55); refine Jw <| Jd 3 <| Jc (off := 4) QB rfl rfl <| Jg 3 4 Jr hS rfl rfl rfl ⟨rfl, rfl⟩ <| WL.len Jr rfl rfl <| Jb 2 <| W.block ?_; obtain ⟨I92, μ93, hv, hk133⟩ := hv; refine JB (σ := LL × Int × Option Addr × Nat × Hs) (fun q w1 => match q with | (x87, z91, A88, k89, hs90) => I92 x87 z91 /\ St TT w none w1 [mx 22 3 A88 x87.length k89 hs90 x87, .row 27 5 A17 2 2 [nI Pa, nI Ma, nS Aaf ma kaf, nI Na, nS Aa a ka, nI Pb, nI Mb, nS Abf mb kbf, nI Nb, nS Ab b kb], .row 27 5 (nA g15) 1 1 [nI 0, nI 0, .slice none 0 0, nI 0, .slice none 0 0], .row 27 5 (nA g13) 1 1 [nI Pb, nI Mb, nS Abf mb kbf, nI Nb, nS Ab b kb], .row 27 5 (nA g11) 1 1 [nI Pa, nI Ma, nS Aaf ma kaf, nI Na, nS Aa a ka]]) (fun (x87, z91, A88, k89, hs90) => [(2, nP g11), (3, nP g13), (4, nP g15), (5, nI 0), (7, nS A88 x87 k89), (52, nS Ab b kb), (53, nI (b.length : Int)), (54, nI z91)]) (fun (x87, z91, A88, k89, hs90) => μ93 x87 z91) (x46, (0 : Int), A47, k48, hs49) ⟨hv, hS⟩ ⟨rfl, rfl, rfl, rfl, rfl, rfl, rfl, rfl, trivial⟩ ?_; rintro ⟨x87, z91, A88, k89, hs90⟩ w94 ⟨hv, hS⟩; have hv := hk133 x87 z91 hv; refine Jd 5 <| Jf rfl (fun c95 => ?_) (fun c95 => ?_)
 .have hv := hv.1 (oT c95); refine Jl <| Ju <| W.block <| Jd 2 ?_; obtain ⟨o96, hv⟩ := hv; refine JT Jr Jt hHb rfl rfl o96 rfl <| Jk Jp rfl rfl (hS.cell (RlH.cell hHb o96)) rfl <| Jb 2 <| Jd 2 <| Jc (off := 3) J6 rfl rfl <| Jg 4 3 XU3 hS rfl rfl rfl ⟨rfl, rfl⟩ ?_; obtain ⟨o97, hv⟩ := hv; refine QN (J := Na) hS Jp XE3 rfl rfl o97 (QA _) rfl ?_; intro A98 w99 hS; refine Jn rfl rfl <| JV (vs := [.slice A98 Na.toNat Na.toNat, .slice ((hsb z91.toNat).1) ((gl b z91).length) ((hsb z91.toNat).2)]) hS Jr Jt rfl rfl rfl rfl (by simp [Value.oneCell']) rfl ?_; intro A101 w102 hS; refine SL.call hS (ZW (⟨_, _, (hS.rd (i := 0) rfl), ⟨⟨_, _, _, (sm0 (hS.rd (i := 1) rfl).ilen.symm), (QG (hS.rd (i := 1) rfl))⟩, ⟨_, _, _, rfl, (QG (hS.ro (Qb hHb o96)))⟩, trivial⟩⟩ : Rl _ _ _ _ ([List.replicate Na.toNat (0 : Int), (gl b z91)] : LL)) hv) XF13 rfl XN13 rfl rfl ?_; rintro _ _ w104 ⟨x105, A106, k107, rfl, rfl, hv⟩ hGw104 hS; have hS := hS.n1; refine JV (vs := [nS A106 x105 k107]) hS Jr Jt rfl rfl rfl rfl (by simp [Value.oneCell']) rfl ?_; intro A109 w110 hS; obtain ⟨o112, hv⟩ := hv; have hS := hS.pick [4, 0, 1, 2, 3, 5, 6, 7, 8] rfl; have hS := hS.pick [1, 2, 0, 3, 4, 5, 6, 7, 8] rfl; have hS := Qi (hS.rd (i := 1) rfl).ilen.symm hS
  change St _ _ _ _ [_, _, _, _, _, _, _, _] at hS
  refine JU hS Jr Jt rfl rfl (apk o112).1 (apk o112).2 rfl ?_; intro A113 k114 w115 hS; refine Jb 2 <| Jv ?_; obtain ⟨o116, hv⟩ := hv; refine WL.add (r := (z91 + 1)) rfl rfl (wr o116) rfl <| Jb 2 ?_; have hS := hS.pick [0, 3, 4, 5, 6] rfl; exact ⟨(x87 ++ [x105], (z91 + 1), A113, k114, (Yh x87.length hs90 (fun _ => (A106, k107)))), sp rfl, hv.2, rfl, hv.1, hS⟩
 have hv := hv.2 (oF c95); refine Jw <| Jd 2 <| Jc (off := 0) QP rfl rfl <| J5 (cs := [nI Pa, nI Ma, nS Aaf ma kaf]) J0 J3 rfl rfl (QQ (hS.rd (i := 4) rfl) 0 rfl) rfl <| Jc (off := 3) J6 rfl rfl <| Jg 4 3 XU3 hS rfl rfl rfl ⟨rfl, rfl⟩ <| Jc (off := 3) J6 rfl rfl <| Jg 3 3 XU3 hS rfl rfl rfl ⟨rfl, rfl⟩ ?_; obtain ⟨o117, hv⟩ := hv; refine WL.add (r := (Na + Nb)) rfl rfl (wr o117) rfl <| Jn rfl rfl <| SL.call hS (Jbd (hS.ro haf) (hS.rl (i := 0) rfl) hv) XF14 rfl XN14 rfl rfl ?_; rintro _ _ w118 ⟨r119, r120, x121, c122, x123, r124, A125, k126, A128, k129, hs130, rfl, rfl, hv⟩ hGw118 hS; have hS := hS.n2; refine Jb 2 <| Jz (cs := [nI r119, nI r120, nS A125 x121 k126, nI c122, nS A128 x123 k129]) 4 hS rfl JL rfl rfl rfl rfl rfl ?_; intro w132 hS; refine Jb 2 <| W.ret ?_; have hS := hS.pick [1, 0, 2, 3, 4, 5, 6] rfl
 change St _ _ _ _ [_, _, _, _, _, _, _] at hS
 repeat with_reducible first | refine blk.ret ?_ | refine exits.retI ?_
 refine endC.mk ⟨[.agg #[nI r119, nI r120, nS A125 x121 k126, nI c122, nS A128 x123 k129], nI r124], ⟨_, _, _, rfl, rfl, JC (cs := [nI r119, nI r120, nS A125 x121 k126, nI c122, nS A128 x123 k129]) JL Qg rfl (Jy (hS.own (i := 4) rfl)), ⟨_, _, rfl, rfl, rfl⟩⟩, ?_⟩; exact (hS.pick [1, 0] rfl).fin rfl ⟨r119, r120, x121, c122, x123, r124, A125, k126, A128, k129, hs130, rfl, rfl, hv⟩
end Go.Proofs.YtgjloioccgcceaaGreat
namespace Go.Proofs.YtgjloioccgcceaaGreat
open Go.RowKit
def Jab (Pa : Int) (Ma : Int) (ma : LI) (Na : Int) (a : LL) (Pb : Int) (Mb : Int) (mb : LI) (Nb : Int) (b : LL) (Q : Int × Int × LI × Int × LL × Int -> Prop) : Prop :=
  Zb ([(Pa, Ma, ma, Na, a), (Pb, Mb, mb, Nb, b)] : List Ct) (fun r21 => ((r21 ≠ 0) -> (Q ((0 : Int), (0 : Int), ([] : LI), (0 : Int), ([] : LL), r21))) /\ (¬ (r21 ≠ 0) -> (Jcj Pa Ma ma Pb Mb mb (fun r26 => (((!r26) = true) -> (Q ((0 : Int), (0 : Int), ([] : LI), (0 : Int), ([] : LL), (10 : Int)))) /\ ((!r26) = false -> (((Na ≠ Nb) -> (Q ((0 : Int), (0 : Int), ([] : LI), (0 : Int), ([] : LL), (10 : Int)))) /\ (¬ (Na ≠ Nb) -> ((I64 (Na + Nb)) /\ ((((64 : Int) < (Na + Nb)) -> (Q ((0 : Int), (0 : Int), ([] : LI), (0 : Int), ([] : LL), (4 : Int)))) /\ (¬ ((64 : Int) < (Na + Nb)) -> (∃ (I55 : LL -> Int -> Prop) (μ56 : LL -> Int -> Nat), I55 ([] : LL) (0 : Int) /\ ∀ (x49 : LL) (z54 : Int), (I55 x49 z54 -> (((z54 < (a.length : Int)) -> ((0 <= z54 /\ z54 < (a.length : Nat)) /\ (Zc ([(gl a z54), (gl a z54)] : LL) (fun x64 => (((x49.length : Nat) + (1 : Nat) : Int) * 24 <= 140737488355328) /\ ((I64 (z54 + 1)) /\ (I55 (x49 ++ [x64]) (z54 + 1) /\ μ56 (x49 ++ [x64]) (z54 + 1) < μ56 x49 z54)))))) /\ (¬ (z54 < (a.length : Int)) -> (∃ (I91 : LL -> Int -> Prop) (μ92 : LL -> Int -> Nat), I91 x49 (0 : Int) /\ ∀ (x86 : LL) (z90 : Int), (I91 x86 z90 -> (((z90 < (b.length : Int)) -> ((0 <= z90 /\ z90 < (b.length : Nat)) /\ ((0 <= Na /\ Na * 8 <= 281474976710656 /\ Na <= 281474976710656) /\ (Zc ([List.replicate Na.toNat (0 : Int), (gl b z90)] : LL) (fun x104 => (((x86.length : Nat) + (1 : Nat) : Int) * 24 <= 140737488355328) /\ ((I64 (z90 + 1)) /\ (I91 (x86 ++ [x104]) (z90 + 1) /\ μ92 (x86 ++ [x104]) (z90 + 1) < μ92 x86 z90))))))) /\ (¬ (z90 < (b.length : Int)) -> ((I64 (Na + Nb)) /\ (Yv Pa Ma ma (Na + Nb) x86 (fun (r118, r119, x120, c121, x122, r123) => Q (r118, r119, x120, c121, x122, r123))))))))))))))))))))))
theorem Jkt {w : World} {Q : Int × Int × LI × Int × LL × Int -> Prop} {Pa : Int} {Ma : Int} {ma : LI} {Na : Int} {a : LL} {Pb : Int} {Mb : Int} {mb : LI} {Nb : Int} {b : LL} {Baf : Nat} {Aaf : Option Addr} {naf kaf : Nat} (haf : Rd Baf w 1 Aaf naf kaf (is ma)) {Aa : Option Addr} {na ka : Nat} (ha : Rl w Aa na ka a) {Bbf : Nat} {Abf : Option Addr} {nbf kbf : Nat} (hbf : Rd Bbf w 1 Abf nbf kbf (is mb)) {Ab : Option Addr} {nb kb : Nat} (hb : Rl w Ab nb kb b) (hv : Jab Pa Ma ma Na a Pb Mb mb Nb b Q) :
   Calls Tryz.prog 7 #[.agg #[.int .i64 Pa, .int .i64 Ma, .slice Aaf naf kaf, .int .i64 Na, .slice Aa na ka], .agg #[.int .i64 Pb, .int .i64 Mb, .slice Abf nbf kbf, .int .i64 Nb, .slice Ab nb kb]] w <| Rt w fun v Qr => ∃ (p0 : Int) (m0 : Int) (f0 : LI) (c0 : Int) (r0 : LL) (r1 : Int) (A0f : Option Addr) (k0f : Nat) (A0 : Option Addr) (k0 : Nat) (hs0 : Hs), v = .tuple #[.agg #[.int .i64 p0, .int .i64 m0, .slice A0f f0.length k0f, .int .i64 c0, .slice A0 r0.length k0], .int .i64 r1] /\ Qr = [.row 3 1 A0f f0.length k0f (is f0), mx 22 3 A0 r0.length k0 hs0 r0] /\ Q (p0, m0, f0, c0, r0, r1) := by
 have hnaf := haf.ilen; subst hnaf; have hna := ha.len; subst hna; obtain ⟨hsa, hHa⟩ := ha.heads; have hnbf := hbf.ilen; subst hnbf; have hnb := hb.len; subst hnb; obtain ⟨hsb, hHb⟩ := hb.heads; refine Jj <| Qa (vs := [.agg #[nI Pa, nI Ma, nS Aaf ma kaf, nI Na, nS Aa a ka], .agg #[nI Pb, nI Mb, nS Abf mb kbf, nI Nb, nS Ab b kb]]) [.cell 4 27, .tmp 5] XF7 rfl rfl rfl rfl ?_; have hS := Jo w; unfold Jab at hv; refine Jd 2 <| JA (z := 5) (cs := [nI Pa, nI Ma, nS Aaf ma kaf, nI Na, nS Aa a ka]) hS rfl rfl rfl rfl ?_; intro g11 w12 hS; refine JA (z := 5) (cs := [nI Pb, nI Mb, nS Abf mb kbf, nI Nb, nS Ab b kb]) hS rfl rfl rfl rfl ?_; intro g13 w14 hS; refine SL.alloc (cs := [nI 0, nI 0, .slice none 0 0, nI 0, .slice none 0 0]) hS JL rfl rfl ?_; intro g15 w16 hS; refine Jb 2 <| Jd 3 <| JD 2 JL Qg hS rfl ⟨rfl, rfl⟩ rfl <| JD 1 JL Qg hS rfl ⟨rfl, rfl⟩ rfl <| Jby (cells := [nI Pa, nI Ma, nS Aaf ma kaf, nI Na, nS Aa a ka, nI Pb, nI Mb, nS Abf mb kbf, nI Nb, nS Ab b kb]) hS Jjs JL rfl ⟨_, rfl, by kernel_rfl⟩ rfl rfl ?_; intro A17 w18 hS; refine SL.call hS (Jfp (Rc.two (a := (Pa, Ma, ma, Na, a)) (b := (Pb, Mb, mb, Nb, b)) (Ha := ((Aaf, kaf), (Aa, ka), hsa)) (Hb := ((Abf, kbf), (Ab, kb), hsb)) (hS.rd (i := 0) rfl) ⟨⟨_, (QG (hS.ro haf))⟩, (RlH.ext hHa hS.ext)⟩ ⟨⟨_, (QG (hS.ro hbf))⟩, (RlH.ext hHb hS.ext)⟩) hv) XF11 rfl XN11 rfl rfl ?_; rintro _ _ w20 ⟨r21, rfl, rfl, hv⟩ hGw20 hS; have hS := hS.n0; refine Jb 2 <| Jd 5 <| Jf rfl (fun c22 => ?_) (fun c22 => ?_)
 .have hv := hv.1 (oT c22); refine Jd 2 <| JS (cells := #[nI 0, nI 0, .slice none 0 0, nI 0, .slice none 0 0]) Jau rfl rfl rfl <| Jn rfl rfl <| Jz (cs := [nI 0, nI 0, .slice none 0 0, nI 0, .slice none 0 0]) 1 hS rfl JL rfl rfl rfl rfl rfl ?_; intro w23 hS; refine Jb 2 <| W.ret ?_; have hS := hS.nil (e := 3) (z := 1); have hS := hS.mxNil 22 3; have hm4 := hS.mxlen (i := 0) rfl; have hS := hS.relenMx (i := 0) rfl hm4.symm
  change St _ _ _ _ [_, _, _, _, _, _] at hS
  repeat with_reducible first | refine blk.ret ?_ | refine exits.retI ?_
  refine endC.mk ⟨[.agg #[nI 0, nI 0, .slice none 0 0, nI 0, .slice none 0 0], nI r21], ⟨_, _, _, rfl, rfl, JC (cs := [nI 0, nI 0, .slice none 0 0, nI 0, .slice none 0 0]) JL Qg rfl (Jy (hS.own (i := 3) rfl)), ⟨_, _, rfl, rfl, rfl⟩⟩, ?_⟩; exact ⟨_, hS.ext, (hS.pick [1, 0] rfl).rows, J4 (hS.pick [1, 0] rfl).rows rfl, ⟨(0 : Int), (0 : Int), ([] : LI), (0 : Int), ([] : LL), r21, none, 0, none, 0, (fun _ => (none, 0)), (by (try unfold nS); first | (rw [show (Value.slice none 0 0) = Value.slice none (([] : LL)).length 0 from sm0 hm4.symm]; done) | (rw [show (Value.slice none 0 0) = Value.slice none (([] : LL)).length 0 from sm0 hm4.symm]; rfl)), rfl, hv⟩⟩
 have hv := hv.2 (oF c22); refine Jl <| Jd 3 <| Jc (off := 0) QP rfl rfl <| J5 (cs := [nI Pa, nI Ma, nS Aaf ma kaf]) J0 J3 rfl rfl (QQ (hS.rd (i := 3) rfl) 0 rfl) rfl <| Jc (off := 0) QP rfl rfl <| J5 (cs := [nI Pb, nI Mb, nS Abf mb kbf]) J0 J3 rfl rfl (QQ (hS.rd (i := 2) rfl) 0 rfl) rfl <| SL.call hS (Jmu (hS.ro haf) (hS.ro hbf) hv) XF12 rfl XN12 rfl rfl ?_; rintro _ _ w25 ⟨r26, rfl, rfl, hv⟩ hGw25 hS; have hS := hS.n0; refine Jaw rfl rfl <| Jn rfl rfl ?_; rcases g27 : (!r26) with _ | _
 .have hv := hv.2 g27; refine WL.take rfl <| Jc (off := 3) J6 rfl rfl <| WL.take rfl <| Jg 3 3 XU3 hS rfl rfl rfl ⟨rfl, rfl⟩ <| WL.take rfl <| Jc (off := 3) J6 rfl rfl <| WL.take rfl <| Jg 2 3 XU3 hS rfl rfl rfl ⟨rfl, rfl⟩ <| Jb 4 <| Jf rfl (fun c30 => ?_) (fun c30 => ?_)
  .have hv := hv.1 (oT c30); refine Jd 2 <| JS (cells := #[nI 0, nI 0, .slice none 0 0, nI 0, .slice none 0 0]) Jau rfl rfl rfl <| Jz (cs := [nI 0, nI 0, .slice none 0 0, nI 0, .slice none 0 0]) 1 hS rfl JL rfl rfl rfl rfl rfl ?_; intro w31 hS; refine Jb 2 <| W.ret ?_; have hS := hS.nil (e := 3) (z := 1); have hS := hS.mxNil 22 3; have hm4 := hS.mxlen (i := 0) rfl; have hS := hS.relenMx (i := 0) rfl hm4.symm
   change St _ _ _ _ [_, _, _, _, _, _] at hS
   repeat with_reducible first | refine blk.ret ?_ | refine exits.retI ?_
   refine endC.mk ⟨[.agg #[nI 0, nI 0, .slice none 0 0, nI 0, .slice none 0 0], nI 10], ⟨_, _, _, rfl, rfl, JC (cs := [nI 0, nI 0, .slice none 0 0, nI 0, .slice none 0 0]) JL Qg rfl (Jy (hS.own (i := 3) rfl)), ⟨_, _, rfl, rfl, rfl⟩⟩, ?_⟩; exact ⟨_, hS.ext, (hS.pick [1, 0] rfl).rows, J4 (hS.pick [1, 0] rfl).rows rfl, ⟨(0 : Int), (0 : Int), ([] : LI), (0 : Int), ([] : LL), (10 : Int), none, 0, none, 0, (fun _ => (none, 0)), (by (try unfold nS); first | (rw [show (Value.slice none 0 0) = Value.slice none (([] : LL)).length 0 from sm0 hm4.symm]; done) | (rw [show (Value.slice none 0 0) = Value.slice none (([] : LL)).length 0 from sm0 hm4.symm]; rfl)), rfl, hv⟩⟩
  have hv := hv.2 (oF c30); refine Jl <| Jd 3 <| Jc (off := 3) J6 rfl rfl <| Jg 3 3 XU3 hS rfl rfl rfl ⟨rfl, rfl⟩ <| Jc (off := 3) J6 rfl rfl <| Jg 2 3 XU3 hS rfl rfl rfl ⟨rfl, rfl⟩ ?_; obtain ⟨o33, hv⟩ := hv; refine WL.add (r := (Na + Nb)) rfl rfl (wr o33) rfl <| Jb 2 <| Jf rfl (fun c34 => ?_) (fun c34 => ?_)
  .have hv := hv.1 (oT c34); refine Jd 2 <| JS (cells := #[nI 0, nI 0, .slice none 0 0, nI 0, .slice none 0 0]) Jau rfl rfl rfl <| Jz (cs := [nI 0, nI 0, .slice none 0 0, nI 0, .slice none 0 0]) 1 hS rfl JL rfl rfl rfl rfl rfl ?_; intro w35 hS; refine Jb 2 <| W.ret ?_; have hS := hS.nil (e := 3) (z := 1); have hS := hS.mxNil 22 3; have hm4 := hS.mxlen (i := 0) rfl; have hS := hS.relenMx (i := 0) rfl hm4.symm
   change St _ _ _ _ [_, _, _, _, _, _] at hS
   repeat with_reducible first | refine blk.ret ?_ | refine exits.retI ?_
   refine endC.mk ⟨[.agg #[nI 0, nI 0, .slice none 0 0, nI 0, .slice none 0 0], nI 4], ⟨_, _, _, rfl, rfl, JC (cs := [nI 0, nI 0, .slice none 0 0, nI 0, .slice none 0 0]) JL Qg rfl (Jy (hS.own (i := 3) rfl)), ⟨_, _, rfl, rfl, rfl⟩⟩, ?_⟩; exact ⟨_, hS.ext, (hS.pick [1, 0] rfl).rows, J4 (hS.pick [1, 0] rfl).rows rfl, ⟨(0 : Int), (0 : Int), ([] : LI), (0 : Int), ([] : LL), (4 : Int), none, 0, none, 0, (fun _ => (none, 0)), (by (try unfold nS); first | (rw [show (Value.slice none 0 0) = Value.slice none (([] : LL)).length 0 from sm0 hm4.symm]; done) | (rw [show (Value.slice none 0 0) = Value.slice none (([] : LL)).length 0 from sm0 hm4.symm]; rfl)), rfl, hv⟩⟩
  have hv := hv.2 (oF c34); refine Jl <| Jd 7 <| Jc (off := 4) QB rfl rfl <| Jg 3 4 Jr hS rfl rfl rfl ⟨rfl, rfl⟩ <| WL.len Jr rfl rfl <| Jb 2 <| W.block ?_; obtain ⟨I55, μ56, hv, hk133⟩ := hv; have hS := hS.mxNil 22 3; have hm0 : 0 = ([] : LL).length := (hS.mxlen (i := 0) rfl).symm; have hS := hS.relenMx (i := 0) rfl hm0
  change St _ _ _ _ [_, _, _, _, _] at hS
  refine JB (σ := LL × Int × Option Addr × Nat × Hs) (fun q w1 => match q with | (x49, z54, A50, k51, hs52) => I55 x49 z54 /\ St TT w none w1 [mx 22 3 A50 x49.length k51 hs52 x49, .row 27 5 A17 2 2 [nI Pa, nI Ma, nS Aaf ma kaf, nI Na, nS Aa a ka, nI Pb, nI Mb, nS Abf mb kbf, nI Nb, nS Ab b kb], .row 27 5 (nA g15) 1 1 [nI 0, nI 0, .slice none 0 0, nI 0, .slice none 0 0], .row 27 5 (nA g13) 1 1 [nI Pb, nI Mb, nS Abf mb kbf, nI Nb, nS Ab b kb], .row 27 5 (nA g11) 1 1 [nI Pa, nI Ma, nS Aaf ma kaf, nI Na, nS Aa a ka]]) (fun (x49, z54, A50, k51, hs52) => [(2, nP g11), (3, nP g13), (4, nP g15), (5, nI 0), (7, nS A50 x49 k51), (42, nS Aa a ka), (43, nI (a.length : Int)), (44, nI z54)]) (fun (x49, z54, A50, k51, hs52) => μ56 x49 z54) (([] : LL), (0 : Int), none, 0, (fun _ => (none, 0))) ⟨hv, hS⟩ ⟨rfl, rfl, rfl, rfl, (sm (by first | rfl | assumption | omega)), rfl, rfl, rfl, trivial⟩ ?_; rintro ⟨x49, z54, A50, k51, hs52⟩ w57 ⟨hv, hS⟩; have hv := hk133 x49 z54 hv; refine Jd 5 <| Jf rfl (fun c58 => ?_) (fun c58 => ?_)
  .have hv := hv.1 (oT c58); refine Jl <| Ju <| W.block <| Jd 2 ?_; obtain ⟨o59, hv⟩ := hv; refine JT Jr Jt hHa rfl rfl o59 rfl <| Jk Jp rfl rfl (hS.cell (RlH.cell hHa o59)) rfl <| Jb 2 <| Jd 4 <| JV (vs := [.slice ((hsa z54.toNat).1) ((gl a z54).length) ((hsa z54.toNat).2), .slice ((hsa z54.toNat).1) ((gl a z54).length) ((hsa z54.toNat).2)]) hS Jr Jt rfl rfl rfl rfl (by simp [Value.oneCell']) rfl ?_; intro A60 w61 hS; refine SL.call hS (ZW (⟨_, _, (hS.rd (i := 0) rfl), ⟨⟨_, _, _, rfl, (QG (hS.ro (Qb hHa o59)))⟩, ⟨_, _, _, rfl, (QG (hS.ro (Qb hHa o59)))⟩, trivial⟩⟩ : Rl _ _ _ _ ([(gl a z54), (gl a z54)] : LL)) hv) XF13 rfl XN13 rfl rfl ?_; rintro _ _ w63 ⟨x64, A65, k66, rfl, rfl, hv⟩ hGw63 hS; have hS := hS.n1; refine JV (vs := [nS A65 x64 k66]) hS Jr Jt rfl rfl rfl rfl (by simp [Value.oneCell']) rfl ?_; intro A68 w69 hS; obtain ⟨o71, hv⟩ := hv; have hS := hS.pick [3, 0, 1, 2, 4, 5, 6, 7] rfl; have hS := hS.pick [1, 2, 0, 3, 4, 5, 6, 7] rfl; have hS := Qi (hS.rd (i := 1) rfl).ilen.symm hS
   change St _ _ _ _ [_, _, _, _, _, _, _] at hS
   refine JU hS Jr Jt rfl rfl (apk o71).1 (apk o71).2 rfl ?_; intro A72 k73 w74 hS; refine Jb 2 <| Jv ?_; obtain ⟨o75, hv⟩ := hv; refine WL.add (r := (z54 + 1)) rfl rfl (wr o75) rfl <| Jb 2 ?_; have hS := hS.pick [0, 2, 3, 4, 5] rfl; exact ⟨(x49 ++ [x64], (z54 + 1), A72, k73, (Yh x49.length hs52 (fun _ => (A65, k66)))), sp rfl, hv.2, rfl, hv.1, hS⟩
  have hv := hv.2 (oF c58); refine Jw <| Jd 3 <| Jc (off := 4) QB rfl rfl <| Jg 3 4 Jr hS rfl rfl rfl ⟨rfl, rfl⟩ <| WL.len Jr rfl rfl <| Jb 2 <| W.block ?_; obtain ⟨I91, μ92, hv, hk132⟩ := hv; refine JB (σ := LL × Int × Option Addr × Nat × Hs) (fun q w1 => match q with | (x86, z90, A87, k88, hs89) => I91 x86 z90 /\ St TT w none w1 [mx 22 3 A87 x86.length k88 hs89 x86, .row 27 5 A17 2 2 [nI Pa, nI Ma, nS Aaf ma kaf, nI Na, nS Aa a ka, nI Pb, nI Mb, nS Abf mb kbf, nI Nb, nS Ab b kb], .row 27 5 (nA g15) 1 1 [nI 0, nI 0, .slice none 0 0, nI 0, .slice none 0 0], .row 27 5 (nA g13) 1 1 [nI Pb, nI Mb, nS Abf mb kbf, nI Nb, nS Ab b kb], .row 27 5 (nA g11) 1 1 [nI Pa, nI Ma, nS Aaf ma kaf, nI Na, nS Aa a ka]]) (fun (x86, z90, A87, k88, hs89) => [(2, nP g11), (3, nP g13), (4, nP g15), (5, nI 0), (7, nS A87 x86 k88), (57, nS Ab b kb), (58, nI (b.length : Int)), (59, nI z90)]) (fun (x86, z90, A87, k88, hs89) => μ92 x86 z90) (x49, (0 : Int), A50, k51, hs52) ⟨hv, hS⟩ ⟨rfl, rfl, rfl, rfl, rfl, rfl, rfl, rfl, trivial⟩ ?_; rintro ⟨x86, z90, A87, k88, hs89⟩ w93 ⟨hv, hS⟩; have hv := hk132 x86 z90 hv; refine Jd 5 <| Jf rfl (fun c94 => ?_) (fun c94 => ?_)
  .have hv := hv.1 (oT c94); refine Jl <| Ju <| W.block <| Jd 2 ?_; obtain ⟨o95, hv⟩ := hv; refine JT Jr Jt hHb rfl rfl o95 rfl <| Jk Jp rfl rfl (hS.cell (RlH.cell hHb o95)) rfl <| Jb 2 <| Jd 2 <| Jc (off := 3) J6 rfl rfl <| Jg 4 3 XU3 hS rfl rfl rfl ⟨rfl, rfl⟩ ?_; obtain ⟨o96, hv⟩ := hv; refine QN (J := Na) hS Jp XE3 rfl rfl o96 (QA _) rfl ?_; intro A97 w98 hS; refine Jn rfl rfl <| JV (vs := [.slice A97 Na.toNat Na.toNat, .slice ((hsb z90.toNat).1) ((gl b z90).length) ((hsb z90.toNat).2)]) hS Jr Jt rfl rfl rfl rfl (by simp [Value.oneCell']) rfl ?_; intro A100 w101 hS; refine SL.call hS (ZW (⟨_, _, (hS.rd (i := 0) rfl), ⟨⟨_, _, _, (sm0 (hS.rd (i := 1) rfl).ilen.symm), (QG (hS.rd (i := 1) rfl))⟩, ⟨_, _, _, rfl, (QG (hS.ro (Qb hHb o95)))⟩, trivial⟩⟩ : Rl _ _ _ _ ([List.replicate Na.toNat (0 : Int), (gl b z90)] : LL)) hv) XF13 rfl XN13 rfl rfl ?_; rintro _ _ w103 ⟨x104, A105, k106, rfl, rfl, hv⟩ hGw103 hS; have hS := hS.n1; refine JV (vs := [nS A105 x104 k106]) hS Jr Jt rfl rfl rfl rfl (by simp [Value.oneCell']) rfl ?_; intro A108 w109 hS; obtain ⟨o111, hv⟩ := hv; have hS := hS.pick [4, 0, 1, 2, 3, 5, 6, 7, 8] rfl; have hS := hS.pick [1, 2, 0, 3, 4, 5, 6, 7, 8] rfl; have hS := Qi (hS.rd (i := 1) rfl).ilen.symm hS
   change St _ _ _ _ [_, _, _, _, _, _, _, _] at hS
   refine JU hS Jr Jt rfl rfl (apk o111).1 (apk o111).2 rfl ?_; intro A112 k113 w114 hS; refine Jb 2 <| Jv ?_; obtain ⟨o115, hv⟩ := hv; refine WL.add (r := (z90 + 1)) rfl rfl (wr o115) rfl <| Jb 2 ?_; have hS := hS.pick [0, 3, 4, 5, 6] rfl; exact ⟨(x86 ++ [x104], (z90 + 1), A112, k113, (Yh x86.length hs89 (fun _ => (A105, k106)))), sp rfl, hv.2, rfl, hv.1, hS⟩
  have hv := hv.2 (oF c94); refine Jw <| Jd 2 <| Jc (off := 0) QP rfl rfl <| J5 (cs := [nI Pa, nI Ma, nS Aaf ma kaf]) J0 J3 rfl rfl (QQ (hS.rd (i := 4) rfl) 0 rfl) rfl <| Jc (off := 3) J6 rfl rfl <| Jg 4 3 XU3 hS rfl rfl rfl ⟨rfl, rfl⟩ <| Jc (off := 3) J6 rfl rfl <| Jg 3 3 XU3 hS rfl rfl rfl ⟨rfl, rfl⟩ ?_; obtain ⟨o116, hv⟩ := hv; refine WL.add (r := (Na + Nb)) rfl rfl (wr o116) rfl <| Jn rfl rfl <| SL.call hS (Jbd (hS.ro haf) (hS.rl (i := 0) rfl) hv) XF14 rfl XN14 rfl rfl ?_; rintro _ _ w117 ⟨r118, r119, x120, c121, x122, r123, A124, k125, A127, k128, hs129, rfl, rfl, hv⟩ hGw117 hS; have hS := hS.n2; refine Jb 2 <| Jz (cs := [nI r118, nI r119, nS A124 x120 k125, nI c121, nS A127 x122 k128]) 4 hS rfl JL rfl rfl rfl rfl rfl ?_; intro w131 hS; refine Jb 2 <| W.ret ?_; have hS := hS.pick [1, 0, 2, 3, 4, 5, 6] rfl
  change St _ _ _ _ [_, _, _, _, _, _, _] at hS
  repeat with_reducible first | refine blk.ret ?_ | refine exits.retI ?_
  refine endC.mk ⟨[.agg #[nI r118, nI r119, nS A124 x120 k125, nI c121, nS A127 x122 k128], nI r123], ⟨_, _, _, rfl, rfl, JC (cs := [nI r118, nI r119, nS A124 x120 k125, nI c121, nS A127 x122 k128]) JL Qg rfl (Jy (hS.own (i := 4) rfl)), ⟨_, _, rfl, rfl, rfl⟩⟩, ?_⟩; exact (hS.pick [1, 0] rfl).fin rfl ⟨r118, r119, x120, c121, x122, r123, A124, k125, A127, k128, hs129, rfl, rfl, hv⟩
 have hv := hv.1 g27; refine Jb 7 <| Qd rfl <| Jd 2 <| JS (cells := #[nI 0, nI 0, .slice none 0 0, nI 0, .slice none 0 0]) Jau rfl rfl rfl <| Jz (cs := [nI 0, nI 0, .slice none 0 0, nI 0, .slice none 0 0]) 1 hS rfl JL rfl rfl rfl rfl rfl ?_; intro w28 hS; refine Jb 2 <| W.ret ?_; have hS := hS.nil (e := 3) (z := 1); have hS := hS.mxNil 22 3; have hm4 := hS.mxlen (i := 0) rfl; have hS := hS.relenMx (i := 0) rfl hm4.symm
 change St _ _ _ _ [_, _, _, _, _, _] at hS
 repeat with_reducible first | refine blk.ret ?_ | refine exits.retI ?_
 refine endC.mk ⟨[.agg #[nI 0, nI 0, .slice none 0 0, nI 0, .slice none 0 0], nI 10], ⟨_, _, _, rfl, rfl, JC (cs := [nI 0, nI 0, .slice none 0 0, nI 0, .slice none 0 0]) JL Qg rfl (Jy (hS.own (i := 3) rfl)), ⟨_, _, rfl, rfl, rfl⟩⟩, ?_⟩; exact ⟨_, hS.ext, (hS.pick [1, 0] rfl).rows, J4 (hS.pick [1, 0] rfl).rows rfl, ⟨(0 : Int), (0 : Int), ([] : LI), (0 : Int), ([] : LL), (10 : Int), none, 0, none, 0, (fun _ => (none, 0)), (by (try unfold nS); first | (rw [show (Value.slice none 0 0) = Value.slice none (([] : LL)).length 0 from sm0 hm4.symm]; done) | (rw [show (Value.slice none 0 0) = Value.slice none (([] : LL)).length 0 from sm0 hm4.symm]; rfl)), rfl, hv⟩⟩
end Go.Proofs.YtgjloioccgcceaaGreat
namespace Go.Proofs.YtgjloioccgcceaaGreat
open Go.RowKit
def Jhq (Pa : Int) (Ma : Int) (ma : LI) (Na : Int) (a : LL) (Pb : Int) (Mb : Int) (mb : LI) (Nb : Int) (b : LL) (Q : Bool -> Prop) : Prop :=
  Jdo ([(Pa, Ma, ma, Na, a), (Pb, Mb, mb, Nb, b)] : List Ct) (fun r19 => (((!r19) = true) -> Q true) /\ ((!r19) = false -> (Jhp Pa Ma ma Na a Pb Mb mb Nb b (fun (r22, r23, x24, c25, x26, r27) => Jdm Pa Ma ma Na a Pb Mb mb Nb b (fun (r39, r40, x41, c42, x43, r44) => Jab Pa Ma ma Na a Pb Mb mb Nb b (fun (r56, r57, x58, c59, x60, r61) => YL Pa Ma ma Na a Pb Mb mb Nb b (fun (r73, r74, x75, c76, x77, r78) => Yi r22 r23 x24 c25 x26 r27 r39 r40 x41 c42 x43 r44 (fun r90 => ((r90 = true) -> (Yi r56 r57 x58 c59 x60 r61 r73 r74 x75 c76 x77 r78 (fun r93 => Q r93))) /\ (r90 = false -> Q false)))))))))
theorem Jtp {w : World} {Q : Bool -> Prop} {Pa : Int} {Ma : Int} {ma : LI} {Na : Int} {a : LL} {Pb : Int} {Mb : Int} {mb : LI} {Nb : Int} {b : LL} {Baf : Nat} {Aaf : Option Addr} {naf kaf : Nat} (haf : Rd Baf w 1 Aaf naf kaf (is ma)) {Aa : Option Addr} {na ka : Nat} (ha : Rl w Aa na ka a) {Bbf : Nat} {Abf : Option Addr} {nbf kbf : Nat} (hbf : Rd Bbf w 1 Abf nbf kbf (is mb)) {Ab : Option Addr} {nb kb : Nat} (hb : Rl w Ab nb kb b) (hv : Jhq Pa Ma ma Na a Pb Mb mb Nb b Q) :
   Calls Tryz.prog 3 #[.agg #[.int .i64 Pa, .int .i64 Ma, .slice Aaf naf kaf, .int .i64 Na, .slice Aa na ka], .agg #[.int .i64 Pb, .int .i64 Mb, .slice Abf nbf kbf, .int .i64 Nb, .slice Ab nb kb]] w <| Rt w fun v Qr => ∃ (r0 : Bool), v = .bool r0 /\ Qr = [] /\ Q r0 := by
 have hnaf := haf.ilen; subst hnaf; have hna := ha.len; subst hna; obtain ⟨hsa, hHa⟩ := ha.heads; have hnbf := hbf.ilen; subst hnbf; have hnb := hb.len; subst hnb; obtain ⟨hsb, hHb⟩ := hb.heads; refine Jj <| Ji (vs := [.agg #[nI Pa, nI Ma, nS Aaf ma kaf, nI Na, nS Aa a ka], .agg #[nI Pb, nI Mb, nS Abf mb kbf, nI Nb, nS Ab b kb]]) [4] XF3 rfl rfl rfl rfl ?_; have hS := Jo w; unfold Jhq at hv; refine Jd 2 <| JA (z := 5) (cs := [nI Pa, nI Ma, nS Aaf ma kaf, nI Na, nS Aa a ka]) hS rfl rfl rfl rfl ?_; intro g11 w12 hS; refine JA (z := 5) (cs := [nI Pb, nI Mb, nS Abf mb kbf, nI Nb, nS Ab b kb]) hS rfl rfl rfl rfl ?_; intro g13 w14 hS; refine Jb 2 <| Jd 3 <| JD 1 JL Qg hS rfl ⟨rfl, rfl⟩ rfl <| JD 0 JL Qg hS rfl ⟨rfl, rfl⟩ rfl <| Jby (cells := [nI Pa, nI Ma, nS Aaf ma kaf, nI Na, nS Aa a ka, nI Pb, nI Mb, nS Abf mb kbf, nI Nb, nS Ab b kb]) hS Jjs JL rfl ⟨_, rfl, by kernel_rfl⟩ rfl rfl ?_; intro A15 w16 hS; refine SL.call hS (Jtm (Rc.two (a := (Pa, Ma, ma, Na, a)) (b := (Pb, Mb, mb, Nb, b)) (Ha := ((Aaf, kaf), (Aa, ka), hsa)) (Hb := ((Abf, kbf), (Ab, kb), hsb)) (hS.rd (i := 0) rfl) ⟨⟨_, (QG (hS.ro haf))⟩, (RlH.ext hHa hS.ext)⟩ ⟨⟨_, (QG (hS.ro hbf))⟩, (RlH.ext hHb hS.ext)⟩) hv) XF4 rfl XN4 rfl rfl ?_; rintro _ _ w18 ⟨r19, rfl, rfl, hv⟩ hGw18 hS; have hS := hS.n0; refine Jb 2 <| Jf rfl (fun c20 => ?_) (fun c20 => ?_)
 .have hv := hv.1 (c20); refine Jd 4 <| W.ret <| ⟨_, rfl, Fin.nil ?_⟩
  exact (hS.pick [] rfl).fin rfl ⟨true, rfl, rfl, hv⟩
 have hv := hv.2 (c20); refine Jl <| Jd 2 <| JD 2 JL Qg hS rfl ⟨rfl, rfl⟩ rfl <| JD 1 JL Qg hS rfl ⟨rfl, rfl⟩ rfl <| SL.call hS (Jwd (hS.ro haf) (RlH.rl (RlH.ext hHa hS.ext)) (hS.ro hbf) (RlH.rl (RlH.ext hHb hS.ext)) hv) XF5 rfl XN5 rfl rfl ?_; rintro _ _ w21 ⟨r22, r23, x24, c25, x26, r27, A28, k29, A31, k32, hs33, rfl, rfl, hv⟩ hGw21 hS; have hS := hS.n2; refine Jb 3 <| SL.alloc (cs := [nI 0, nI 0, .slice none 0 0, nI 0, .slice none 0 0]) hS JL rfl rfl ?_; intro g35 w36 hS; refine Jz (cs := [nI r22, nI r23, nS A28 x24 k29, nI c25, nS A31 x26 k32]) 0 hS rfl JL rfl rfl rfl rfl rfl ?_; intro w37 hS; refine Jb 2 <| Jd 2 <| JD 5 JL Qg hS rfl ⟨rfl, rfl⟩ rfl <| JD 4 JL Qg hS rfl ⟨rfl, rfl⟩ rfl <| SL.call hS (Jtj (hS.ro haf) (RlH.rl (RlH.ext hHa hS.ext)) (hS.ro hbf) (RlH.rl (RlH.ext hHb hS.ext)) hv) XF6 rfl XN6 rfl rfl ?_; rintro _ _ w38 ⟨r39, r40, x41, c42, x43, r44, A45, k46, A48, k49, hs50, rfl, rfl, hv⟩ hGw38 hS; have hS := hS.n2; refine Jb 3 <| SL.alloc (cs := [nI 0, nI 0, .slice none 0 0, nI 0, .slice none 0 0]) hS JL rfl rfl ?_; intro g52 w53 hS; refine Jz (cs := [nI r39, nI r40, nS A45 x41 k46, nI c42, nS A48 x43 k49]) 0 hS rfl JL rfl rfl rfl rfl rfl ?_; intro w54 hS; refine Jb 2 <| Jd 2 <| JD 8 JL Qg hS rfl ⟨rfl, rfl⟩ rfl <| JD 7 JL Qg hS rfl ⟨rfl, rfl⟩ rfl <| SL.call hS (Jkt (hS.ro haf) (RlH.rl (RlH.ext hHa hS.ext)) (hS.ro hbf) (RlH.rl (RlH.ext hHb hS.ext)) hv) XF7 rfl XN7 rfl rfl ?_; rintro _ _ w55 ⟨r56, r57, x58, c59, x60, r61, A62, k63, A65, k66, hs67, rfl, rfl, hv⟩ hGw55 hS; have hS := hS.n2; refine Jb 3 <| SL.alloc (cs := [nI 0, nI 0, .slice none 0 0, nI 0, .slice none 0 0]) hS JL rfl rfl ?_; intro g69 w70 hS; refine Jz (cs := [nI r56, nI r57, nS A62 x58 k63, nI c59, nS A65 x60 k66]) 0 hS rfl JL rfl rfl rfl rfl rfl ?_; intro w71 hS; refine Jb 2 <| Jd 2 <| JD 11 JL Qg hS rfl ⟨rfl, rfl⟩ rfl <| JD 10 JL Qg hS rfl ⟨rfl, rfl⟩ rfl <| SL.call hS (Jgk (hS.ro haf) (RlH.rl (RlH.ext hHa hS.ext)) (hS.ro hbf) (RlH.rl (RlH.ext hHb hS.ext)) hv) XF8 rfl XN8 rfl rfl ?_; rintro _ _ w72 ⟨r73, r74, x75, c76, x77, r78, A79, k80, A82, k83, hs84, rfl, rfl, hv⟩ hGw72 hS; have hS := hS.n2; refine Jb 3 <| SL.alloc (cs := [nI 0, nI 0, .slice none 0 0, nI 0, .slice none 0 0]) hS JL rfl rfl ?_; intro g86 w87 hS; refine Jz (cs := [nI r73, nI r74, nS A79 x75 k80, nI c76, nS A82 x77 k83]) 0 hS rfl JL rfl rfl rfl rfl rfl ?_; intro w88 hS; refine Jb 2 <| Jd 2 <| JD 9 JL Qg hS rfl ⟨rfl, rfl⟩ rfl <| Jn rfl rfl <| JD 6 JL Qg hS rfl ⟨rfl, rfl⟩ rfl <| Jn rfl rfl <| SL.call hS (Jec (hS.rd (i := 10) rfl) (hS.rl (i := 11) rfl) (hS.rd (i := 7) rfl) (hS.rl (i := 8) rfl) hv) XF9 rfl XN9 rfl rfl ?_; rintro _ _ w89 ⟨r90, rfl, rfl, hv⟩ hGw89 hS; have hS := hS.n0; refine Jn rfl rfl ?_; cases g91 : r90
 .have hv := hv.2 g91; refine Jb 8 <| W.ret <| ⟨_, rfl, Fin.nil ?_⟩
  exact (hS.pick [] rfl).fin rfl ⟨false, rfl, rfl, hv⟩
 have hv := hv.1 g91; refine WL.take rfl <| JD 3 JL Qg hS rfl ⟨rfl, rfl⟩ rfl <| Jb 3 <| JD 0 JL Qg hS rfl ⟨rfl, rfl⟩ rfl <| Jb 3 <| SL.call hS (Jec (hS.rd (i := 4) rfl) (hS.rl (i := 5) rfl) (hS.rd (i := 1) rfl) (hS.rl (i := 2) rfl) hv) XF9 rfl XN9 rfl rfl ?_; rintro _ _ w92 ⟨r93, rfl, rfl, hv⟩ hGw92 hS; have hS := hS.n0; refine Jb 3 <| W.ret <| ⟨_, rfl, Fin.nil ?_⟩
 exact (hS.pick [] rfl).fin rfl ⟨r93, rfl, rfl, hv⟩
end Go.Proofs.YtgjloioccgcceaaGreat
namespace Go.Proofs.YtgjloioccgcceaaGreat
abbrev Vec := Nat -> Int
def tX (m : Nat) (c : Vec) (v : Vec) : Vec := fun i => if i < m then (if i = 0 then 0 else v (i - 1)) - c i * v (m - 1) else 0
def JX (u v : Vec) : Vec := fun i => u i + v i
def vsm (a : Int) (v : Vec) : Vec := fun i => a * v i
def vz : Vec := fun _ => 0
def e0 : Vec := fun i => if i = 0 then 1 else 0
def tXn (m : Nat) (c : Vec) : Nat -> Vec -> Vec
  | 0, v => v
  | n + 1, v => tX m c (tXn m c n v)
def opr (m : Nat) (c b : Vec) : Nat -> Vec -> Vec
  | 0, _ => vz
  | n + 1, v => JX (opr m c b n v) (vsm (b n) (tXn m c n v))
def Yg (m : Nat) (c a b : Vec) : Vec := opr m c b m a
section
variable (m : Nat) (c : Vec)
theorem tX_add (u v : Vec) : tX m c (JX u v) = JX (tX m c u) (tX m c v) := by
 funext i; simp only [tX, JX]; split
 .split <;> grind
 .rfl
theorem tX_sm (a : Int) (v : Vec) : tX m c (vsm a v) = vsm a (tX m c v) := by
 funext i; simp only [tX, vsm]; split
 .split <;> grind
 .grind
theorem tX_z : tX m c vz = vz := by funext i; simp [tX, vz]
theorem Jak (u : Vec) : JX u vz = u := by funext i; simp [JX, vz]
theorem z_vadd (u : Vec) : JX vz u = u := by funext i; simp [JX, vz]
theorem Jfe (u v : Vec) : JX u v = JX v u := by funext i; simp only [JX]; omega
theorem Zf (u v w : Vec) : JX (JX u v) w = JX u (JX v w) := by funext i; simp only [JX]; omega
theorem Jc7 (a : Int) (u v : Vec) : vsm a (JX u v) = JX (vsm a u) (vsm a v) := by funext i; simp only [JX, vsm]; grind
theorem Jf2 (a b : Int) (u : Vec) : vsm a (vsm b u) = vsm (a * b) u := by funext i; simp only [vsm]; grind
theorem Jmc (a : Int) : vsm a vz = vz := by funext i; simp [vsm, vz]
theorem Ja6 (n : Nat) (u v : Vec) : tXn m c n (JX u v) = JX (tXn m c n u) (tXn m c n v) := by
 induction n with
 | zero => rfl
 | succ n ih => simp only [tXn, ih, tX_add]
theorem Jbz (n : Nat) (a : Int) (v : Vec) : tXn m c n (vsm a v) = vsm a (tXn m c n v) := by
 induction n with
 | zero => rfl
 | succ n ih => simp only [tXn, ih, tX_sm]
theorem Jif (n : Nat) : tXn m c n vz = vz := by
 induction n with
 | zero => rfl
 | succ n ih => simp only [tXn, ih, tX_z]
theorem Jss (n : Nat) (v : Vec) : tXn m c n (tX m c v) = tX m c (tXn m c n v) := by
 induction n with
 | zero => rfl
 | succ n ih => simp only [tXn, ih]
theorem Jdb (n k : Nat) (v : Vec) : tXn m c n (tXn m c k v) = tXn m c (n + k) v := by
 induction n with
 | zero => simp [tXn]
 | succ n ih => rw [Nat.succ_add]; simp only [tXn, ih]
variable (b : Vec)
theorem Jmt (n : Nat) (u v : Vec) : opr m c b n (JX u v) = JX (opr m c b n u) (opr m c b n v) := by
 induction n with
 | zero => simp [opr, Jak]
 | succ n ih => simp only [opr, ih, Ja6, Jc7]; funext i; simp only [JX]; omega
theorem Jkm (n : Nat) (a : Int) (v : Vec) : opr m c b n (vsm a v) = vsm a (opr m c b n v) := by
 induction n with
 | zero => simp [opr, Jmc]
 | succ n ih => simp only [opr, ih, Jbz, Jc7, Jf2]; rw [Int.mul_comm (b n) a]
theorem opr_z (n : Nat) : opr m c b n vz = vz := by
 induction n with
 | zero => rfl
 | succ n ih => simp only [opr, ih, Jif, Jmc, Jak]
theorem Jms (n k : Nat) (v : Vec) : opr m c b n (tXn m c k v) = tXn m c k (opr m c b n v) := by
 induction n with
 | zero => simp [opr, Jif]
 | succ n ih => simp only [opr, ih, Ja6, Jbz, Jdb]; rw [Nat.add_comm n k]
theorem Jip (d : Vec) (n k : Nat) (v : Vec) : opr m c b n (opr m c d k v) = opr m c d k (opr m c b n v) := by
 induction n with
 | zero => simp only [opr, opr_z]
 | succ n ih => simp only [opr, ih, Jmt, Jkm, Jms]
theorem Jtg (d : Vec) (n : Nat) (v : Vec) : opr m c (JX b d) n v = JX (opr m c b n v) (opr m c d n v) := by
 induction n with
 | zero => simp [opr, Jak]
 | succ n ih => simp only [opr, ih]; funext i; simp only [JX, vsm]; grind
end
def vei (k : Nat) : Vec := fun i => if i = k then 1 else 0
theorem Jkc {m : Nat} {c : Vec} : ∀ {k : Nat}, k < m -> tXn m c k e0 = vei k
 | 0, _ => rfl
 | k + 1, h => by
  have ih : tXn m c k e0 = vei k := Jkc (by omega); simp only [tXn, ih]; funext i; simp only [tX, vei]; split
  .rw [if_neg (show ¬ m - 1 = k by omega)]; by_cases h0 : i = 0
   .subst h0; simp
   .simp only [h0, if_false]; by_cases h1 : i = k + 1
    .subst h1; simp
    .rw [if_neg (by omega), if_neg h1]; simp
  .rw [if_neg (by omega)]
theorem Jgh {m : Nat} {c a : Vec} : ∀ {n : Nat}, n <= m -> ∀ i, opr m c a n e0 i = if i < n then a i else 0
  | 0, _, i => by simp [opr, vz]
  | n + 1, h, i => by
    simp only [opr, JX, vsm]
    rw [Jgh (n := n) (by omega) i, Jkc (by omega)]
    simp only [vei]
    by_cases h1 : i = n
    . subst h1; simp
    . by_cases h2 : i < n
      . simp [h2, h1, show i < n + 1 by omega]
      . simp [h2, h1, show ¬ i < n + 1 by omega]
def Sup (m : Nat) (v : Vec) : Prop := ∀ i, m <= i -> v i = 0
theorem YY {m : Nat} {c a : Vec} (h : Sup m a) : opr m c a m e0 = a := by
 funext i; rw [Jgh (Nat.le_refl m)]; split
 .rfl
 .exact (h i (by omega)).symm
theorem Sup.z {m : Nat} : Sup m vz := fun _ _ => rfl
theorem Sup.tX {m : Nat} {c v : Vec} : Sup m (tX m c v) := fun i h => by simp [Go.Proofs.YtgjloioccgcceaaGreat.tX, show ¬ i < m by omega]
theorem Sup.add {m : Nat} {u v : Vec} (hu : Sup m u) (hv : Sup m v) : Sup m (JX u v) := fun i h => by simp [JX, hu i h, hv i h]
theorem Sup.sm {m : Nat} {a : Int} {v : Vec} (hv : Sup m v) : Sup m (vsm a v) := fun i h => by simp [vsm, hv i h]
theorem Sup.tXn {m : Nat} {c v : Vec} (hv : Sup m v) : ∀ n, Sup m (tXn m c n v)
 | 0 => hv
 | _ + 1 => Sup.tX
theorem Sup.opr {m : Nat} {c b v : Vec} (hv : Sup m v) : ∀ n, Sup m (opr m c b n v)
 | 0 => Sup.z
 | n + 1 => (Sup.opr hv n).add (hv.tXn n).sm
theorem ZR {m : Nat} {c a b : Vec} (ha : Sup m a) (hb : Sup m b) : Yg m c a b = Yg m c b a := by
 unfold Yg
 calc opr m c b m a = opr m c b m (opr m c a m e0) := by rw [YY ha]
  _ = opr m c a m (opr m c b m e0) := Jip ..
  _ = opr m c a m b := by rw [YY hb]
theorem Jj8 {m : Nat} {c a b d : Vec} (ha : Sup m a) (hb : Sup m b) (hd : Sup m d) : Yg m c (Yg m c a b) d = Yg m c a (Yg m c b d) := by
 rw [ZR (a := a) (b := Yg m c b d) ha (Sup.opr hb m)]; show opr m c d m (opr m c b m a) = opr m c a m (opr m c d m b); rw [<- Jip m c d a m m b]; show opr m c d m (Yg m c a b) = opr m c d m (Yg m c b a); rw [ZR ha hb]
theorem Jsh {m : Nat} {c a b d : Vec} : Yg m c a (JX b d) = JX (Yg m c a b) (Yg m c a d) := Jtg ..
theorem Jsg {m : Nat} {c a : Vec} (hm : 0 < m) : Yg m c a e0 = a := by
 have key : ∀ n, 0 < n -> opr m c e0 n a = a := by
  intro n
  induction n with
  | zero => intro h; omega
  | succ n ih =>
   intro _; rcases Nat.eq_zero_or_pos n with h | h
   .subst h; funext i; simp [opr, e0, JX, vsm, vz, tXn]
   .simp only [opr, ih h]; funext i; simp [e0, JX, vsm, show n ≠ 0 by omega]
 exact key m hm
def vcg (p : Int) (u v : Vec) : Prop := ∀ i, u i % p = v i % p
section
variable {p : Int} {m : Nat} {c c' u u' v v' b b' : Vec}
theorem vcg.refl (u : Vec) : vcg p u u := fun _ => rfl
theorem vcg.symm (h : vcg p u v) : vcg p v u := fun i => (h i).symm
theorem vcg.trans {w : Vec} (h : vcg p u v) (k : vcg p v w) : vcg p u w := fun i => (h i).trans (k i)
theorem Jca {a a' d d' : Int} (h : a % p = a' % p) (k : d % p = d' % p) : (a * d) % p = (a' * d') % p := by
 rw [Int.mul_emod, h, k, <- Int.mul_emod]
theorem Jch {a a' d d' : Int} (h : a % p = a' % p) (k : d % p = d' % p) : (a + d) % p = (a' + d') % p := by
 rw [Int.add_emod, h, k, <- Int.add_emod]
theorem Jkd {a a' d d' : Int} (h : a % p = a' % p) (k : d % p = d' % p) : (a - d) % p = (a' - d') % p := by
 rw [Int.sub_emod, h, k, <- Int.sub_emod]
theorem vcg.add (h : vcg p u u') (k : vcg p v v') : vcg p (JX u v) (JX u' v') := fun i => Jch (h i) (k i)
theorem vcg.sm {a a' : Int} (ha : a % p = a' % p) (h : vcg p u u') : vcg p (vsm a u) (vsm a' u') := fun i => Jca ha (h i)
theorem vcg.tX (hc : vcg p c c') (h : vcg p u u') : vcg p (tX m c u) (tX m c' u') := fun i => by
 simp only [Go.Proofs.YtgjloioccgcceaaGreat.tX]; split
 .split
  .exact Jkd rfl (Jca (hc i) (h _))
  .exact Jkd (h _) (Jca (hc i) (h _))
 .rfl
theorem vcg.tXn (hc : vcg p c c') (h : vcg p u u') : ∀ n, vcg p (tXn m c n u) (tXn m c' n u')
 | 0 => h
 | n + 1 => vcg.tX hc (vcg.tXn hc h n)
theorem vcg.opr (hc : vcg p c c') (hb : vcg p b b') (h : vcg p u u') : ∀ n, vcg p (opr m c b n u) (opr m c' b' n u')
 | 0 => .refl _
 | n + 1 => (vcg.opr hc hb h n).add (vcg.sm (hb n) (vcg.tXn hc h n))
theorem vcg.mul (hc : vcg p c c') (h : vcg p u u') (hb : vcg p b b') : vcg p (Yg m c u b) (Yg m c' u' b') := vcg.opr hc hb h m
end
end Go.Proofs.YtgjloioccgcceaaGreat
namespace Go.Proofs.YtgjloioccgcceaaGreat
def dv (p x : Nat) : Vec := fun i => ((x / p ^ i % p : Nat) : Int)
def vl (p : Nat) : Nat -> Vec -> Int
  | 0, _ => 0
  | n + 1, v => v 0 + (p : Int) * vl p n (fun i => v (i + 1))
def Cn (p n : Nat) (v : Vec) : Prop := ∀ i, i < n -> 0 <= v i /\ v i < p
def nm (p m : Nat) (v : Vec) : Nat := (vl p m (fun i => v i % (p : Int))).toNat
theorem Zn (p x i : Nat) : dv p x (i + 1) = dv p (x / p) i := by
 simp only [dv]; rw [Nat.pow_succ', <- Nat.div_div_eq_div_mul]
theorem YJ (p x : Nat) : dv p x 0 = ((x % p : Nat) : Int) := by simp [dv]
theorem Cn.tl {p n : Nat} {v : Vec} (h : Cn p (n + 1) v) : Cn p n (fun i => v (i + 1)) := fun i hi => h (i + 1) (by omega)
theorem Jmd {p : Nat} (hp : 0 < p) : ∀ {n : Nat} {v : Vec}, Cn p n v -> 0 <= vl p n v /\ vl p n v < ((p ^ n : Nat) : Int)
 | 0, v, _ => by simp [vl]
 | n + 1, v, h => by
  have ih := Jmd hp h.tl; have h0 := h 0 (by omega); simp only [vl]; have h1 : (p : Int) * vl p n (fun i => v (i + 1)) <= p * (((p ^ n : Nat) : Int) - 1) := Int.mul_le_mul_of_nonneg_left (by omega) (by omega); have h2 : 0 <= (p : Int) * vl p n (fun i => v (i + 1)) := Int.mul_nonneg (by omega) ih.1; have h3 : ((p ^ (n + 1) : Nat) : Int) = p * ((p ^ n : Nat) : Int) := by rw [Nat.pow_succ']; push_cast; rfl
  have h4 : (p : Int) * (((p ^ n : Nat) : Int) - 1) = p * ((p ^ n : Nat) : Int) - p := by rw [Int.mul_sub, Int.mul_one]
  omega
theorem Jdu {p : Nat} : ∀ {n : Nat} {u v : Vec}, (∀ i, i < n -> u i = v i) -> vl p n u = vl p n v
 | 0, _, _, _ => rfl
 | n + 1, u, v, h => by simp only [vl]; rw [h 0 (by omega), Jdu (n := n) fun i hi => h (i + 1) (by omega)]
theorem Jsi {p : Nat} (hp : 0 < p) : ∀ {n x : Nat}, x < p ^ n -> vl p n (dv p x) = x
 | 0, x, h => by simp at h; subst h; rfl
 | n + 1, x, h => by
  simp only [vl]; have : (fun i => dv p x (i + 1)) = dv p (x / p) := by funext i; exact Zn p x i
  rw [this, Jsi hp (n := n) (by rw [Nat.div_lt_iff_lt_mul hp, <- Nat.pow_succ]; exact h), YJ]; have := Nat.mod_add_div x p; have h2 : ((x % p + p * (x / p) : Nat) : Int) = (x : Int) := by rw [this]
  push_cast at h2 ⊢; exact h2
theorem dv_vl {p : Nat} (hp : 0 < p) : ∀ {n : Nat} {v : Vec}, Cn p n v -> ∀ i, i < n -> dv p (vl p n v).toNat i = v i
 | 0, _, _, i, hi => by omega
 | n + 1, v, h, i, hi => by
  have ih := Jmd hp h.tl; have h0 := h 0 (by omega); obtain ⟨t, ht⟩ := Int.eq_ofNat_of_zero_le ih.1; obtain ⟨a, ha⟩ := Int.eq_ofNat_of_zero_le h0.1; have hv : (vl p (n + 1) v).toNat = a + p * t := by
   simp only [vl]; rw [ht, ha]; have : (a : Int) + (p : Int) * (t : Int) = ((a + p * t : Nat) : Int) := by push_cast; rfl
   rw [this]; rfl
  have hap : a < p := by have := h0.2; rw [ha] at this; omega
  rw [hv]; cases i with
  | zero => rw [YJ, Nat.add_mul_mod_self_left, Nat.mod_eq_of_lt hap, ha]
  | succ i =>
   rw [Zn]; have h2 : (a + p * t) / p = t := by rw [Nat.add_mul_div_left _ _ hp, Nat.div_eq_of_lt hap, Nat.zero_add]
   have ih2 := dv_vl hp h.tl i (by omega); rw [ht] at ih2; rw [h2]; exact ih2
section
variable {p m : Nat}
theorem md_cn (hp : 0 < p) (v : Vec) (n : Nat) : Cn p n (fun i => v i % (p : Int)) := fun i _ => ⟨Int.emod_nonneg _ (by omega), Int.emod_lt_of_pos _ (by omega)⟩
theorem Jai (hp : 0 < p) (v : Vec) : nm p m v < p ^ m := by
 have := Jmd hp (md_cn hp v m); unfold nm; omega
theorem Jnb (hp : 0 < p) (v : Vec) {i : Nat} (hi : i < m) : dv p (nm p m v) i = v i % (p : Int) := dv_vl hp (md_cn hp v m) i hi
theorem Jfu (hp : 0 < p) (x n : Nat) : Cn p n (dv p x) := fun i _ => by
 have := Nat.mod_lt (x / p ^ i) hp; simp only [dv]; omega
theorem Jub {x i : Nat} (hx : x < p ^ m) (hi : m <= i) : dv p x i = 0 := by
 rcases Nat.eq_zero_or_pos p with rfl | hp
 .simp only [dv]; cases m with
  | zero =>
   have : x = 0 := by simpa using hx
   subst this; simp
  | succ m => simp at hx
 .have : x / p ^ i = 0 := Nat.div_eq_of_lt (Nat.lt_of_lt_of_le hx (Nat.pow_le_pow_right hp hi)); simp [dv, this]
theorem Yb {x : Nat} (hx : x < p ^ m) : Sup m (dv p x) := fun i hi => Jub hx hi
theorem Jao (x i : Nat) : dv p x i % (p : Int) = dv p x i := by
 simp only [dv]; rw [<- Int.natCast_emod, Nat.mod_mod]
theorem Jaj (hp : 0 < p) {x : Nat} (hx : x < p ^ m) : nm p m (dv p x) = x := by
 unfold nm; rw [Jdu (v := dv p x) fun i _ => Jao x i, Jsi hp hx]; rfl
theorem Jts {u v : Vec} (h : ∀ i, i < m -> u i % (p : Int) = v i % (p : Int)) : nm p m u = nm p m v := by
 unfold nm; rw [Jdu h]
theorem YT {u v : Vec} (h : vcg p u v) : nm p m u = nm p m v := Jts fun i _ => h i
theorem Jjn (hp : 0 < p) {v : Vec} (hv : Sup m v) : vcg p (dv p (nm p m v)) v := fun i => by
 rcases Nat.lt_or_ge i m with h | h
 .rw [Jnb hp v h, Int.emod_emod]
 .rw [Jub (Jai hp v) h, hv i h]
theorem nm_eq (hp : 0 < p) {x : Nat} {v : Vec} (hx : x < p ^ m) (h : ∀ i, i < m -> dv p x i = v i % (p : Int)) : nm p m v = x := by
 rw [<- Jaj hp hx]; exact Jts fun i hi => by rw [h i hi, Int.emod_emod]
end
def Qy (p m x y : Nat) : Nat := nm p m (JX (dv p x) (dv p y))
def ZE (p m x : Nat) : Nat := nm p m (vsm (-1) (dv p x))
def JE (p m : Nat) (c : Vec) (x y : Nat) : Nat := nm p m (Yg m c (dv p x) (dv p y))
section
variable {p m : Nat} {c : Vec}
theorem Jna (hp : 0 < p) (x y : Nat) : Qy p m x y < p ^ m := Jai hp _
theorem Jg4 (hp : 0 < p) (x : Nat) : ZE p m x < p ^ m := Jai hp _
theorem Jg5 (hp : 0 < p) (x y : Nat) : JE p m c x y < p ^ m := Jai hp _
theorem Jha (hp : 0 < p) {x y : Nat} (hx : x < p ^ m) (hy : y < p ^ m) : vcg p (dv p (Qy p m x y)) (JX (dv p x) (dv p y)) := Jjn hp ((Yb hx).add (Yb hy))
theorem Jww (hp : 0 < p) {x : Nat} (hx : x < p ^ m) : vcg p (dv p (ZE p m x)) (vsm (-1) (dv p x)) := Jjn hp (Yb hx).sm
theorem Jsf {a b : Vec} (ha : Sup m a) : Sup m (Yg m c a b) := Sup.opr ha m
theorem Jbf (hp : 0 < p) {x y : Nat} (hx : x < p ^ m) : vcg p (dv p (JE p m c x y)) (Yg m c (dv p x) (dv p y)) := Jjn hp (Jsf (Yb hx))
theorem Joq (x y : Nat) : Qy p m x y = Qy p m y x := by unfold Qy; rw [Jfe]
theorem Jk8 (hp : 0 < p) {x y z : Nat} (hx : x < p ^ m) (hy : y < p ^ m) (hz : z < p ^ m) : Qy p m (Qy p m x y) z = Qy p m x (Qy p m y z) := by
 show nm p m (JX (dv p (Qy p m x y)) (dv p z)) = nm p m (JX (dv p x) (dv p (Qy p m y z))); rw [YT ((Jha hp hx hy).add (vcg.refl _)), YT ((vcg.refl (p := p) (dv p x)).add (Jha hp hy hz)), Zf]
theorem Jep (p : Nat) : dv p 0 = vz := by funext i; simp [dv, vz]
theorem Jop (hp : 0 < p) {x : Nat} (hx : x < p ^ m) : Qy p m x 0 = x := by unfold Qy; rw [Jep, Jak, Jaj hp hx]
theorem Jem (hp : 0 < p) {x : Nat} (hx : x < p ^ m) : Qy p m x (ZE p m x) = 0 := by
 show nm p m (JX (dv p x) (dv p (ZE p m x))) = 0; rw [YT ((vcg.refl (p := p) (dv p x)).add (Jww hp hx))]; have : JX (dv p x) (vsm (-1) (dv p x)) = vz := by funext i; simp only [JX, vsm, vz]; omega
 rw [this, <- Jep p, Jaj hp (by exact Nat.pow_pos hp)]
theorem Jcb {x y : Nat} (hx : x < p ^ m) (hy : y < p ^ m) : JE p m c x y = JE p m c y x := by
 unfold JE; rw [ZR (Yb hx) (Yb hy)]
theorem Jk6 (hp : 0 < p) {x y z : Nat} (hx : x < p ^ m) (hy : y < p ^ m) (hz : z < p ^ m) : JE p m c (JE p m c x y) z = JE p m c x (JE p m c y z) := by
 show nm p m (Yg m c (dv p (JE p m c x y)) (dv p z)) = nm p m (Yg m c (dv p x) (dv p (JE p m c y z))); rw [YT (vcg.mul (vcg.refl c) (Jbf hp hx) (vcg.refl _)), YT (vcg.mul (vcg.refl c) (vcg.refl (dv p x)) (Jbf hp hy)), Jj8 (Yb hx) (Yb hy) (Yb hz)]
theorem Jg9 (hp : 2 <= p) : dv p 1 = e0 := by
 funext i; cases i with
 | zero => rw [YJ, Nat.mod_eq_of_lt (by omega)]; rfl
 | succ i =>
  have : (1 : Nat) / p ^ (i + 1) = 0 := Nat.div_eq_of_lt (Nat.one_lt_pow (by omega) (by omega)); simp [dv, this, e0]
theorem Jel (hp : 2 <= p) (hm : 0 < m) {x : Nat} (hx : x < p ^ m) : JE p m c x 1 = x := by
 unfold JE; rw [Jg9 hp, Jsg hm, Jaj (by omega) hx]
theorem Jon (hp : 0 < p) {x : Nat} (hx : x < p ^ m) : JE p m c x 0 = 0 := by
 rw [Jcb hx (Nat.pow_pos hp)]; unfold JE; rw [Jep]; have : Yg m c vz (dv p x) = vz := opr_z ..; rw [this, <- Jep p, Jaj hp (Nat.pow_pos hp)]
theorem Jt3 (hp : 0 < p) {x y z : Nat} (hx : x < p ^ m) (hy : y < p ^ m) (hz : z < p ^ m) : JE p m c x (Qy p m y z) = Qy p m (JE p m c x y) (JE p m c x z) := by
 show nm p m (Yg m c (dv p x) (dv p (Qy p m y z))) = nm p m (JX (dv p (JE p m c x y)) (dv p (JE p m c x z))); rw [YT (vcg.mul (vcg.refl c) (vcg.refl (dv p x)) (Jha hp hy hz)), YT ((Jbf (c := c) hp hx).add (Jbf hp hx)), Jsh]
end
structure CR (q : Nat) (A M : Nat -> Nat -> Nat) : Prop where
  q2 : 2 <= q
  Al : ∀ x y, A x y < q
  Ml : ∀ x y, M x y < q
  Ac : ∀ x y, A x y = A y x
  Aa : ∀ {x y z}, x < q -> y < q -> z < q -> A (A x y) z = A x (A y z)
  Az : ∀ {x}, x < q -> A x 0 = x
  An : ∀ {x}, x < q -> ∃ y, y < q /\ A x y = 0
  Mc : ∀ {x y}, x < q -> y < q -> M x y = M y x
  Ma : ∀ {x y z}, x < q -> y < q -> z < q -> M (M x y) z = M x (M y z)
  M1 : ∀ {x}, x < q -> M x 1 = x
  M0 : ∀ {x}, x < q -> M x 0 = 0
  Md : ∀ {x y z}, x < q -> y < q -> z < q -> M x (A y z) = A (M x y) (M x z)
theorem Jl9 {p m : Nat} (c : Vec) (hp : 2 <= p) (hm : 0 < m) : CR (p ^ m) (Qy p m) (JE p m c) where
 q2 := Nat.le_trans hp (by have := Nat.pow_le_pow_right (n := p) (by omega) hm; simpa using this)
 Al := Jna (by omega)
 Ml := Jg5 (by omega)
 Ac := Joq
 Aa := Jk8 (by omega)
 Az := Jop (by omega)
 An := fun {x} hx => ⟨ZE p m x, Jg4 (by omega) x, Jem (by omega) hx⟩
 Mc := Jcb
 Ma := Jk6 (by omega)
 M1 := Jel hp hm
 M0 := Jon (by omega)
 Md := Jt3 (by omega)
end Go.Proofs.YtgjloioccgcceaaGreat
namespace Go.Proofs.YtgjloioccgcceaaGreat
def pw (M : Nat -> Nat -> Nat) (g : Nat) : Nat -> Nat
  | 0 => 1
  | k + 1 => M (pw M g k) g
theorem php : ∀ (n : Nat) (f : Nat -> Nat), (∀ i, i < n + 1 -> f i < n) -> ∃ i j, i < j /\ j < n + 1 /\ f i = f j
 | 0, f, h => absurd (h 0 (by omega)) (by omega)
 | n + 1, f, h => by
  by_cases hc : ∃ i, i < n + 1 /\ f i = f (n + 1)
  .obtain ⟨i, hi, he⟩ := hc; exact ⟨i, n + 1, hi, by omega, he⟩
  .have hv := h (n + 1) (by omega); obtain ⟨i, j, hij, hj, he⟩ := php n (fun i => if f i = n then f (n + 1) else f i) (fun i hi => by
    have hne : f i ≠ f (n + 1) := fun e => hc ⟨i, hi, e⟩; have := h i (by omega); show (if f i = n then f (n + 1) else f i) < n; split
    .omega
    .omega)
   refine ⟨i, j, hij, by omega, ?_⟩; have hi1 : f i ≠ f (n + 1) := fun e => hc ⟨i, by omega, e⟩; have hj1 : f j ≠ f (n + 1) := fun e => hc ⟨j, by omega, e⟩; split at he <;> split at he <;> omega
theorem Jih {n : Nat} {f : Nat -> Nat} (hb : ∀ i, i < n -> f i < n) (hi : ∀ i j, i < j -> j < n -> f i ≠ f j) {y : Nat} (hy : y < n) : ∃ i, i < n /\ f i = y := by
 obtain ⟨i, j, hij, hj, he⟩ := php n (fun i => if i < n then f i else y) (fun i _ => by
  show (if i < n then f i else y) < n; split
  .rename_i h; exact hb i h
  .exact hy)
 rcases Nat.lt_or_ge j n with h | h
 .rw [if_pos h, if_pos (show i < n by omega)] at he; exact absurd he (hi i j hij h)
 .rw [if_neg (show ¬ j < n by omega), if_pos (show i < n by omega)] at he; exact ⟨i, by omega, he⟩
section
variable {q : Nat} {A M : Nat -> Nat -> Nat} (R : CR q A M)
include R
namespace CR
theorem one_lt : 1 < q := R.q2
theorem pos : 0 < q := by have := R.q2; omega
theorem I1 {x : Nat} (hx : x < q) : M 1 x = x := by rw [R.Mc R.one_lt hx, R.M1 hx]
theorem Z0 {x : Nat} (hx : x < q) : M 0 x = 0 := by rw [R.Mc R.pos hx, R.M0 hx]
theorem zA {x : Nat} (hx : x < q) : A 0 x = x := by rw [R.Ac, R.Az hx]
theorem pw_lt (g : Nat) : ∀ k, pw M g k < q
 | 0 => R.one_lt
 | k + 1 => R.Ml _ _
theorem pw_one {g : Nat} (hg : g < q) : pw M g 1 = g := R.I1 hg
theorem pw_add {g : Nat} (hg : g < q) (i : Nat) : ∀ j, pw M g (i + j) = M (pw M g i) (pw M g j)
 | 0 => (R.M1 (R.pw_lt g i)).symm
 | j + 1 => by
  show M (pw M g (i + j)) g = M (pw M g i) (M (pw M g j) g); rw [pw_add hg i j, R.Ma (R.pw_lt g i) (R.pw_lt g j) hg]
theorem pw_pw {g : Nat} (hg : g < q) (i : Nat) : ∀ j, pw M (pw M g i) j = pw M g (i * j)
 | 0 => rfl
 | j + 1 => by
  show M (pw M (pw M g i) j) (pw M g i) = _; rw [pw_pw hg i j, <- R.pw_add hg]; rfl
theorem one_pw : ∀ j, pw M 1 j = 1
 | 0 => rfl
 | j + 1 => by show M (pw M 1 j) 1 = 1; rw [one_pw j, R.M1 R.one_lt]
theorem zero_pw {n : Nat} (h : 0 < n) : pw M 0 n = 0 := by
 cases n with
 | zero => omega
 | succ n => exact R.M0 (R.pw_lt 0 n)
end CR
end
structure Gn (q : Nat) (M : Nat -> Nat -> Nat) (g : Nat) : Prop where
  lt : g < q
  one : pw M g (q - 1) = 1
  no : ∀ k, 0 < k -> k < q - 1 -> pw M g k ≠ 1
namespace Gn
variable {q g : Nat} {A M : Nat -> Nat -> Nat}
theorem per (G : Gn q M g) (R : CR q A M) (i k : Nat) : pw M g (i + (q - 1) * k) = pw M g i := by
 rw [R.pw_add G.lt, <- R.pw_pw G.lt, G.one, R.one_pw, R.M1 (R.pw_lt g i)]
theorem ne0 (G : Gn q M g) (R : CR q A M) (k : Nat) : pw M g k ≠ 0 := fun h => by
 have h1 := G.per R 0 (k + 1); have hq := R.q2; rw [Nat.zero_add] at h1; have : (q - 1) * (k + 1) = k + ((q - 1) * (k + 1) - k) := by
  have : k + 1 <= (q - 1) * (k + 1) := Nat.le_mul_of_pos_left _ (by omega); omega
 rw [this, R.pw_add G.lt, h, R.Z0 (R.pw_lt g _)] at h1; exact absurd h1 (by show ¬ (0 : Nat) = 1; omega)
theorem inj (G : Gn q M g) (R : CR q A M) {i j : Nat} (hij : i < j) (hj : j < q - 1) : pw M g i ≠ pw M g j := fun h => by
 have e1 : M (pw M g i) (pw M g (q - 1 - i)) = 1 := by rw [<- R.pw_add G.lt, show i + (q - 1 - i) = q - 1 by omega, G.one]
 have e2 : M (pw M g j) (pw M g (q - 1 - i)) = pw M g (j - i) := by
  rw [<- R.pw_add G.lt, show j + (q - 1 - i) = (j - i) + (q - 1) * 1 by omega, G.per R]
 rw [h] at e1; exact G.no (j - i) (by omega) (by omega) (e2.symm.trans e1)
theorem surj (G : Gn q M g) (R : CR q A M) {x : Nat} (h0 : 0 < x) (hx : x < q) : ∃ k, k < q - 1 /\ pw M g k = x := by
 obtain ⟨i, hi, he⟩ := Jih (n := q - 1) (f := fun k => pw M g k - 1) (fun i hi => by
  have := R.pw_lt g i; have := G.ne0 R i; show pw M g i - 1 < q - 1; omega) (fun i j hij hj he => by
  have h1 := G.ne0 R i; have h2 := G.ne0 R j; exact G.inj R hij hj (by omega)) (y := x - 1) (by omega)
 have := G.ne0 R i; exact ⟨i, hi, by omega⟩
open Classical in
noncomputable def lg (q : Nat) (M : Nat -> Nat -> Nat) (g x : Nat) : Nat := if h : ∃ k, k < q - 1 /\ pw M g k = x then Classical.choose h else 0
theorem xone (G : Gn q M g) (R : CR q A M) {x : Nat} (h0 : 0 < x) (hx : x < q) : pw M x (q - 1) = 1 := by
  obtain ⟨k, hk, rfl⟩ := G.surj R h0 hx
  rw [R.pw_pw G.lt, Nat.mul_comm, <- R.pw_pw G.lt, G.one, R.one_pw]
end Gn
end Go.Proofs.YtgjloioccgcceaaGreat
namespace Go.Proofs.YtgjloioccgcceaaGreat
structure IsLf (n d : Nat) : Prop where
  two : 2 <= d
  dvd : n % d = 0
  min : ∀ e, 2 <= e -> n % e = 0 -> d <= e
def Jud : Nat -> Nat -> Nat
  | _, 0 => 1
  | 0, _ + 1 => 0
  | n + 1, k + 1 => Jud n k + Jud n (k + 1)
section
variable {q : Nat} {A M : Nat -> Nat -> Nat} (R : CR q A M)
include R
namespace CR
theorem Aac {a b c : Nat} (ha : a < q) (hb : b < q) (hc : c < q) : A (A a b) c = A (A a c) b := by
 rw [R.Aa ha hb hc, R.Ac b c, <- R.Aa ha hc hb]
theorem A4 {a b c d : Nat} (ha : a < q) (hb : b < q) (hc : c < q) (hd : d < q) : A (A a b) (A c d) = A (A a c) (A b d) := by
 rw [<- R.Aa (R.Al a b) hc hd, R.Aac ha hb hc, R.Aa (R.Al a c) hb hd]
end CR
end
end Go.Proofs.YtgjloioccgcceaaGreat
namespace Go.Proofs.YtgjloioccgcceaaGreat
def hz (m : Nat) (c b y : Vec) (n : Nat) : Nat -> Vec
  | 0 => vz
  | k + 1 => JX (tX m c (hz m c b y n k)) (vsm (b (n - 1 - k)) y)
theorem Jtz {m : Nat} {c b y : Vec} {n : Nat} : ∀ {k : Nat}, k <= n -> JX (tXn m c (n - k) (hz m c b y n k)) (opr m c b (n - k) y) = opr m c b n y
 | 0, _ => by simp only [hz, Nat.sub_zero]; rw [Jif, z_vadd]
 | k + 1, h => by
  have ih := Jtz (m := m) (c := c) (b := b) (y := y) (n := n) (k := k) (by omega); obtain ⟨r, hr⟩ : ∃ r, n - k = r + 1 := ⟨n - k - 1, by omega⟩
  rw [show n - (k + 1) = r by omega]; rw [hr] at ih; rw [<- ih]; show JX (tXn m c r (JX (tX m c (hz m c b y n k)) (vsm (b (n - 1 - k)) y))) (opr m c b r y) = JX (tX m c (tXn m c r (hz m c b y n k))) (JX (opr m c b r y) (vsm (b r) (tXn m c r y))); rw [Ja6, Jbz, Jss, show n - 1 - k = r by omega, Zf, Jfe (vsm _ _)]
theorem hz_all (m : Nat) (c b y : Vec) (n : Nat) : hz m c b y n n = opr m c b n y := by
 have := Jtz (m := m) (c := c) (b := b) (y := y) (n := n) (k := n) (Nat.le_refl n); rw [Nat.sub_self] at this; rw [<- this]; exact (Jak _).symm
def dgl (p : Nat) : Nat -> Nat -> List Nat
  | 0, _ => []
  | n + 1, x => (x % p) :: dgl p n (x / p)
theorem QV (p : Nat) : ∀ n x, (dgl p n x).length = n
 | 0, _ => rfl
 | n + 1, x => by simp [dgl, QV p n]
theorem Jcf (p : Nat) : ∀ n x i, i < n -> (((dgl p n x).getD i 0 : Nat) : Int) = dv p x i
 | 0, _, i, h => by omega
 | n + 1, x, 0, _ => by rw [YJ]; rfl
 | n + 1, x, i + 1, h => by
  show (((dgl p n (x / p)).getD i 0 : Nat) : Int) = _; rw [Jcf p n (x / p) i (by omega), Zn]
@[reducible] noncomputable def hd0 (l : List Nat) : Nat := List.rec (motive := fun _ => Nat) 0 (fun x _ _ => x) l
@[reducible] noncomputable def tl0 (l : List Nat) : List Nat := List.rec (motive := fun _ => List Nat) [] (fun _ l _ => l) l
noncomputable def go (p a top : Nat) (cs : List Nat) : Nat -> List Nat -> List Nat -> List Nat :=
  List.rec (motive := fun _ => Nat -> List Nat -> List Nat -> List Nat) (fun _ _ _ => [])
    (fun c _ ih prev us ys => ((prev + (p - c) * top + a * hd0 ys) % p) :: ih (hd0 us) (tl0 us) (tl0 ys)) cs
noncomputable def tp (l : List Nat) : Nat -> Nat := List.rec (motive := fun _ => Nat -> Nat) (fun d => d) (fun x _ ih _ => ih x) l
noncomputable def Jkv (p : Nat) (cs ys gs : List Nat) : List Nat -> List Nat :=
  List.rec (motive := fun _ => List Nat -> List Nat) (fun acc => acc) (fun g _ ih acc => ih (go p g (tp acc 0) cs 0 acc ys)) gs
noncomputable def az (l : List Nat) : Bool := List.rec (motive := fun _ => Bool) true (fun x _ ih => bif Nat.beq x 0 then ih else false) l
noncomputable def is1 (l : List Nat) : Bool := List.rec (motive := fun _ => Bool) false (fun x t _ => bif Nat.beq x 1 then az t else false) l
noncomputable def run (p : Nat) (cs gs : List Nat) (n : Nat) : List Nat -> Bool :=
  Nat.rec (motive := fun _ => List Nat -> Bool) (fun y => is1 y) (fun _ ih y => bif is1 y then false else ih (Jkv p cs y gs y)) n
noncomputable def Jij (p c : Nat) (al : List Nat) : List Nat -> List Nat :=
  List.rec (motive := fun _ => List Nat -> List Nat) (fun bs => bs) (fun a _ ih bs => ((hd0 bs + (p - a) * c) % p) :: ih (tl0 bs)) al
noncomputable def dvg (p : Nat) (low : List Nat) (k : Nat) : List Nat -> Bool :=
  Nat.rec (motive := fun _ => List Nat -> Bool) (fun r => az r) (fun _ ih r => ih (Jij p (hd0 r) low (tl0 r))) k
noncomputable def nob (f : Nat -> Bool) (n : Nat) : Bool := Nat.rec (motive := fun _ => Bool) true (fun i ih => bif f i then false else ih) n
noncomputable def irrB (p m : Nat) (ml : List Nat) : Bool :=
  nob (fun d => !nob (fun w => dvg p (dgl p (d + 1) w).reverse (m - d) (1 :: ml.reverse)) (p ^ (d + 1))) (m / 2)
noncomputable def cand (p c : Nat) : List Nat := bif Nat.blt c p then [c] else bif Nat.blt c (p + p * p) then [(c - p) / p, (c - p) % p] else [(c - p - p * p) / (p * p), (c - p - p * p) / p % p, (c - p - p * p) % p]
noncomputable def gen1 (p m : Nat) (cs gs : List Nat) : Bool := run p cs gs (p ^ m - 2) (Jkv p cs (dgl p m 1) gs (dgl p m 1))
noncomputable def Jk5 (p m : Nat) (cs : List Nat) : Bool := !nob (fun c => gen1 p m cs (cand p (p + p * p + p * p * p - 1 - c))) (p + p * p + p * p * p)
noncomputable def chk (p m lo n : Nat) : Bool := nob (fun v => bif irrB p m (dgl p m (lo + v)) then !Jk5 p m (dgl p m (lo + v)) else false) n

theorem Jg2 (l : List Nat) : hd0 l = l.getD 0 0 := by cases l <;> rfl
theorem Jd1 (l : List Nat) (i : Nat) : (tl0 l).getD i 0 = l.getD (i + 1) 0 := by cases l <;> rfl
theorem Jvu (l : List Nat) : (tl0 l).length = l.length - 1 := by cases l <;> simp [tl0]
theorem Jg3 (p a top c : Nat) (cs : List Nat) (prev : Nat) (us ys : List Nat) : go p a top (c :: cs) prev us ys = ((prev + (p - c) * top + a * hd0 ys) % p) :: go p a top cs (hd0 us) (tl0 us) (tl0 ys) := rfl
theorem Jt1 (p a top : Nat) : ∀ (cs : List Nat) (prev : Nat) (us ys : List Nat), (go p a top cs prev us ys).length = cs.length
 | [], _, _, _ => rfl
 | c :: cs, prev, us, ys => by rw [Jg3, List.length_cons, Jt1 p a top cs, List.length_cons]
theorem go_at (p a top : Nat) : ∀ (cs : List Nat) (prev : Nat) (us ys : List Nat) (i : Nat), i < cs.length -> (go p a top cs prev us ys).getD i 0 = ((if i = 0 then prev else us.getD (i - 1) 0) + (p - cs.getD i 0) * top + a * ys.getD i 0) % p
 | [], _, _, _, i, h => by simp at h
 | c :: cs, prev, us, ys, 0, _ => by rw [Jg3, Jg2]; rfl
 | c :: cs, prev, us, ys, i + 1, h => by
  rw [Jg3]; show (go p a top cs (hd0 us) (tl0 us) (tl0 ys)).getD i 0 = _; rw [go_at p a top cs _ _ _ i (by simpa using h)]; cases i with
  | zero => rw [if_pos rfl, if_neg (by omega), Jg2, Jd1]; rfl
  | succ i => rw [if_neg (by omega), if_neg (by omega), Jd1, Jd1]; rfl
theorem tp_eq : ∀ (l : List Nat) (d : Nat), 0 < l.length -> tp l d = l.getD (l.length - 1) 0
 | [], _, h => by simp at h
 | [x], d, _ => rfl
 | x :: y :: l, d, _ => by
  show tp (y :: l) x = _; rw [tp_eq (y :: l) x (by simp)]; simp
def Rep (p m : Nat) (L : List Nat) (v : Vec) : Prop := L.length = m /\ ∀ i, i < m -> ((L.getD i 0 : Nat) : Int) = v i % (p : Int)
def hl (m : Nat) (c y : Vec) : List Nat -> Vec -> Vec
  | [], u => u
  | g :: gs, u => hl m c y gs (JX (tX m c u) (vsm g y))
theorem Rep.step {p m : Nat} {cs us ys : List Nat} {c u y : Vec} (hp : 0 < p) (hm : 0 < m) (hc : Rep p m cs c) (hu : Rep p m us u) (hy : Rep p m ys y) (g : Nat) :
  Rep p m (go p g (tp us 0) cs 0 us ys) (JX (tX m c u) (vsm g y)) := by
 refine ⟨by rw [Jt1, hc.1], fun i hi => ?_⟩; rw [go_at _ _ _ _ _ _ _ _ (by rw [hc.1]; exact hi), tp_eq _ _ (by rw [hu.1]; exact hm), hu.1]; have h1 := hu.2 (m - 1) (by omega); have h2 := hc.2 i hi; have h3 := hy.2 i hi; have hlt : cs.getD i 0 <= p := by
  have := Int.emod_lt_of_pos (c i) (show (0 : Int) < p by omega); omega
 have e : (((if i = 0 then 0 else us.getD (i - 1) 0) : Nat) : Int) % p = (if i = 0 then (0 : Int) else u (i - 1)) % p := by
  split
  .rfl
  .rw [hu.2 (i - 1) (by omega), Int.emod_emod]
 simp only [JX, vsm, tX, if_pos hi]; generalize (if i = 0 then 0 else us.getD (i - 1) 0 : Nat) = A at *
 generalize (if i = 0 then (0 : Int) else u (i - 1)) = B at *
 generalize us.getD (m - 1) 0 = T at *
 generalize cs.getD i 0 = C at *
 generalize ys.getD i 0 = Y at *
 have hT : ((T : Nat) : Int) % p = u (m - 1) % p := by rw [h1, Int.emod_emod]
 have hC : ((C : Nat) : Int) % p = c i % p := by rw [h2, Int.emod_emod]
 have hY : ((Y : Nat) : Int) % p = y i % p := by rw [h3, Int.emod_emod]
 obtain ⟨D, hD⟩ : ∃ D, p = C + D := ⟨p - C, by omega⟩
 have hsub : p - C = D := by omega
 rw [hsub]; have hcast : ((A + D * T + g * Y : Nat) : Int) = ((A : Int) - C * T + g * Y) + p * T := by
  have : (p : Int) = C + D := by omega
  rw [this]; push_cast; rw [Int.add_mul]; omega
 rw [Int.natCast_emod, hcast, Int.add_mul_emod_self_left]; exact Jch (Jkd e (Jca hC hT)) (Jca rfl hY)
theorem Jol (p : Nat) (cs ys : List Nat) (g : Nat) (gs acc : List Nat) : Jkv p cs ys (g :: gs) acc = Jkv p cs ys gs (go p g (tp acc 0) cs 0 acc ys) := rfl
theorem Rep.mul {p m : Nat} {cs ys : List Nat} {c y : Vec} (hp : 0 < p) (hm : 0 < m) (hc : Rep p m cs c) (hy : Rep p m ys y) : ∀ {gs us : List Nat} {u : Vec}, Rep p m us u -> Rep p m (Jkv p cs ys gs us) (hl m c y gs u)
 | [], _, _, h => h
 | g :: gs, us, u, h => by rw [Jol]; exact Rep.mul hp hm hc hy (Rep.step hp hm hc h hy g)
theorem Jk1 {m : Nat} {c y : Vec} (hy : Sup m y) : ∀ {gs : List Nat} {u : Vec}, Sup m u -> Sup m (hl m c y gs u)
 | [], _, h => h
 | g :: gs, u, h => Jk1 (gs := gs) (u := JX (tX m c u) (vsm g y)) hy (Sup.add Sup.tX hy.sm)
theorem Jt0 {m : Nat} {c y : Vec} (hy : Sup m y) : ∀ {gs : List Nat} {U : Vec}, hl m c y gs (opr m c y m U) = opr m c y m (hl m c e0 gs U)
  | [], _ => rfl
  | g :: gs, U => by
    show hl m c y gs (JX (tX m c (opr m c y m U)) (vsm g y)) = opr m c y m (hl m c e0 gs (JX (tX m c U) (vsm g e0)))
    rw [<- Jt0 hy, Jmt, Jkm, YY hy]
    have := Jms m c y m 1 U
    rw [show tXn m c 1 U = tX m c U from rfl, show tXn m c 1 (opr m c y m U) = tX m c (opr m c y m U) from rfl] at this
    rw [this]
theorem Jg8 {m : Nat} (hm : 0 < m) : Sup m e0 := fun i hi => by simp [e0, show i ≠ 0 by omega]
theorem hl_mul {m : Nat} {c y : Vec} (hm : 0 < m) (hy : Sup m y) (gs : List Nat) : hl m c y gs y = Yg m c y (hl m c e0 gs e0) := by
 rw [ZR hy (Jk1 (Jg8 hm) (Jg8 hm))]; show _ = opr m c y m (hl m c e0 gs e0); rw [<- Jt0 hy, YY hy]
theorem Jvi {p m x : Nat} : Rep p m (dgl p m x) (dv p x) := ⟨QV p m x, fun i hi => by rw [Jcf p m x i hi, Jao]⟩
theorem Rep.cg {p m : Nat} {L : List Nat} {u v : Vec} (h : Rep p m L u) (hv : ∀ i, i < m -> u i % (p : Int) = v i % (p : Int)) : Rep p m L v := ⟨h.1, fun i hi => by rw [h.2 i hi, hv i hi]⟩
theorem Jwz (x : Nat) (l : List Nat) : az (x :: l) = bif Nat.beq x 0 then az l else false := rfl
theorem Jhe : ∀ l : List Nat, az l = true ↔ ∀ i, i < l.length -> l.getD i 0 = 0
 | [] => ⟨fun _ i h => by simp at h, fun _ => rfl⟩
 | x :: l => by
  rw [Jwz]; cases hx : Nat.beq x 0 with
  | true =>
   have := Nat.eq_of_beq_eq_true hx; subst this; rw [show (bif true then az l else false) = az l from rfl, Jhe l]; constructor
   .intro h i hi; cases i with
    | zero => rfl
    | succ i => exact h i (by simpa using hi)
   .intro h i hi; exact h (i + 1) (by simpa using hi)
  | false =>
   rw [show (bif false then az l else false) = false from rfl]; constructor
   .intro h; cases h
   .intro h; have := h 0 (by simp); simp only [List.getD_cons_zero] at this; subst this; cases hx
theorem Jm8 {p m x : Nat} {L : List Nat} (hp : 2 <= p) (hm : 0 < m) (hx : x < p ^ m) (h : Rep p m L (Go.Proofs.YtgjloioccgcceaaGreat.dv p x)) : is1 L = true ↔ x = 1 := by
 obtain ⟨a, l, rfl⟩ : ∃ a l, L = a :: l := by
  cases L with
  | nil => have := h.1; simp at this; omega
  | cons a l => exact ⟨a, l, rfl⟩
 have hlen : l.length + 1 = m := h.1; have h0 := h.2 0 hm; have e : is1 (a :: l) = bif Nat.beq a 1 then az l else false := rfl; rw [e]; constructor
 .intro hb; cases ha : Nat.beq a 1 with
  | false => rw [ha] at hb; cases hb
  | true =>
   rw [ha] at hb; have hz := (Jhe l).1 hb; have ha1 := Nat.eq_of_beq_eq_true ha; subst ha1; rw [<- Jaj (p := p) (m := m) (by omega) hx, <- Jaj (p := p) (m := m) (x := 1) (by omega) (Nat.one_lt_pow (by omega) (by omega))]; refine Jts fun i hi => ?_; rw [Jg9 hp, Jao, <- Jao, <- h.2 i hi]; cases i with
   | zero =>
    show (1 : Int) = e0 0 % p; simp only [e0, if_pos]; exact (Int.emod_eq_of_lt (by omega) (by omega)).symm
   | succ i =>
    show ((l.getD i 0 : Nat) : Int) = e0 (i + 1) % p; rw [hz i (by omega)]; simp [e0]
 .intro hx1; subst hx1; have ha : a = 1 := by
   have : ((a : Nat) : Int) = Go.Proofs.YtgjloioccgcceaaGreat.dv p 1 0 % p := h0; rw [Jao, Jg9 hp] at this; simp [e0] at this; omega
  subst ha; show az l = true; refine (Jhe l).2 fun i hi => ?_; have : ((l.getD i 0 : Nat) : Int) = Go.Proofs.YtgjloioccgcceaaGreat.dv p 1 (i + 1) % p := h.2 (i + 1) (by omega); rw [Jao, Jg9 hp] at this; simp only [e0] at this; rw [if_neg (by omega)] at this; exact Int.ofNat_eq_zero.1 this
def gel (p m : Nat) (c : Vec) (gs : List Nat) : Nat := nm p m (hl m c e0 gs e0)
theorem Jj1 {p m x : Nat} {cs L gs : List Nat} {c : Vec} (hp : 2 <= p) (hm : 0 < m) (hx : x < p ^ m) (hc : Rep p m cs c) (h : Rep p m L (Go.Proofs.YtgjloioccgcceaaGreat.dv p x)) : Rep p m (Jkv p cs L gs L) (Go.Proofs.YtgjloioccgcceaaGreat.dv p (JE p m c x (gel p m c gs))) := by
 have h1 := Rep.mul (gs := gs) (by omega) hm hc h h; rw [hl_mul hm (Yb hx)] at h1; refine h1.cg fun i hi => ?_; have hs := Jk1 (c := c) (gs := gs) (Jg8 hm) (Jg8 hm); have e1 := Jbf (p := p) (m := m) (c := c) (by omega) hx (y := gel p m c gs); have e2 := vcg.mul (m := m) (vcg.refl (p := p) c) (vcg.refl (Go.Proofs.YtgjloioccgcceaaGreat.dv p x)) (Jjn (p := p) (m := m) (by omega) hs); exact ((e1.trans e2) i).symm
theorem Js6 (p : Nat) (cs gs : List Nat) (n : Nat) (y : List Nat) : run p cs gs (n + 1) y = bif is1 y then false else run p cs gs n (Jkv p cs y gs y) := rfl
theorem Js7 {p m : Nat} {cs gs : List Nat} {c : Vec} (hp : 2 <= p) (hm : 0 < m) (hc : Rep p m cs c) : ∀ {n : Nat} {L : List Nat} {x : Nat}, x < p ^ m -> Rep p m L (Go.Proofs.YtgjloioccgcceaaGreat.dv p x) -> run p cs gs n L = true ->
  (∀ k, k < n -> JE p m c x (pw (JE p m c) (gel p m c gs) k) ≠ 1) /\ JE p m c x (pw (JE p m c) (gel p m c gs) n) = 1
 | 0, L, x, hx, h, hr => by
  refine ⟨fun k hk => by omega, ?_⟩; show JE p m c x 1 = 1; rw [Jel hp hm hx]; exact (Jm8 hp hm hx h).1 hr
 | n + 1, L, x, hx, h, hr => by
  rw [Js6] at hr; cases h1 : is1 L with
  | true => rw [h1] at hr; cases hr
  | false =>
   rw [h1] at hr; have R := Jl9 (p := p) (m := m) c hp hm; have hg : gel p m c gs < p ^ m := Jai (by omega) _; have ih := Js7 hp hm hc (Jg5 (by omega) x _) (Jj1 (gs := gs) hp hm hx hc h) hr; have e : ∀ k, JE p m c (JE p m c x (gel p m c gs)) (pw (JE p m c) (gel p m c gs) k) = JE p m c x (pw (JE p m c) (gel p m c gs) (k + 1)) := fun k => by
    rw [R.Ma hx hg (R.pw_lt _ k), R.Mc hg (R.pw_lt _ k)]; rfl
   refine ⟨fun k hk => ?_, by rw [<- e]; exact ih.2⟩; cases k with
   | zero =>
    show JE p m c x 1 ≠ 1; rw [Jel hp hm hx]; intro hx1; rw [(Jm8 hp hm hx h).2 hx1] at h1; cases h1
   | succ k => rw [<- e]; exact ih.1 k (by omega)
theorem Jws {p m : Nat} {cs gs : List Nat} {c : Vec} (hp : 2 <= p) (hm : 0 < m) (hc : Rep p m cs c) (h : gen1 p m cs gs = true) : Gn (p ^ m) (JE p m c) (gel p m c gs) := by
 have R := Jl9 (p := p) (m := m) c hp hm; have hg : gel p m c gs < p ^ m := Jai (by omega) _; have h1 := Jj1 (gs := gs) hp hm R.one_lt hc Jvi; rw [R.I1 hg] at h1; obtain ⟨h2, h3⟩ := Js7 hp hm hc hg h1 h; have hq := R.q2; have e : ∀ k, JE p m c (gel p m c gs) (pw (JE p m c) (gel p m c gs) k) = pw (JE p m c) (gel p m c gs) (k + 1) := fun k => R.Mc hg (R.pw_lt _ k); refine ⟨hg, ?_, fun k h0 hk => ?_⟩
 .rw [show p ^ m - 1 = (p ^ m - 2) + 1 by omega, <- e]; exact h3
 .rw [show k = (k - 1) + 1 by omega, <- e]; exact h2 (k - 1) (by omega)
theorem Jtr (f : Nat -> Bool) (n : Nat) : nob f (n + 1) = bif f n then false else nob f n := rfl
theorem ZY (f : Nat -> Bool) : ∀ n, nob f n = true ↔ ∀ i, i < n -> f i = false
 | 0 => ⟨fun _ i h => by omega, fun _ => rfl⟩
 | n + 1 => by
  rw [Jtr]; cases h : f n with
  | true =>
   refine ⟨fun h' => ?_, fun h' => ?_⟩
   .cases h'
   .rw [h' n (by omega)] at h; cases h
  | false =>
   show nob f n = true ↔ _; rw [ZY f n]; refine ⟨fun h' i hi => ?_, fun h' i hi => h' i (by omega)⟩; rcases Nat.lt_or_ge i n with h1 | h1
   .exact h' i h1
   .rw [show i = n by omega]; exact h
theorem Joj (f : Nat -> Bool) (n : Nat) (h : nob f n = false) : ∃ i, i < n /\ f i = true := by
 have hn : ¬ ∀ i, i < n -> f i = false := fun h' => by rw [(ZY f n).2 h'] at h; cases h
 have := Classical.not_forall.1 hn; obtain ⟨i, hi⟩ := this; have h2 := Classical.not_imp.1 hi; exact ⟨i, h2.1, by cases hf : f i with | true => rfl | false => exact absurd hf h2.2⟩
theorem Jm9 {p m : Nat} {cs : List Nat} {c : Vec} (hp : 2 <= p) (hm : 0 < m) (hc : Rep p m cs c) (h : Jk5 p m cs = true) : ∃ g, Gn (p ^ m) (JE p m c) g := by
 unfold Jk5 at h; obtain ⟨i, _, hi⟩ := Joj _ _ (by simpa using h); exact ⟨_, Jws hp hm hc hi⟩
def rst (p d i : Nat) (l R : Vec) : Vec := fun j => if i <= j + d /\ j < i then (R j - l (j + d - i) * R i) % (p : Int) else R j
def rem (p d : Nat) (l R : Vec) (n : Nat) : Nat -> Vec
  | 0 => R
  | k + 1 => rst p d (n - 1 - k) l (rem p d l R n k)
def Dvd (p d : Nat) (l R : Vec) (n : Nat) : Prop := ∀ j, j < d -> rem p d l R n (n - d) j = 0
def Irr (p m : Nat) (c : Vec) : Prop := ∀ d, 0 < d -> 2 * d <= m -> ∀ w, w < p ^ d -> ¬ Dvd p d (dv p w) (fun i => if i = m then 1 else c i) (m + 1)
theorem Jb0 (p c a : Nat) (al bs : List Nat) : Jij p c (a :: al) bs = ((hd0 bs + (p - a) * c) % p) :: Jij p c al (tl0 bs) := rfl
theorem Jii (p c : Nat) : ∀ al bs : List Nat, al.length <= bs.length -> (Jij p c al bs).length = bs.length
 | [], _, _ => rfl
 | a :: al, [], h => by simp at h
 | a :: al, b :: bs, h => by
  rw [Jb0, List.length_cons]; show (Jij p c al bs).length + 1 = _; rw [Jii p c al bs (by simpa using h)]; rfl
theorem Jml (p c : Nat) : ∀ (al bs : List Nat) (t : Nat), (Jij p c al bs).getD t 0 = if t < al.length then (bs.getD t 0 + (p - al.getD t 0) * c) % p else bs.getD t 0
 | [], bs, t => by simp; rfl
 | a :: al, bs, 0 => by rw [Jb0, Jg2]; simp
 | a :: al, bs, t + 1 => by
  rw [Jb0]; show (Jij p c al (tl0 bs)).getD t 0 = _; rw [Jml p c al (tl0 bs) t, Jd1]; simp
theorem Jt9 (p : Nat) (low : List Nat) (k : Nat) (r : List Nat) : dvg p low (k + 1) r = dvg p low k (Jij p (hd0 r) low (tl0 r)) := rfl
theorem Jua {p d n : Nat} {l R : Vec} {low : List Nat} (hp : 0 < p) (hl : low.length = d) (hlow : ∀ t, t < d -> ((low.getD t 0 : Nat) : Int) = l (d - 1 - t)) (hlp : ∀ t, t < d -> low.getD t 0 <= p) : ∀ (s k : Nat) (r : List Nat), s + k + d = n -> r.length = n - k ->
  (∀ t, t < n - k -> ((r.getD t 0 : Nat) : Int) = rem p d l R n k (n - 1 - k - t)) -> (dvg p low s r = true ↔ Dvd p d l R n)
 | 0, k, r, hs, hr, hv => by
  have : n - k = d := by omega
  rw [this] at hr hv; show az r = true ↔ _; rw [Jhe, hr]; have hk : n - d = k := by omega
  unfold Dvd; rw [hk]; constructor
  .intro h j hj; have := hv (d - 1 - j) (by omega); rw [h (d - 1 - j) (by omega), show n - 1 - k - (d - 1 - j) = j by omega] at this; exact this.symm
  .intro h t ht; have := hv t ht; rw [h (n - 1 - k - t) (by omega)] at this; exact Int.ofNat_eq_zero.1 this
 | s + 1, k, r, hs, hr, hv => by
  rw [Jt9]; have htl : (tl0 r).length = n - (k + 1) := by rw [Jvu, hr]; omega
  refine Jua hp hl hlow hlp s (k + 1) _ (by omega) (by rw [Jii _ _ _ _ (by rw [htl, hl]; omega), htl]) fun t ht => ?_; rw [Jml, hl, Jd1, Jg2]; have h0 := hv 0 (by omega); rw [Nat.sub_zero] at h0; have h1 := hv (t + 1) (by omega); rw [show n - 1 - k - (t + 1) = n - 1 - (k + 1) - t by omega] at h1; show _ = rst p d (n - 1 - k) l (rem p d l R n k) (n - 1 - (k + 1) - t); unfold rst; by_cases htd : t < d
  .rw [if_pos htd, if_pos (by omega)]; have h2 := hlow t htd; have h3 := hlp t htd; rw [show n - 1 - (k + 1) - t + d - (n - 1 - k) = d - 1 - t by omega, <- h0, <- h1, <- h2]; generalize r.getD (t + 1) 0 = X at *
   generalize low.getD t 0 = Y at *
   generalize r.getD 0 0 = Z at *
   obtain ⟨D, hD⟩ : ∃ D, p = Y + D := ⟨p - Y, by omega⟩
   rw [show p - Y = D by omega, Int.natCast_emod]; have hcast : ((X + D * Z : Nat) : Int) = ((X : Int) - Y * Z) + p * Z := by
    have : (p : Int) = Y + D := by omega
    rw [this]; push_cast; rw [Int.add_mul]; omega
   rw [hcast, Int.add_mul_emod_self_left]
  .rw [if_neg htd, if_neg (by omega)]; exact h1
theorem Jek (l : List Nat) (t : Nat) (h : t < l.length) : l.reverse.getD t 0 = l.getD (l.length - 1 - t) 0 := by
 rw [List.getD_eq_getElem?_getD, List.getD_eq_getElem?_getD, List.getElem?_reverse h]
theorem Jeq {p : Nat} (hp : 0 < p) (x i : Nat) : 0 <= dv p x i /\ dv p x i < p := Jfu hp x (i + 1) i (by omega)
theorem Jtx {p m v : Nat} (hp : 0 < p) (hv : v < p ^ m) : irrB p m (dgl p m v) = true ↔ Irr p m (dv p v) := by
 have key : ∀ d w, 0 < d -> 2 * d <= m -> (dvg p (dgl p d w).reverse (m + 1 - d) (1 :: (dgl p m v).reverse) = true ↔ Dvd p d (dv p w) (fun i => if i = m then 1 else dv p v i) (m + 1)) := fun d w hd h2 => by
  refine Jua hp (by rw [List.length_reverse, QV]) (fun t ht => ?_) (fun t ht => ?_) (m + 1 - d) 0 _ (by omega) (by simp [QV]) fun t ht => ?_
  .rw [Jek _ _ (by rw [QV]; exact ht), QV, Jcf _ _ _ _ (by omega)]
  .rw [Jek _ _ (by rw [QV]; exact ht), QV]; have := Jcf p d w (d - 1 - t) (by omega); have := Jeq hp w (d - 1 - t); omega
  .show _ = if m + 1 - 1 - 0 - t = m then (1 : Int) else dv p v (m + 1 - 1 - 0 - t)
   cases t with
   | zero => rw [if_pos (by omega)]; rfl
   | succ t =>
    rw [if_neg (by omega)]; show (((dgl p m v).reverse.getD t 0 : Nat) : Int) = _; rw [Jek _ _ (by rw [QV]; omega), QV, Jcf _ _ _ _ (by omega), show m + 1 - 1 - 0 - (t + 1) = m - 1 - t by omega]
 unfold irrB; rw [ZY]; constructor
 .intro h d hd h2 w hw hD; have h3 := h (d - 1) (by omega); have h4 := (ZY _ _).1 (by simpa using h3) w (by rw [show d - 1 + 1 = d by omega]; exact hw); rw [show d - 1 + 1 = d by omega, show m - (d - 1) = m + 1 - d by omega, (key d w hd h2).2 hD] at h4; cases h4
 .intro h d hd; have : nob (fun w => dvg p (dgl p (d + 1) w).reverse (m - d) (1 :: (dgl p m v).reverse)) (p ^ (d + 1)) = true := (ZY _ _).2 fun w hw => by
   cases hb : dvg p (dgl p (d + 1) w).reverse (m - d) (1 :: (dgl p m v).reverse) with
   | false => rfl
   | true =>
    rw [show m - d = m + 1 - (d + 1) by omega] at hb; exact absurd ((key (d + 1) w (by omega) (by omega)).1 hb) (h (d + 1) (by omega) (by omega) w hw)
  rw [this]; rfl
theorem JR {p m lo n v : Nat} (hp : 2 <= p) (hm : 0 < m) (h : chk p m lo n = true) (h1 : lo <= v) (h2 : v < lo + n) (hv : v < p ^ m) (hi : Irr p m (dv p v)) : ∃ g, Gn (p ^ m) (JE p m (dv p v)) g := by
 have h3 := (ZY _ _).1 h (v - lo) (by omega); simp only [show lo + (v - lo) = v by omega, (Jtx (by omega) hv).2 hi, cond_true] at h3; exact Jm9 hp hm Jvi (by simpa using h3)
end Go.Proofs.YtgjloioccgcceaaGreat
namespace Go.Proofs.YtgjloioccgcceaaGreat
theorem Jo7 : chk 2 2 0 4 = true := by decide +kernel
theorem Jo6 : chk 2 3 0 8 = true := by decide +kernel
theorem Jo5 : chk 2 4 0 16 = true := by decide +kernel
theorem Jo4 : chk 2 5 0 32 = true := by decide +kernel
theorem Jo3 : chk 2 6 0 64 = true := by decide +kernel
theorem Jo2 : chk 2 7 0 64 = true := by decide +kernel
theorem Jlk : chk 2 7 64 64 = true := by decide +kernel
theorem Jo1 : chk 2 8 0 24 = true := by decide +kernel
theorem Jlj : chk 2 8 24 24 = true := by decide +kernel
theorem Jli : chk 2 8 48 24 = true := by decide +kernel
theorem Jlh : chk 2 8 72 24 = true := by decide +kernel
theorem Jlg : chk 2 8 96 24 = true := by decide +kernel
theorem Jjk : chk 2 8 120 24 = true := by decide +kernel
theorem Jjj : chk 2 8 144 24 = true := by decide +kernel
theorem Jji : chk 2 8 168 24 = true := by decide +kernel
theorem Jjh : chk 2 8 192 24 = true := by decide +kernel
theorem Jjg : chk 2 8 216 24 = true := by decide +kernel
theorem Jjf : chk 2 8 240 16 = true := by decide +kernel
theorem Jo0 : chk 3 2 0 9 = true := by decide +kernel
theorem Joz : chk 3 3 0 27 = true := by decide +kernel
theorem Joy : chk 3 4 0 64 = true := by decide +kernel
theorem Jlf : chk 3 4 64 17 = true := by decide +kernel
theorem Jox : chk 3 5 0 24 = true := by decide +kernel
theorem Jle : chk 3 5 24 24 = true := by decide +kernel
theorem Jld : chk 3 5 48 24 = true := by decide +kernel
theorem Jlc : chk 3 5 72 24 = true := by decide +kernel
theorem Jlb : chk 3 5 96 24 = true := by decide +kernel
theorem Jje : chk 3 5 120 24 = true := by decide +kernel
theorem Jjd : chk 3 5 144 24 = true := by decide +kernel
theorem Jjc : chk 3 5 168 24 = true := by decide +kernel
theorem Jjb : chk 3 5 192 24 = true := by decide +kernel
theorem Jja : chk 3 5 216 24 = true := by decide +kernel
theorem Ji9 : chk 3 5 240 3 = true := by decide +kernel
theorem Jow : chk 5 2 0 25 = true := by decide +kernel
theorem Jov : chk 5 3 0 64 = true := by decide +kernel
theorem Jla : chk 5 3 64 61 = true := by decide +kernel
theorem Jou : chk 7 2 0 49 = true := by decide +kernel
theorem Jlm : chk 11 2 0 64 = true := by decide +kernel
theorem Jjm : chk 11 2 64 57 = true := by decide +kernel
theorem Jll : chk 13 2 0 64 = true := by decide +kernel
theorem Jjl : chk 13 2 64 64 = true := by decide +kernel
theorem Jhb : chk 13 2 128 41 = true := by decide +kernel
theorem chk1_0 : ([2, 3, 5, 7, 11, 13, 17, 19, 23, 29, 31, 37, 41, 43, 47, 53, 59, 61] : List Nat).all (fun p => Jk5 p 1 [0]) = true := by decide +kernel
theorem chk1_1 : ([67, 71, 73, 79, 83, 89, 97, 101, 103, 107, 109, 113, 127, 131, 137, 139, 149, 151] : List Nat).all (fun p => Jk5 p 1 [0]) = true := by decide +kernel
theorem chk1_2 : ([157, 163, 167, 173, 179, 181, 191, 193, 197, 199, 211, 223, 227, 229, 233, 239, 241, 251] : List Nat).all (fun p => Jk5 p 1 [0]) = true := by decide +kernel
theorem gx_2_2 {v : Nat} (hv : v < 2 ^ 2) (hI : Irr 2 2 (dv 2 v)) : ∃ g, Gn (2 ^ 2) (JE 2 2 (dv 2 v)) g := by
 have hv2 : v < 4 := hv; exact JR (by decide) (by decide) Jo7 (by omega) (by omega) hv hI
theorem gx_2_3 {v : Nat} (hv : v < 2 ^ 3) (hI : Irr 2 3 (dv 2 v)) : ∃ g, Gn (2 ^ 3) (JE 2 3 (dv 2 v)) g := by
 have hv2 : v < 8 := hv; exact JR (by decide) (by decide) Jo6 (by omega) (by omega) hv hI
theorem gx_2_4 {v : Nat} (hv : v < 2 ^ 4) (hI : Irr 2 4 (dv 2 v)) : ∃ g, Gn (2 ^ 4) (JE 2 4 (dv 2 v)) g := by
 have hv2 : v < 16 := hv; exact JR (by decide) (by decide) Jo5 (by omega) (by omega) hv hI
theorem gx_2_5 {v : Nat} (hv : v < 2 ^ 5) (hI : Irr 2 5 (dv 2 v)) : ∃ g, Gn (2 ^ 5) (JE 2 5 (dv 2 v)) g := by
 have hv2 : v < 32 := hv; exact JR (by decide) (by decide) Jo4 (by omega) (by omega) hv hI
theorem gx_2_6 {v : Nat} (hv : v < 2 ^ 6) (hI : Irr 2 6 (dv 2 v)) : ∃ g, Gn (2 ^ 6) (JE 2 6 (dv 2 v)) g := by
 have hv2 : v < 64 := hv; exact JR (by decide) (by decide) Jo3 (by omega) (by omega) hv hI
theorem gx_2_7 {v : Nat} (hv : v < 2 ^ 7) (hI : Irr 2 7 (dv 2 v)) : ∃ g, Gn (2 ^ 7) (JE 2 7 (dv 2 v)) g := by
 have hv2 : v < 128 := hv; rcases Nat.lt_or_ge v 64 with h | h
 .exact JR (by decide) (by decide) Jo2 (by omega) (by omega) hv hI
 exact JR (by decide) (by decide) Jlk (by omega) (by omega) hv hI
theorem gx_2_8 {v : Nat} (hv : v < 2 ^ 8) (hI : Irr 2 8 (dv 2 v)) : ∃ g, Gn (2 ^ 8) (JE 2 8 (dv 2 v)) g := by
 have hv2 : v < 256 := hv; rcases Nat.lt_or_ge v 24 with h | h
 .exact JR (by decide) (by decide) Jo1 (by omega) (by omega) hv hI
 rcases Nat.lt_or_ge v 48 with h | h
 .exact JR (by decide) (by decide) Jlj (by omega) (by omega) hv hI
 rcases Nat.lt_or_ge v 72 with h | h
 .exact JR (by decide) (by decide) Jli (by omega) (by omega) hv hI
 rcases Nat.lt_or_ge v 96 with h | h
 .exact JR (by decide) (by decide) Jlh (by omega) (by omega) hv hI
 rcases Nat.lt_or_ge v 120 with h | h
 .exact JR (by decide) (by decide) Jlg (by omega) (by omega) hv hI
 rcases Nat.lt_or_ge v 144 with h | h
 .exact JR (by decide) (by decide) Jjk (by omega) (by omega) hv hI
 rcases Nat.lt_or_ge v 168 with h | h
 .exact JR (by decide) (by decide) Jjj (by omega) (by omega) hv hI
 rcases Nat.lt_or_ge v 192 with h | h
 .exact JR (by decide) (by decide) Jji (by omega) (by omega) hv hI
 rcases Nat.lt_or_ge v 216 with h | h
 .exact JR (by decide) (by decide) Jjh (by omega) (by omega) hv hI
 rcases Nat.lt_or_ge v 240 with h | h
 .exact JR (by decide) (by decide) Jjg (by omega) (by omega) hv hI
 exact JR (by decide) (by decide) Jjf (by omega) (by omega) hv hI
theorem gx_3_2 {v : Nat} (hv : v < 3 ^ 2) (hI : Irr 3 2 (dv 3 v)) : ∃ g, Gn (3 ^ 2) (JE 3 2 (dv 3 v)) g := by
 have hv2 : v < 9 := hv; exact JR (by decide) (by decide) Jo0 (by omega) (by omega) hv hI
theorem gx_3_3 {v : Nat} (hv : v < 3 ^ 3) (hI : Irr 3 3 (dv 3 v)) : ∃ g, Gn (3 ^ 3) (JE 3 3 (dv 3 v)) g := by
 have hv2 : v < 27 := hv; exact JR (by decide) (by decide) Joz (by omega) (by omega) hv hI
theorem gx_3_4 {v : Nat} (hv : v < 3 ^ 4) (hI : Irr 3 4 (dv 3 v)) : ∃ g, Gn (3 ^ 4) (JE 3 4 (dv 3 v)) g := by
 have hv2 : v < 81 := hv; rcases Nat.lt_or_ge v 64 with h | h
 .exact JR (by decide) (by decide) Joy (by omega) (by omega) hv hI
 exact JR (by decide) (by decide) Jlf (by omega) (by omega) hv hI
theorem gx_3_5 {v : Nat} (hv : v < 3 ^ 5) (hI : Irr 3 5 (dv 3 v)) : ∃ g, Gn (3 ^ 5) (JE 3 5 (dv 3 v)) g := by
 have hv2 : v < 243 := hv; rcases Nat.lt_or_ge v 24 with h | h
 .exact JR (by decide) (by decide) Jox (by omega) (by omega) hv hI
 rcases Nat.lt_or_ge v 48 with h | h
 .exact JR (by decide) (by decide) Jle (by omega) (by omega) hv hI
 rcases Nat.lt_or_ge v 72 with h | h
 .exact JR (by decide) (by decide) Jld (by omega) (by omega) hv hI
 rcases Nat.lt_or_ge v 96 with h | h
 .exact JR (by decide) (by decide) Jlc (by omega) (by omega) hv hI
 rcases Nat.lt_or_ge v 120 with h | h
 .exact JR (by decide) (by decide) Jlb (by omega) (by omega) hv hI
 rcases Nat.lt_or_ge v 144 with h | h
 .exact JR (by decide) (by decide) Jje (by omega) (by omega) hv hI
 rcases Nat.lt_or_ge v 168 with h | h
 .exact JR (by decide) (by decide) Jjd (by omega) (by omega) hv hI
 rcases Nat.lt_or_ge v 192 with h | h
 .exact JR (by decide) (by decide) Jjc (by omega) (by omega) hv hI
 rcases Nat.lt_or_ge v 216 with h | h
 .exact JR (by decide) (by decide) Jjb (by omega) (by omega) hv hI
 rcases Nat.lt_or_ge v 240 with h | h
 .exact JR (by decide) (by decide) Jja (by omega) (by omega) hv hI
 exact JR (by decide) (by decide) Ji9 (by omega) (by omega) hv hI
theorem gx_5_2 {v : Nat} (hv : v < 5 ^ 2) (hI : Irr 5 2 (dv 5 v)) : ∃ g, Gn (5 ^ 2) (JE 5 2 (dv 5 v)) g := by
 have hv2 : v < 25 := hv; exact JR (by decide) (by decide) Jow (by omega) (by omega) hv hI
theorem gx_5_3 {v : Nat} (hv : v < 5 ^ 3) (hI : Irr 5 3 (dv 5 v)) : ∃ g, Gn (5 ^ 3) (JE 5 3 (dv 5 v)) g := by
 have hv2 : v < 125 := hv; rcases Nat.lt_or_ge v 64 with h | h
 .exact JR (by decide) (by decide) Jov (by omega) (by omega) hv hI
 exact JR (by decide) (by decide) Jla (by omega) (by omega) hv hI
theorem gx_7_2 {v : Nat} (hv : v < 7 ^ 2) (hI : Irr 7 2 (dv 7 v)) : ∃ g, Gn (7 ^ 2) (JE 7 2 (dv 7 v)) g := by
 have hv2 : v < 49 := hv; exact JR (by decide) (by decide) Jou (by omega) (by omega) hv hI
theorem Jwr {v : Nat} (hv : v < 11 ^ 2) (hI : Irr 11 2 (dv 11 v)) : ∃ g, Gn (11 ^ 2) (JE 11 2 (dv 11 v)) g := by
 have hv2 : v < 121 := hv; rcases Nat.lt_or_ge v 64 with h | h
 .exact JR (by decide) (by decide) Jlm (by omega) (by omega) hv hI
 exact JR (by decide) (by decide) Jjm (by omega) (by omega) hv hI
theorem Jwq {v : Nat} (hv : v < 13 ^ 2) (hI : Irr 13 2 (dv 13 v)) : ∃ g, Gn (13 ^ 2) (JE 13 2 (dv 13 v)) g := by
 have hv2 : v < 169 := hv; rcases Nat.lt_or_ge v 64 with h | h
 .exact JR (by decide) (by decide) Jll (by omega) (by omega) hv hI
 rcases Nat.lt_or_ge v 128 with h | h
 .exact JR (by decide) (by decide) Jjl (by omega) (by omega) hv hI
 exact JR (by decide) (by decide) Jhb (by omega) (by omega) hv hI
noncomputable def prL : List Nat := [2, 3, 5, 7, 11, 13, 17, 19, 23, 29, 31, 37, 41, 43, 47, 53, 59, 61, 67, 71, 73, 79, 83, 89, 97, 101, 103, 107, 109, 113, 127, 131, 137, 139, 149, 151, 157, 163, 167, 173, 179, 181, 191, 193, 197, 199, 211, 223, 227, 229, 233, 239, 241, 251]
theorem Jv5 : (List.range 257).all (fun p => prL.contains p || Nat.blt p 2 || (List.range p).any (fun e => Nat.ble 2 e && Nat.beq (p % e) 0)) = true := by decide +kernel
theorem Jv4 {p : Nat} (hp : IsLf p p) (h : p <= 256) : p ∈ prL := by
 have h1 := List.all_eq_true.1 Jv5 p (List.mem_range.2 (by omega)); simp only [Bool.or_eq_true, List.contains_iff_mem, List.any_eq_true, List.mem_range, Bool.and_eq_true] at h1; rcases h1 with (h1 | h1) | ⟨e, he, h2, h3⟩
 .exact h1
 .have := hp.two; have := Nat.le_of_ble_eq_true h1; omega
 .have := hp.min e (Nat.le_of_ble_eq_true h2) (Nat.eq_of_beq_eq_true h3); omega
theorem gx_1 {p : Nat} (hp : IsLf p p) (h : p <= 256) : ∃ g, Gn (p ^ 1) (JE p 1 (dv p 0)) g := by
 have hm := Jv4 hp h; have hg : Jk5 p 1 [0] = true := by
  unfold prL at hm; rw [show ([2, 3, 5, 7, 11, 13, 17, 19, 23, 29, 31, 37, 41, 43, 47, 53, 59, 61, 67, 71, 73, 79, 83, 89, 97, 101, 103, 107, 109, 113, 127, 131, 137, 139, 149, 151, 157, 163, 167, 173, 179, 181, 191, 193, 197, 199, 211, 223, 227, 229, 233, 239, 241, 251] : List Nat) = ([2, 3, 5, 7, 11, 13, 17, 19, 23, 29, 31, 37, 41, 43, 47, 53, 59, 61] : List Nat) ++ ([67, 71, 73, 79, 83, 89, 97, 101, 103, 107, 109, 113, 127, 131, 137, 139, 149, 151] : List Nat) ++ ([157, 163, 167, 173, 179, 181, 191, 193, 197, 199, 211, 223, 227, 229, 233, 239, 241, 251] : List Nat) from rfl] at hm; simp only [List.mem_append] at hm; rcases hm with (h | h) | h
  .exact List.all_eq_true.1 chk1_0 p h
  .exact List.all_eq_true.1 chk1_1 p h
  .exact List.all_eq_true.1 chk1_2 p h
 refine Jm9 hp.two (by decide) ⟨rfl, fun i hi => ?_⟩ hg; rw [show i = 0 by omega, Jep]; simp [vz]
theorem Jte {p m : Nat} (hp : IsLf p p) (hm : 2 <= m) (hq : p ^ m <= 256) : (p = 2 /\ m = 2) ∨ (p = 2 /\ m = 3) ∨ (p = 2 /\ m = 4) ∨ (p = 2 /\ m = 5) ∨ (p = 2 /\ m = 6) ∨ (p = 2 /\ m = 7) ∨ (p = 2 /\ m = 8) ∨ (p = 3 /\ m = 2) ∨ (p = 3 /\ m = 3) ∨ (p = 3 /\ m = 4) ∨ (p = 3 /\ m = 5) ∨ (p = 5 /\ m = 2) ∨ (p = 5 /\ m = 3) ∨ (p = 7 /\ m = 2) ∨ (p = 11 /\ m = 2) ∨ (p = 13 /\ m = 2) := by
  have h2 := hp.two
  have hpow : ∀ k, k <= m -> p ^ k <= 256 := fun k hk => Nat.le_trans (Nat.pow_le_pow_right (by omega) hk) hq
  have hp2 : p <= 16 := by
    rcases Nat.lt_or_ge 16 p with h | h
    . have h1 := hpow 2 hm
      have h3 : 17 ^ 2 <= p ^ 2 := Nat.pow_le_pow_left h 2
      omega
    . exact h
  have hnd : ∀ e, 2 <= e -> e < p -> p % e ≠ 0 := fun e he hlt h0 => by have := hp.min e he h0; omega
  have hc : p = 2 ∨ p = 3 ∨ p = 5 ∨ p = 7 ∨ p = 11 ∨ p = 13 := by
    have h3 := hnd 2 (by omega)
    have h4 := hnd 3 (by omega)
    omega
  rcases hc with rfl | rfl | rfl | rfl | rfl | rfl
  . have : m <= 8 := by
      rcases Nat.lt_or_ge 8 m with h | h
      . have := hpow 9 h; omega
      . exact h
    omega
  . have : m <= 5 := by
      rcases Nat.lt_or_ge 5 m with h | h
      . have := hpow 6 h; omega
      . exact h
    omega
  . have : m <= 3 := by
      rcases Nat.lt_or_ge 3 m with h | h
      . have := hpow 4 h; omega
      . exact h
    omega
  . have : m <= 2 := by
      rcases Nat.lt_or_ge 2 m with h | h
      . have := hpow 3 h; omega
      . exact h
    omega
  . have : m <= 2 := by
      rcases Nat.lt_or_ge 2 m with h | h
      . have := hpow 3 h; omega
      . exact h
    omega
  . have : m <= 2 := by
      rcases Nat.lt_or_ge 2 m with h | h
      . have := hpow 3 h; omega
      . exact h
    omega
theorem gen_ex {p m v : Nat} (hp : IsLf p p) (hm : 0 < m) (hq : p ^ m <= 256) (hv : v < p ^ m) (h1 : m = 1 -> v = 0) (hI : Irr p m (dv p v)) : ∃ g, Gn (p ^ m) (JE p m (dv p v)) g := by
  rcases Nat.lt_or_ge m 2 with h | h
  . have : m = 1 := by omega
    subst this
    rw [h1 rfl]
    exact gx_1 hp (by simpa using hq)
  . rcases Jte hp h hq with ⟨rfl, rfl⟩ | ⟨rfl, rfl⟩ | ⟨rfl, rfl⟩ | ⟨rfl, rfl⟩ | ⟨rfl, rfl⟩ | ⟨rfl, rfl⟩ | ⟨rfl, rfl⟩ | ⟨rfl, rfl⟩ | ⟨rfl, rfl⟩ | ⟨rfl, rfl⟩ | ⟨rfl, rfl⟩ | ⟨rfl, rfl⟩ | ⟨rfl, rfl⟩ | ⟨rfl, rfl⟩ | ⟨rfl, rfl⟩ | ⟨rfl, rfl⟩
    . exact gx_2_2 hv hI
    . exact gx_2_3 hv hI
    . exact gx_2_4 hv hI
    . exact gx_2_5 hv hI
    . exact gx_2_6 hv hI
    . exact gx_2_7 hv hI
    . exact gx_2_8 hv hI
    . exact gx_3_2 hv hI
    . exact gx_3_3 hv hI
    . exact gx_3_4 hv hI
    . exact gx_3_5 hv hI
    . exact gx_5_2 hv hI
    . exact gx_5_3 hv hI
    . exact gx_7_2 hv hI
    . exact Jwr hv hI
    . exact Jwq hv hI
end Go.Proofs.YtgjloioccgcceaaGreat
namespace Go.Proofs.YtgjloioccgcceaaGreat
def vo (l : LI) : Vec := fun i => l.getD i 0
theorem JP (l : LI) (i : Nat) : gi l (i : Int) = vo l i := rfl
theorem Qs (l : LI) (i : Nat) (x : Int) : si l (i : Int) x = l.set i x := rfl
theorem Jcs (a b : Nat) : (a : Int).tmod (b : Int) = ((a % b : Nat) : Int) := rfl
theorem Jsq (a b : Nat) : (a : Int).tdiv (b : Int) = ((a / b : Nat) : Int) := rfl
theorem Qe (l : LI) (i j : Nat) (x : Int) : vo (l.set i x) j = if i = j /\ i < l.length then x else vo l j := by
 unfold vo; rw [List.getD_eq_getElem?_getD, List.getD_eq_getElem?_getD, List.getElem?_set]; by_cases h : i = j
 .subst h; by_cases h2 : i < l.length
  .simp [h2]
  .simp [h2]
 .simp [h]
theorem Jj7 (n : Nat) (i : Nat) : vo (List.replicate n (0 : Int)) i = 0 := by
 unfold vo; rw [List.getD_eq_getElem?_getD, List.getElem?_replicate]; split <;> rfl
theorem Jdt {l : LI} {i : Nat} (h : l.length <= i) : vo l i = 0 := by
 unfold vo; rw [List.getD_eq_getElem?_getD, List.getElem?_eq_none h]; rfl
theorem YR {l o : LI} (h : l.length = o.length) (hv : ∀ i, i < l.length -> vo l i = vo o i) : l = o := by
 refine List.ext_getElem h fun i h1 h2 => ?_; have := hv i h1; unfold vo at this; rw [List.getD_eq_getElem?_getD, List.getD_eq_getElem?_getD, List.getElem?_eq_getElem h1, List.getElem?_eq_getElem h2] at this; exact this
theorem Js {x : Int} (h : -1000000000000 <= x) (h2 : x <= 1000000000000) : I64 x := ⟨by omega, by omega⟩
theorem YS {n : Nat} (h : n <= 1000000000000) : I64 (n : Int) := Js (by omega) (by omega)
def dgi (p n x : Nat) : LI := (dgl p n x).map fun (a : Nat) => (a : Int)
theorem JZ (p n x : Nat) : (dgi p n x).length = n := by simp [dgi, QV]
theorem QY {p n x i : Nat} (h : i < n) : vo (dgi p n x) i = dv p x i := by
 rw [<- Jcf p n x i h]; unfold vo dgi; rw [List.getD_eq_getElem?_getD, List.getElem?_map, List.getD_eq_getElem?_getD]; rw [List.getElem?_eq_getElem (by rw [QV]; exact h)]; rfl
theorem Jso {b : Bool} {Q : Int -> Prop} (h : Q (if b = true then 0 else 1)) : Jey b Q := by
 cases b
 .exact ⟨fun h' => absurd h' (by decide), fun _ => h⟩
 .exact ⟨fun _ => h, fun h' => absurd h' (by decide)⟩
theorem Jwm {n k : Nat} (hn : 2 <= n) (hk : n < k * k) (h : ∀ e, e < k -> 2 <= e -> n % e ≠ 0) : IsLf n n := by
 refine ⟨hn, Nat.mod_self n, fun e he hm => ?_⟩; rcases Nat.lt_or_ge e k with hc | hc
 .exact absurd hm (h e hc he)
 .obtain ⟨t, ht⟩ := Nat.dvd_of_mod_eq_zero hm; have hq1 : t < k := by
   rcases Nat.lt_or_ge t k with h1 | h1
   .exact h1
   .have := Nat.mul_le_mul hc h1; omega
  rcases Nat.lt_or_ge t 2 with h2 | h2
  .have : t = 0 ∨ t = 1 := by omega
   rcases this with rfl | rfl
   .omega
   .omega
  .exact absurd (Nat.mod_eq_zero_of_dvd ⟨e, by rw [ht, Nat.mul_comm]⟩) (h t hq1 h2)
theorem Jdw {x : Nat} {Q : Int -> Prop} (h2 : 2 <= x) (hx : x <= 256) (h : ∀ d : Nat, IsLf x d -> Q d) : Ye x Q := by
 refine ⟨fun z => ∃ k : Nat, z = k /\ 2 <= k /\ k <= 17 /\ ∀ e, e < k -> 2 <= e -> x % e ≠ 0, fun z => (20 - z).toNat, ⟨2, rfl, by omega, by omega, fun e _ _ => by omega⟩, ?_⟩; rintro _ ⟨k, rfl, hk2, hk, hm⟩; dsimp only; have e1 : ((k : Nat) : Int) * (k : Int) = ((k * k : Nat) : Int) := by push_cast; rfl
 have hb : k * k <= 17 * 17 := Nat.mul_le_mul hk hk; rw [e1]; refine ⟨Js (by omega) (by omega), fun hle => ⟨by omega, ?_, ?_⟩, fun hgt => ?_⟩
 .intro h0; rw [Jcs] at h0; refine h k ⟨hk2, by omega, fun e he h3 => ?_⟩; rcases Nat.lt_or_ge e k with hc | hc
  .exact absurd h3 (hm e hc he)
  .exact hc
 .intro h0; rw [Jcs] at h0; have hk16 : k <= 16 := by
   rcases Nat.lt_or_ge 16 k with hc | hc
   .have := Nat.mul_le_mul hc hc; omega
   .exact hc
  refine ⟨Js (by omega) (by omega), ⟨k + 1, by push_cast; rfl, by omega, by omega, fun e he h3 => ?_⟩, by omega⟩; rcases Nat.lt_or_ge e k with hc | hc
  .exact hm e hc h3
  .rw [show e = k by omega]; omega
 .exact h x (Jwm h2 (by omega) hm)
theorem IsLf.uniq {n d e : Nat} (h : IsLf n d) (h' : IsLf n e) : d = e := Nat.le_antisymm (h.min e h'.two h'.dvd) (h'.min d h.two h.dvd)
theorem Jn2 {x : Int} {Q : Bool -> Prop} (hx : x <= 256) (h : ∀ b : Bool, (b = true ↔ 2 <= x /\ IsLf x.toNat x.toNat) -> Q b) : Jaa x Q := by
 refine ⟨fun h2 => ?_, fun h2 => h false ⟨fun h' => by (cases h'), fun h' => absurd h'.1 h2⟩⟩; obtain ⟨n, rfl⟩ := Int.eq_ofNat_of_zero_le (show 0 <= x by omega); refine Jdw (by omega) (by omega) fun d hd => h _ ?_; rw [decide_eq_true_iff, Int.toNat_natCast]; constructor
 .intro he; have : d = n := by omega
  subst this; exact ⟨h2, hd⟩
 .rintro ⟨_, hn⟩; rw [hd.uniq hn]
theorem Jsl {x : Nat} {Q : Bool -> Prop} (h2 : 2 <= x) (hx : x <= 256) (h : ∀ b : Bool, (b = true ↔ IsLf x x) -> Q b) : Jbo x Q := by
 refine ⟨fun z => ∃ k : Nat, z = k /\ 2 <= k /\ k <= x /\ ∀ e, e < k -> 2 <= e -> x % e ≠ 0, fun z => (x - z).toNat, ⟨2, rfl, by omega, by omega, fun e _ _ => by omega⟩, ?_⟩; rintro _ ⟨k, rfl, hk2, hk, hm⟩; dsimp only; refine ⟨fun hlt => ⟨by omega, fun h0 => ?_, fun h0 => ?_⟩, fun hge => ?_⟩
 .rw [Jcs] at h0; refine h false ⟨fun h' => by (cases h'), fun hp => ?_⟩; have := hp.min k hk2 (by omega); omega
 .rw [Jcs] at h0; refine ⟨Js (by omega) (by omega), ⟨k + 1, by push_cast; rfl, by omega, by omega, fun e he h3 => ?_⟩, by omega⟩; rcases Nat.lt_or_ge e k with hc | hc
  .exact hm e hc h3
  .rw [show e = k by omega]; omega
 .refine h true ⟨fun _ => ⟨h2, Nat.mod_self x, fun e he h0 => ?_⟩, fun _ => rfl⟩; rcases Nat.lt_or_ge e x with hc | hc
  .exact absurd h0 (hm e (by omega) he)
  .exact hc
theorem Qu {p a b : Nat} (hp : 0 < p) (h : a <= b) : p ^ a <= p ^ b := Nat.pow_le_pow_right hp h
theorem Jf3 {p : Nat} {M : Int} {mf : LI} {Q : Int -> Prop} (hp : 2 <= p) (hp2 : p <= 256) (h : ∀ r : Int, (p ^ M.toNat <= 256 -> r = ((p ^ M.toNat : Nat) : Int)) -> (256 < p ^ M.toNat -> 256 < r) -> Q r) : Zr p M mf Q := by
 refine ⟨fun r => (p ^ M.toNat <= 256 -> r = ((p ^ M.toNat : Nat) : Int)) /\ (256 < p ^ M.toNat -> 256 < r), ⟨fun z i => ∃ k : Nat, i = k /\ k <= M.toNat /\ z = ((p ^ k : Nat) : Int) /\ p ^ k <= 65536 /\ k <= 16, fun z i => (20 - i).toNat, ⟨0, rfl, Nat.zero_le _, by simp, by simp, by omega⟩, ?_⟩, fun r hr => h r hr.1 hr.2⟩; rintro _ _ ⟨k, rfl, hk, rfl, hb, hk16⟩; dsimp only; refine ⟨fun hlt => ⟨fun hle => ?_, fun hgt => ?_⟩, fun hge => ?_⟩
 .have hk8 : p ^ k <= 256 := by omega
  have hkk : k < 16 := by
   rcases Nat.lt_or_ge k 16 with hc | hc
   .exact hc
   .have h1 := Qu (p := p) (by omega) hc; have h2 : 2 ^ 16 <= p ^ 16 := Nat.pow_le_pow_left hp 16; omega
  have e1 : ((p ^ k : Nat) : Int) * (p : Int) = ((p ^ (k + 1) : Nat) : Int) := by rw [Nat.pow_succ]; push_cast; rfl
  have hb2 : p ^ (k + 1) <= 65536 := by
   rw [Nat.pow_succ]; have := Nat.mul_le_mul hk8 hp2; omega
  rw [e1]; exact ⟨Js (by omega) (by omega), Js (by omega) (by omega), ⟨k + 1, by push_cast; rfl, by omega, rfl, hb2, by omega⟩, by omega⟩
 .have := Qu (p := p) (by omega) hk; exact ⟨fun h' => by omega, fun _ => by omega⟩
 .have : k = M.toNat := by omega
  subst this; exact ⟨fun _ => rfl, fun h' => by omega⟩
def Je5 (P M : Int) : Int := if 2 <= P /\ 1 <= M /\ P.toNat ^ M.toNat <= 256 then ((P.toNat ^ M.toNat : Nat) : Int) else 0
theorem Jdv {P M : Int} {mf : LI} {Q : Int -> Prop} (h : Q (Je5 P M)) : Y6 P M mf Q := by
 refine ⟨fun h1 => ?_, fun h1 => ⟨fun h2 => ?_, fun h2 => ⟨fun h3 => ?_, fun h3 => ?_⟩⟩⟩
 .rw [Je5, if_neg (by omega)] at h; exact h
 .rw [Je5, if_neg (by omega)] at h; exact h
 .rw [Je5, if_neg] at h
  .exact h
  .rintro ⟨h4, h5, h6⟩; have e1 : 2 ^ 9 <= P.toNat ^ 9 := Nat.pow_le_pow_left (by omega) 9; have e2 := Qu (p := P.toNat) (by omega) (show 9 <= M.toNat by omega); omega
 .obtain ⟨p, rfl⟩ := Int.eq_ofNat_of_zero_le (show 0 <= P by omega); obtain ⟨m, rfl⟩ := Int.eq_ofNat_of_zero_le (show 0 <= M by omega); refine ⟨fun z i => ∃ k : Nat, i = k /\ k <= m /\ z = ((p ^ k : Nat) : Int) /\ p ^ k <= 256, fun z i => (20 - i).toNat, ⟨0, rfl, Nat.zero_le _, by simp, by simp⟩, ?_⟩; rintro _ _ ⟨k, rfl, hk, rfl, hb⟩; dsimp only; rw [show (256 : Int) = ((256 : Nat) : Int) from rfl, Jsq]; have hd : 256 / p <= 256 := Nat.div_le_self _ _; have hdm : ∀ a, a <= 256 / p ↔ a * p <= 256 := fun a => Nat.le_div_iff_mul_le (show 0 < p by omega); generalize 256 / p = D at *
  refine ⟨fun hlt => ⟨⟨by omega, Js (by omega) (by omega)⟩, fun hgt => ?_, fun hle => ?_⟩, fun hge => ?_⟩
  .rw [Je5, if_neg] at h
   .exact h
   .rintro ⟨_, _, h6⟩; simp only [Int.toNat_natCast] at h6; have h7 : p ^ (k + 1) <= 256 := Nat.le_trans (Qu (by omega) (by omega)) h6; rw [Nat.pow_succ] at h7; have := (hdm _).2 h7; omega
  .have h7 : p ^ (k + 1) <= 256 := by rw [Nat.pow_succ]; exact (hdm _).1 (by omega)
   have e1 : ((p ^ k : Nat) : Int) * (p : Int) = ((p ^ (k + 1) : Nat) : Int) := by rw [Nat.pow_succ]; push_cast; rfl
   rw [e1]; exact ⟨Js (by omega) (by omega), Js (by omega) (by omega), ⟨k + 1, by push_cast; rfl, by omega, rfl, h7⟩, by omega⟩
  .have : k = m := by omega
   subst this; rw [Je5, if_pos ⟨by omega, by omega, by simpa using hb⟩] at h
   simpa using h
theorem Jbg (x p i : Nat) : x / p ^ i / p = x / p ^ (i + 1) := by rw [Nat.div_div_eq_div_mul, Nat.pow_succ]
theorem Jdy {p n x : Nat} {Q : LI -> Prop} (hp : 0 < p) (hn : n <= 1000) (hx : x <= 1000) (h : Q (dgi p n x)) : Za p n x Q := by
 refine ⟨⟨by omega, by omega, by omega⟩, fun l z i => ∃ k : Nat, i = k /\ k <= n /\ z = ((x / p ^ k : Nat) : Int) /\ l.length = n /\ ∀ j, j < k -> vo l j = dv p x j, fun l z i => (n - i).toNat, ⟨0, rfl, Nat.zero_le _, by simp, by simp, fun j hj => by omega⟩, ?_⟩; rintro l _ _ ⟨k, rfl, hk, rfl, hl, hv⟩; dsimp only; have hd : x / p ^ k <= x := Nat.div_le_self _ _; have hd2 : x / p ^ k / p <= x / p ^ k := Nat.div_le_self _ _; rw [Jsq, Jcs, Qs]; simp only [Int.toNat_natCast]; refine ⟨fun hlt => ⟨by omega, ⟨by omega, by omega⟩, ⟨by omega, YS (by omega)⟩, Js (by omega) (by omega), ⟨k + 1, by push_cast; rfl, by omega, by rw [Jbg], by rw [List.length_set, hl], fun j hj => ?_⟩, by omega⟩, fun hge => ?_⟩
 .rw [Qe]; by_cases hjk : k = j
  .subst hjk; rw [if_pos ⟨rfl, by omega⟩]; rfl
  .rw [if_neg (by omega)]; exact hv j (by omega)
 .have : l = dgi p n x := YR (by rw [hl, JZ]) fun j hj => by rw [hv j (by omega), QY (by omega)]
  rw [this]; exact h
theorem Jff {p n x : Nat} {Q : LI -> Prop} (hp : 0 < p) (hn : n <= 1000) (hx : x <= 1000) (h : Q (dgi p n x)) : Y4 x p n Q := by
 refine ⟨⟨by omega, by omega, by omega⟩, fun l z i => ∃ k : Nat, i = k /\ k <= n /\ z = ((x / p ^ k : Nat) : Int) /\ l.length = n /\ ∀ j, j < k -> vo l j = dv p x j, fun l z i => (n - i).toNat, ⟨0, rfl, Nat.zero_le _, by simp, by simp, fun j hj => by omega⟩, ?_⟩; rintro l _ _ ⟨k, rfl, hk, rfl, hl, hv⟩; dsimp only; have hd : x / p ^ k <= x := Nat.div_le_self _ _; have hd2 : x / p ^ k / p <= x / p ^ k := Nat.div_le_self _ _; rw [Jsq, Jcs, Qs]; simp only [Int.toNat_natCast]; refine ⟨fun hlt => ⟨by omega, ⟨by omega, by omega⟩, ⟨by omega, YS (by omega)⟩, Js (by omega) (by omega), ⟨k + 1, by push_cast; rfl, by omega, by rw [Jbg], by rw [List.length_set, hl], fun j hj => ?_⟩, by omega⟩, fun hge => ?_⟩
 .rw [Qe]; by_cases hjk : k = j
  .subst hjk; rw [if_pos ⟨rfl, by omega⟩]; rfl
  .rw [if_neg (by omega)]; exact hv j (by omega)
 .have : l = dgi p n x := YR (by rw [hl, JZ]) fun j hj => by rw [hv j (by omega), QY (by omega)]
  rw [this]; exact h
theorem Jic {p m x : Nat} {mf : LI} {Q : Int -> Prop} (hp : 2 <= p) (hp2 : p <= 256) (hx : x <= 256) (h : Q ((if x % p = p - 1 then x - x % p else x + 1 : Nat) : Int)) : YK p m mf x Q := by
 have hm := Nat.mod_lt x (show 0 < p by omega); have hm2 := Nat.mod_le x p; refine ⟨by omega, Js (by omega) (by omega), fun h0 => ⟨by omega, ?_⟩, fun h0 => ?_⟩
 .rw [Jcs] at h0 ⊢; rw [if_pos (by omega)] at h; refine ⟨Js (by omega) (by omega), ?_⟩; rw [show (x : Int) - ((x % p : Nat) : Int) = ((x - x % p : Nat) : Int) by omega]; exact h
 .rw [Jcs] at h0; rw [if_neg (by omega)] at h; exact ⟨Js (by omega) (by omega), by push_cast at h ⊢; exact h⟩
theorem Ja5 {l : LI} {Q : LI -> Prop} (hl : l.length <= 1000000) (h : Q l) : YO l Q := by
 intro b hb; refine ⟨fun h1 => by rw [<- hb h1]; exact h, fun _ => ⟨by omega, by simpa using h⟩⟩
end Go.Proofs.YtgjloioccgcceaaGreat
namespace Go.Proofs.YtgjloioccgcceaaGreat
theorem Z3 {l : LI} {f : Int -> Bool} : l.any f = true ↔ ∃ i, i < l.length /\ f (vo l i) = true := by
  rw [List.any_eq_true]
  constructor
  . rintro ⟨x, hx, hf⟩
    obtain ⟨i, hi, rfl⟩ := List.mem_iff_getElem.1 hx
    refine ⟨i, hi, ?_⟩
    unfold vo; rw [List.getD_eq_getElem?_getD, List.getElem?_eq_getElem hi]; exact hf
  . rintro ⟨i, hi, hf⟩
    unfold vo at hf
    rw [List.getD_eq_getElem?_getD, List.getElem?_eq_getElem hi] at hf
    exact ⟨l[i], List.getElem_mem hi, hf⟩
theorem Jdz {l : LI} {p : Int -> (Bool -> Prop) -> Prop} {f : Int -> Bool} {Q : Bool -> Prop} (hl : l.length <= 1000000000) (hp : ∀ x (R : Bool -> Prop), R (f x) -> p x R) (h : Q (l.any f)) : YG l p Q := by
 refine ⟨fun z => ∃ k : Nat, z = k /\ k <= l.length /\ ∀ j, j < k -> f (vo l j) = false, fun z => (l.length - z).toNat, ⟨0, rfl, Nat.zero_le _, fun j hj => by omega⟩, ?_⟩; rintro _ ⟨k, rfl, hk, hv⟩; dsimp only; refine ⟨fun hlt => ⟨⟨by omega, by omega⟩, hp _ _ ⟨fun hb => ?_, fun hb => ⟨Js (by omega) (by omega), ⟨k + 1, by push_cast; rfl, by omega, fun j hj => ?_⟩, by omega⟩⟩⟩, fun hge => ?_⟩
 .rw [Z3.2 ⟨k, by omega, hb⟩] at h; rw [decide_eq_true (by omega)]; exact h
 .rw [JP] at hb; by_cases hjk : j = k
  .subst hjk; exact hb
  .exact hv j (by omega)
 .have : l.any f = false := by
   cases hb : l.any f with
   | false => rfl
   | true =>
    obtain ⟨i, hi, hf⟩ := Z3.1 hb; rw [hv i (by omega)] at hf; cases hf
  rw [this] at h; exact h
theorem Jga {p : Nat} {a l c : Int} (hp : 0 < p) (ha : 0 <= a) (hl : l <= p) (hc : 0 <= c) : (a + ((p : Int) - l) * c).tmod p = (a - l * c) % (p : Int) := by
 have h1 : 0 <= ((p : Int) - l) * c := Int.mul_nonneg (by omega) hc; rw [Int.tmod_eq_emod_of_nonneg (by omega)]; have : a + ((p : Int) - l) * c = (a - l * c) + p * c := by rw [Int.sub_mul]; omega
 rw [this, Int.add_mul_emod_self_left]
theorem Jkl {p d n : Nat} {l R : Vec} (hp : 0 < p) {N : Nat} (hR : Cn p N R) : ∀ k, Cn p N (rem p d l R n k)
 | 0 => hR
 | k + 1 => fun j hj => by
  show 0 <= rst _ _ _ _ _ j /\ rst _ _ _ _ _ j < _; unfold rst; split
  .exact ⟨Int.emod_nonneg _ (by omega), Int.emod_lt_of_pos _ (by omega)⟩
  .exact Jkl hp hR k j hj
theorem ZK {a b : Int} {p : Nat} (hp : p <= 256) (ha : 0 <= a /\ a <= p) (hb : 0 <= b /\ b <= p) : 0 <= a * b /\ a * b <= 65536 := by
 obtain ⟨x, rfl⟩ := Int.eq_ofNat_of_zero_le ha.1; obtain ⟨y, rfl⟩ := Int.eq_ofNat_of_zero_le hb.1; have : x * y <= 256 * 256 := Nat.mul_le_mul (by omega) (by omega); have e : ((x : Int)) * (y : Int) = ((x * y : Nat) : Int) := by push_cast; rfl
 rw [e]; omega
theorem Jf5 {l : LI} {n i : Nat} (h : i < n) : vo (l.take n) i = vo l i := by
 unfold vo; rw [List.getD_eq_getElem?_getD, List.getD_eq_getElem?_getD, List.getElem?_take, if_pos h]
theorem Jfh {p : Nat} {l o : LI} {Q : Bool -> Prop} (hp : 0 < p) (hp2 : p <= 256) (hl : Cn p l.length (vo l)) (ho : Cn p o.length (vo o)) (hd : 0 < l.length) (hdn : l.length <= o.length) (hn : o.length <= 1000)
  (h : ∀ b : Bool, (b = true ↔ Dvd p l.length (vo l) (vo o) o.length) -> Q b) : Y9 p l o Q := by
 refine Ja5 (by omega) ⟨Js (by omega) (by omega), ?_⟩; generalize hdd : l.length = d at *
 generalize hnn : o.length = n at *
 refine ⟨fun x z => ∃ k : Nat, z = (n : Int) - 1 - k /\ k <= n - d /\ x.length = n /\ ∀ j, j < n -> vo x j = rem p d (vo l) (vo o) n k j, fun x z => (z + 1).toNat, ⟨0, by omega, by omega, hnn, fun j _ => rfl⟩, ?_⟩; rintro x _ ⟨k, rfl, hk, hx, hv⟩; dsimp only; have hc := Jkl (d := d) (l := vo l) (n := n) hp ho k; refine ⟨fun hle => ?_, fun hgt => ?_⟩
 .obtain ⟨i, hi⟩ : ∃ i : Nat, (n : Int) - 1 - k = i := ⟨n - 1 - k, by omega⟩
  rw [hi]; have hin : i = n - 1 - k := by omega
  refine ⟨fun y z => ∃ t : Nat, z = t /\ t <= d /\ y.length = n /\ ∀ j, j < n -> vo y j = if i <= j + d /\ j + d < i + t then rem p d (vo l) (vo o) n (k + 1) j else rem p d (vo l) (vo o) n k j, fun y z => (d - z).toNat, ⟨0, rfl, Nat.zero_le _, hx, fun j hj => by rw [if_neg (by omega)]; exact hv j hj⟩, ?_⟩; rintro y _ ⟨t, rfl, ht, hy, hw⟩; dsimp only; have e1 : (i : Int) - (d : Int) + (t : Int) = ((i - d + t : Nat) : Int) := by omega
  rw [e1, JP, JP, JP, Qs]; have hyi : vo y i = rem p d (vo l) (vo o) n k i := by rw [hw i (by omega), if_neg (by omega)]
  refine ⟨fun hlt => ?_, fun hge => ?_⟩
  .have hyj : vo y (i - d + t) = rem p d (vo l) (vo o) n k (i - d + t) := by rw [hw _ (by omega), if_neg (by omega)]
   have c1 := hl t (by omega); have c2 := hc i (by omega); have c3 := hc (i - d + t) (by omega); rw [hyi, hyj]; have c4 := ZK (a := (p : Int) - vo l t) (b := rem p d (vo l) (vo o) n k i) hp2 ⟨by omega, by omega⟩ ⟨c2.1, by omega⟩; refine ⟨⟨by omega, by omega⟩, Js (by omega) (by omega), Js (by omega) (by omega), ⟨by omega, by omega⟩, Js (by omega) (by omega), ⟨by omega, by omega⟩, Js (by omega) (by omega), Js (by omega) (by omega), by omega, ⟨by omega, by omega⟩, Js (by omega) (by omega), ⟨t + 1, by push_cast; rfl, by omega, by rw [List.length_set, hy], fun j hj => ?_⟩, by omega⟩; rw [Qe]; by_cases hjt : i - d + t = j
   .subst hjt; rw [if_pos ⟨rfl, by omega⟩, if_pos (by omega), Jga hp c3.1 (by omega) c2.1]; show _ = rst p d (n - 1 - k) (vo l) (rem p d (vo l) (vo o) n k) (i - d + t); unfold rst; rw [<- hin, if_pos (by omega), show i - d + t + d - i = t by omega]
   .rw [if_neg (fun h => hjt h.1), hw j hj]; by_cases hc2 : i <= j + d /\ j + d < i + t
    .rw [if_pos hc2, if_pos (by omega)]
    .rw [if_neg hc2, if_neg (by omega)]
  .refine ⟨Js (by omega) (by omega), ⟨k + 1, by omega, by omega, hy, fun j hj => ?_⟩, by omega⟩; rw [hw j hj]; have htd : t = d := by omega
   by_cases hc2 : i <= j + d /\ j + d < i + t
   .rw [if_pos hc2]
   .rw [if_neg hc2]; show _ = rst p d (n - 1 - k) (vo l) (rem p d (vo l) (vo o) n k) j; unfold rst; rw [<- hin, if_neg (by omega)]
 .refine ⟨⟨by omega, by omega⟩, Jdz (f := fun x => decide (x ≠ 0)) (by rw [List.length_take]; omega) (fun x R hR => hR) (h _ ?_)⟩; have hkk : k = n - d := by omega
  have hlen : (x.take (d : Int).toNat).length = d := by rw [List.length_take]; omega
  rw [Bool.not_eq_true']; constructor
  .intro hb j hj; have h2 : ¬ (x.take (d : Int).toNat).any (fun x => decide (x ≠ 0)) = true := by rw [hb]; decide
   rw [Z3] at h2; have h3 : decide (vo (x.take (d : Int).toNat) j ≠ 0) = false := by
    cases hc3 : decide (vo (x.take (d : Int).toNat) j ≠ 0) with
    | false => rfl
    | true => exact absurd ⟨j, by omega, hc3⟩ h2
   rw [Jf5 (by simpa using hj), hv j (by omega), hkk] at h3; have h4 := of_decide_eq_false h3; omega
  .intro hD; cases hb : (x.take (d : Int).toNat).any (fun x => decide (x ≠ 0)) with
   | false => rfl
   | true =>
    obtain ⟨i, hi, hf⟩ := Z3.1 hb; rw [Jf5 (by simpa using (by omega : i < d)), hv i (by omega), hkk, hD i (by omega)] at hf; exact absurd hf (by decide)
theorem Jc8 (o : LI) : vo (o ++ [(1 : Int)]) = fun i => if i = o.length then 1 else vo o i := by
 funext i; unfold vo; rw [List.getD_eq_getElem?_getD, List.getD_eq_getElem?_getD]; rcases Nat.lt_trichotomy i o.length with h | h | h
 .rw [List.getElem?_append_left h, if_neg (by omega)]
 .subst h; simp
 .rw [if_neg (by omega), List.getElem?_eq_none (by simp; omega), List.getElem?_eq_none (by omega)]
theorem Jmn {p : Nat} {o : LI} (hp : 2 <= p) (ho : Cn p o.length (vo o)) : Cn p (o.length + 1) (vo (o ++ [(1 : Int)])) := fun i hi => by
 rw [Jc8]; dsimp only; split
 .omega
 .exact ho i (by omega)
theorem Jj9 {p : Nat} {l o : LI} {Q : Bool -> Prop} (hp : 2 <= p) (hp2 : p <= 256) (hl : Cn p l.length (vo l)) (ho : Cn p o.length (vo o)) (hd : 0 < l.length) (hdn : l.length <= o.length) (hn : o.length <= 1000)
  (h : ∀ b : Bool, (b = true ↔ Dvd p l.length (vo l) (fun i => if i = o.length then 1 else vo o i) (o.length + 1)) -> Q b) : YB l o p Q := by
 unfold YB; simp only [List.nil_append]; rw [<- Jc8] at h; have hcR := Jmn hp ho; have hnn : (o ++ [(1 : Int)]).length = o.length + 1 := by simp
 refine ⟨by omega, by omega, Js (by omega) (by omega), ?_⟩; generalize hdd : l.length = d at *
 generalize hN : o.length + 1 = n at *
 generalize hoo : o ++ [(1 : Int)] = r at *
 refine ⟨fun x z => ∃ k : Nat, z = (n : Int) - 1 - k /\ k <= n - d /\ x.length = n /\ ∀ j, j < n -> vo x j = if j + k < n then rem p d (vo l) (vo r) n k j else 0, fun x z => (z + 1).toNat, ⟨0, by omega, by omega, hnn, fun j hj => by rw [if_pos (by omega)]; rfl⟩, ?_⟩; rintro x _ ⟨k, rfl, hk, hx, hv⟩; dsimp only; have hc := Jkl (d := d) (l := vo l) (n := n) (p := p) (by omega) hcR k; refine ⟨fun hle => ⟨⟨by omega, by omega⟩, ?_⟩, fun hgt => ?_⟩
 .obtain ⟨i, hi⟩ : ∃ i : Nat, (n : Int) - 1 - k = i := ⟨n - 1 - k, by omega⟩
  rw [hi]; have hin : i = n - 1 - k := by omega
  have hxi : vo x i = rem p d (vo l) (vo r) n k i := by rw [hv i (by omega), if_pos (by omega)]
  refine ⟨fun y z => ∃ t : Nat, z = t /\ t <= d /\ y.length = n /\ ∀ j, j < n -> vo y j = if i <= j + d /\ j + d < i + t then rem p d (vo l) (vo r) n (k + 1) j else vo x j, fun y z => (d - z).toNat, ⟨0, rfl, Nat.zero_le _, hx, fun j hj => by rw [if_neg (by omega)]⟩, ?_⟩; rintro y _ ⟨t, rfl, ht, hy, hw⟩; dsimp only; have e1 : (i : Int) - (d : Int) + (t : Int) = ((i - d + t : Nat) : Int) := by omega
  rw [e1, JP, JP, JP, Qs, Qs]; refine ⟨fun hlt => ?_, fun hge => ?_⟩
  .have hyj : vo y (i - d + t) = rem p d (vo l) (vo r) n k (i - d + t) := by rw [hw _ (by omega), if_neg (by omega), hv _ (by omega), if_pos (by omega)]
   have c1 := hl t (by omega); have c2 := hc i (by omega); have c3 := hc (i - d + t) (by omega); rw [hxi, hyj]; have c4 := ZK (a := (p : Int) - rem p d (vo l) (vo r) n k i) (b := vo l t) hp2 ⟨by omega, by omega⟩ ⟨c1.1, by omega⟩; refine ⟨Js (by omega) (by omega), Js (by omega) (by omega), Js (by omega) (by omega), Js (by omega) (by omega), ⟨by omega, by omega⟩, Js (by omega) (by omega), ⟨by omega, by omega⟩, Js (by omega) (by omega), Js (by omega) (by omega), by omega, ⟨by omega, by omega⟩, Js (by omega) (by omega), ⟨t + 1, by push_cast; rfl, by omega, by rw [List.length_set, hy], fun j hj => ?_⟩, by omega⟩; rw [Qe]; by_cases hjt : i - d + t = j
   .subst hjt; rw [if_pos ⟨rfl, by omega⟩, if_pos (by omega), Jga (by omega) c3.1 (by omega) c1.1]; show _ = rst p d (n - 1 - k) (vo l) (rem p d (vo l) (vo r) n k) (i - d + t); unfold rst; rw [<- hin, if_pos (by omega), show i - d + t + d - i = t by omega, Int.mul_comm]
   .rw [if_neg (fun h => hjt h.1), hw j hj]; by_cases hc2 : i <= j + d /\ j + d < i + t
    .rw [if_pos hc2, if_pos (by omega)]
    .rw [if_neg hc2, if_neg (by omega)]
  .refine ⟨⟨by omega, by omega⟩, Js (by omega) (by omega), ⟨k + 1, by omega, by omega, by rw [List.length_set, hy], fun j hj => ?_⟩, by omega⟩; rw [Qe]; by_cases hij : i = j
   .subst hij; rw [if_pos ⟨rfl, by omega⟩, if_neg (by omega)]
   .rw [if_neg (fun h => hij h.1), hw j hj]; have htd : t = d := by omega
    by_cases hc2 : i <= j + d /\ j + d < i + t
    .rw [if_pos hc2, if_pos (by omega)]
    .rw [if_neg hc2, hv j hj]; by_cases hjk : j + k < n
     .rw [if_pos hjk, if_pos (by omega)]; show _ = rst p d (n - 1 - k) (vo l) (rem p d (vo l) (vo r) n k) j; unfold rst; rw [<- hin, if_neg (by omega)]
     .rw [if_neg hjk, if_neg (by omega)]
 .have hkk : k = n - d := by omega
  refine ⟨fun z => ∃ t : Nat, z = t /\ t <= n /\ ∀ j, j < t -> vo x j = 0, fun z => (n - z).toNat, ⟨0, rfl, Nat.zero_le _, fun j hj => by omega⟩, ?_⟩; rintro _ ⟨t, rfl, ht, hz⟩; dsimp only; rw [JP]; refine ⟨fun hlt => ⟨⟨by omega, by omega⟩, fun hne => ?_, fun heq => ⟨Js (by omega) (by omega), ⟨t + 1, by push_cast; rfl, by omega, fun j hj => ?_⟩, by omega⟩⟩, fun hge => ?_⟩
  .refine h false ⟨fun h' => absurd h' (by decide), fun hD => ?_⟩; rw [hv t (by omega)] at hne; by_cases hc2 : t + k < n
   .rw [if_pos hc2, hkk, hD t (by omega)] at hne; exact absurd rfl hne
   .rw [if_neg hc2] at hne; exact absurd rfl hne
  .by_cases hjt : j = t
   .subst hjt; omega
   .exact hz j (by omega)
  .refine h true ⟨fun _ j hj => ?_, fun _ => rfl⟩; have h1 := hz j (by omega); rw [hv j (by omega), if_pos (by omega), hkk] at h1; exact h1
theorem YU {p d w : Nat} (hw : w < p ^ d) : vo (dgi p d w) = dv p w := by
 funext i; rcases Nat.lt_or_ge i d with h | h
 .exact QY h
 .rw [Jdt (by rw [JZ]; exact h), Jub hw h]
theorem Jcg {p d w : Nat} (hp : 0 < p) (hw : w < p ^ d) (n : Nat) : Cn p n (vo (dgi p d w)) := by rw [YU hw]; exact Jfu hp w n
theorem Jvs {p m : Nat} {mf : LI} {Q : Bool -> Prop} (hp : 2 <= p) (hp2 : p <= 256) (hm : mf.length = m) (hq : p ^ m <= 256) (hc : Cn p m (vo mf))
  (h : ∀ b : Bool, (b = true ↔ Irr p m (vo mf)) -> Q b) : QX p m mf Q := by
 have hm9 : m <= 8 := by
  rcases Nat.lt_or_ge 8 m with h1 | h1
  .have e1 : 2 ^ 9 <= p ^ 9 := Nat.pow_le_pow_left (by omega) 9; have e2 := Qu (p := p) (by omega) (show 9 <= m by omega); omega
  .exact h1
 refine Ja5 (by omega) ⟨by omega, ?_⟩; have hlen : (mf ++ [(1 : Int)]).length = m + 1 := by simp [hm]
 have hcs : Cn p (m + 1) (vo (mf ++ [(1 : Int)])) := by have := Jmn hp (o := mf) (by rw [hm]; exact hc); rwa [hm] at this
 have hpd : ∀ d, 2 * d <= m -> p ^ d <= 256 := fun d hd => Nat.le_trans (Qu (by omega) (by omega)) hq; refine ⟨fun a b => ∃ d : Nat, a = d /\ 1 <= d /\ 2 * (d - 1) <= m /\ b = ((p ^ d : Nat) : Int) /\ p ^ d <= 65536 /\ ∀ e, 0 < e -> e < d -> 2 * e <= m -> ∀ w, w < p ^ e -> ¬ Dvd p e (dv p w) (fun i => if i = m then 1 else vo mf i) (m + 1), fun a b => (20 - a).toNat, ⟨1, rfl, by omega, by omega, by simp, by simp; omega, fun e h1 h2 => by omega⟩, ?_⟩; rintro _ _ ⟨d, rfl, hd1, hd2, rfl, hdp, hnd⟩; dsimp only; refine ⟨Js (by omega) (by omega), fun hle => ?_, fun hgt => ?_⟩
 .have hpd' := hpd d (by omega); refine ⟨fun z => ∃ w : Nat, z = w /\ w <= p ^ d /\ ∀ u, u < w -> ¬ Dvd p d (dv p u) (fun i => if i = m then 1 else vo mf i) (m + 1), fun z => ((p ^ d : Nat) - z).toNat, ⟨0, rfl, Nat.zero_le _, fun u hu => by omega⟩, ?_⟩; rintro _ ⟨w, rfl, hw, hnw⟩; dsimp only; refine ⟨fun hlt => ?_, fun hge => ?_⟩
  .have hw2 : w < p ^ d := by omega
   refine ⟨_, Jdy (by omega) (by omega) (by omega) rfl, ?_⟩; have hdl := JZ p d w; refine (?_ : ∃ r : Bool, Y9 p (dgi p d w) (mf ++ [(1 : Int)]) (fun q => q = r) /\ _); by_cases hD : Dvd p d (dv p w) (fun i => if i = m then 1 else vo mf i) (m + 1)
   .refine ⟨true, Jfh (by omega) hp2 (by rw [hdl]; exact Jcg (by omega) hw2 d) (by rw [hlen]; exact hcs) (by omega) (by omega) (by omega) fun b hb => ?_, fun _ => ?_, fun h' => absurd h' (by decide)⟩
    .rw [hdl, hlen, YU hw2, Jc8, hm] at hb; exact hb.2 hD
    .exact h false ⟨fun h' => absurd h' (by decide), fun hI => absurd hD (hI d (by omega) (by omega) w hw2)⟩
   .refine ⟨false, Jfh (by omega) hp2 (by rw [hdl]; exact Jcg (by omega) hw2 d) (by rw [hlen]; exact hcs) (by omega) (by omega) (by omega) fun b hb => ?_, fun h' => absurd h' (by decide), fun _ => ?_⟩
    .rw [hdl, hlen, YU hw2, Jc8, hm] at hb; cases b with
     | false => rfl
     | true => exact absurd (hb.1 rfl) hD
    .refine ⟨Js (by omega) (by omega), ⟨w + 1, by push_cast; rfl, by omega, fun u hu => ?_⟩, by omega⟩; by_cases huw : u = w
     .subst huw; exact hD
     .exact hnw u (by omega)
  .have e1 : ((p ^ d : Nat) : Int) * (p : Int) = ((p ^ (d + 1) : Nat) : Int) := by rw [Nat.pow_succ]; push_cast; rfl
   have hb2 : p ^ (d + 1) <= 65536 := by
    rw [Nat.pow_succ]; have := Nat.mul_le_mul hpd' hp2; omega
   rw [e1]; refine ⟨Js (by omega) (by omega), YS (by omega), ⟨d + 1, by push_cast; rfl, by omega, by omega, rfl, hb2, fun e he0 he h2 u hu => ?_⟩, by omega⟩; by_cases hed : e = d
   .subst hed; exact hnw u (by omega)
   .exact hnd e he0 (by omega) h2 u hu
 .exact h true ⟨fun _ e he0 h2 u hu => hnd e he0 (by omega) h2 u hu, fun _ => rfl⟩
theorem v_rirr {p m : Nat} {mf : LI} {Q : Bool -> Prop} (hp : 2 <= p) (hp2 : p <= 256) (hm : mf.length = m) (hq : p ^ m <= 256) (hc : Cn p m (vo mf))
  (h : ∀ b : Bool, (b = true ↔ Irr p m (vo mf)) -> Q b) : Jex mf p Q := by
 have hm9 : m <= 8 := by
  rcases Nat.lt_or_ge 8 m with h1 | h1
  .have e1 : 2 ^ 9 <= p ^ 9 := Nat.pow_le_pow_left (by omega) 9; have e2 := Qu (p := p) (by omega) (show 9 <= m by omega); omega
  .exact h1
 unfold Jex; rw [hm]; have hpd : ∀ d, 2 * d <= m -> p ^ d <= 256 := fun d hd => Nat.le_trans (Qu (by omega) (by omega)) hq; refine ⟨fun b a => ∃ d : Nat, a = d + 1 /\ 2 * d <= m /\ b = ((p ^ d : Nat) : Int) /\ ∀ e, 0 < e -> e <= d -> 2 * e <= m -> ∀ w, w < p ^ e -> ¬ Dvd p e (dv p w) (fun i => if i = m then 1 else vo mf i) (m + 1), fun b a => (20 - a).toNat, ⟨0, rfl, by omega, by simp, fun e h1 h2 => by omega⟩, ?_⟩; rintro _ _ ⟨d, rfl, hd2, rfl, hnd⟩; dsimp only; have hpd' := hpd d hd2; refine ⟨Js (by omega) (by omega), fun hle => ?_, fun hgt => ?_⟩
 .have e1 : ((p ^ d : Nat) : Int) * (p : Int) = ((p ^ (d + 1) : Nat) : Int) := by rw [Nat.pow_succ]; push_cast; rfl
  have hpd2 := hpd (d + 1) (by omega); rw [e1]; refine ⟨YS (by omega), ?_⟩; refine ⟨fun z => ∃ w : Nat, z = w /\ w <= p ^ (d + 1) /\ ∀ u, u < w -> ¬ Dvd p (d + 1) (dv p u) (fun i => if i = m then 1 else vo mf i) (m + 1), fun z => ((p ^ (d + 1) : Nat) - z).toNat, ⟨0, rfl, Nat.zero_le _, fun u hu => by omega⟩, ?_⟩; rintro _ ⟨w, rfl, hw, hnw⟩; dsimp only; rw [show (d : Int) + 1 = ((d + 1 : Nat) : Int) by push_cast; rfl]; refine ⟨fun hlt => ?_, fun hge => ?_⟩
  .have hw2 : w < p ^ (d + 1) := by omega
   have hdl := JZ p (d + 1) w; refine Jff (by omega) (by omega) (by omega) (Jj9 hp hp2 (by rw [hdl]; exact Jcg (by omega) hw2 _) (by rw [hm]; exact hc) (by omega) (by omega) (by omega) fun b hb => ?_); rw [hdl, hm, YU hw2] at hb; refine ⟨fun hb1 => ?_, fun hb0 => ?_⟩
   .exact h false ⟨fun h' => absurd h' (by decide), fun hI => absurd (hb.1 hb1) (hI (d + 1) (by omega) (by omega) w hw2)⟩
   .refine ⟨Js (by omega) (by omega), ⟨w + 1, by push_cast; rfl, by omega, fun u hu => ?_⟩, by omega⟩; by_cases huw : u = w
    .subst huw; intro hD; rw [hb.2 hD] at hb0; exact absurd hb0 (by decide)
    .exact hnw u (by omega)
  .refine ⟨Js (by omega) (by omega), ⟨d + 1, rfl, by omega, rfl, fun e he0 he h2 u hu => ?_⟩, by omega⟩; by_cases hed : e = d + 1
   .subst hed; exact hnw u (by omega)
   .exact hnd e he0 (by omega) h2 u hu
 .exact h true ⟨fun _ e he0 h2 u hu => hnd e he0 (by omega) h2 u hu, fun _ => rfl⟩
structure FV (P M : Int) (mf : LI) (p m v : Nat) : Prop where
  eP : P = p
  eM : M = m
  pr : IsLf p p
  m0 : 0 < m
  q : p ^ m <= 256
  vlt : v < p ^ m
  m1 : m = 1 -> mf = [] /\ v = 0
  m2 : m ≠ 1 -> mf = dgi p m v
  irr : Irr p m (dv p v)
def Yt (P M : Int) (mf : LI) : Prop := ∃ p m v, FV P M mf p m v
open Classical in
noncomputable def ck (P M : Int) (mf : LI) : Int := if Yt P M mf then 0 else 1
theorem Jfv {P M : Int} {mf : LI} (h : Yt P M mf) : ck P M mf = 0 := if_pos h
theorem Yr {P M : Int} {mf : LI} (h : ¬ Yt P M mf) : ck P M mf = 1 := if_neg h
theorem Jwp (p : Nat) (c : Vec) : Irr p 1 c := fun d h1 h2 => by omega
theorem Jfd {p : Nat} (hp : IsLf p p) (hq : p <= 256) : FV p ((1 : Nat) : Int) [] p 1 0 := ⟨rfl, rfl, hp, by omega, by simpa using hq, by have := hp.two; simp; omega, fun _ => ⟨rfl, rfl⟩, fun h => absurd rfl h, Jwp p _⟩
theorem Jnc {p m : Nat} {mf : LI} (hp : 0 < p) (hl : mf.length = m) (hc : Cn p m (vo mf)) : nm p m (vo mf) < p ^ m /\ mf = dgi p m (nm p m (vo mf)) /\ vo mf = dv p (nm p m (vo mf)) := by
 have hlt := Jai (m := m) hp (vo mf); have he : mf = dgi p m (nm p m (vo mf)) := YR (by rw [hl, JZ]) fun i hi => by
  have h1 := hc i (by omega); rw [QY (by omega), Jnb hp _ (by omega), Int.emod_eq_of_lt h1.1 h1.2]
 exact ⟨hlt, he, by have := congrArg vo he; rw [YU hlt] at this; exact this⟩
theorem FV.cn {P M : Int} {mf : LI} {p m v : Nat} (h : FV P M mf p m v) (hm : m ≠ 1) : mf.length = m /\ Cn p m (vo mf) /\ Irr p m (vo mf) := by
 have := h.pr.two; rw [h.m2 hm]; exact ⟨JZ p m v, Jcg (by omega) h.vlt m, by rw [YU h.vlt]; exact h.irr⟩
theorem FV.vo {P M : Int} {mf : LI} {p m v : Nat} (h : FV P M mf p m v) : Go.Proofs.YtgjloioccgcceaaGreat.vo mf = dv p v := by
 by_cases hm : m = 1
 .rw [(h.m1 hm).1, (h.m1 hm).2, Jep]; rfl
 .rw [h.m2 hm, YU h.vlt]
theorem Jme {P M : Int} {mf : LI} {Q : Int -> Prop} (h : Q (ck P M mf)) : Jbv P M mf Q := by
 refine ⟨fun h1 => ?_, fun h1 => Jn2 (by omega) fun b hb => ⟨fun hb0 => ?_, fun hb1 => ?_⟩⟩
 .rw [Yr] at h
  .exact h
  .rintro ⟨p, m, v, hV⟩; have e1 := Qu (p := p) (by have := hV.pr.two; omega) hV.m0; have := hV.q; have := hV.eP; rw [show p ^ (0 + 1) = p from Nat.pow_one p] at e1; omega
 .rw [Yr] at h
  .exact h
  .rintro ⟨p, m, v, hV⟩; have := hV.pr.two; have : b = true := hb.2 ⟨by rw [hV.eP]; omega, by rw [hV.eP]; exact hV.pr⟩; rw [this] at hb0; exact absurd hb0 (by decide)
 .have hbt : b = true := by cases b <;> first | rfl | exact absurd hb1 (by decide)
  obtain ⟨hP2, hPr⟩ := hb.1 hbt; obtain ⟨p, rfl⟩ := Int.eq_ofNat_of_zero_le (show 0 <= P by omega); rw [Int.toNat_natCast] at hPr; refine ⟨fun h2 => ?_, fun h2 => Jf3 (by omega) (by omega) fun r hr1 hr2 => ⟨fun h3 => ?_, fun h3 => ?_⟩⟩
  .rw [Yr] at h
   .exact h
   .rintro ⟨p', m, v, hV⟩; have := hV.m0; have := hV.eM; omega
  .rw [Yr] at h
   .exact h
   .rintro ⟨p', m, v, hV⟩; have e1 := hV.eM; have e2 := hV.eP; have e3 := hV.q; have : p = p' := by omega
    subst this; rw [e1, Int.toNat_natCast] at hr1; have := hr1 e3; omega
  .obtain ⟨m, rfl⟩ := Int.eq_ofNat_of_zero_le (show 0 <= M by omega); rw [Int.toNat_natCast] at hr1 hr2; have hq : p ^ m <= 256 := by
    rcases Nat.lt_or_ge 256 (p ^ m) with hc | hc
    .exact absurd (hr2 hc) h3
    .exact hc
   refine ⟨fun h4 => Jso ?_, fun h4 => ⟨fun h5 => ?_, fun h5 => ?_⟩⟩
   .have hm1 : m = 1 := by omega
    subst hm1; by_cases hl : mf = []
    .subst hl; rw [Jfv ⟨_, _, _, Jfd hPr (by omega)⟩] at h
     simpa using h
    .rw [Yr] at h
     .simpa [hl] using h
     .rintro ⟨p', m, v, hV⟩; exact hl (hV.m1 (by have := hV.eM; omega)).1
   .rw [Yr] at h
    .exact h
    .rintro ⟨p', m', v, hV⟩; have e1 := hV.eM; have := (hV.cn (by omega)).1; omega
   .have hlen : mf.length = m := by omega
    have hm8 : mf.length <= 1000000000 := by
     have := Nat.lt_two_pow_self (n := m); have e1 : 2 ^ m <= p ^ m := Nat.pow_le_pow_left (by omega) m; omega
    refine Jdz (f := fun x => if x < 0 then true else decide ((p : Int) <= x)) hm8 (fun x R hR => ⟨fun hx => by simpa [hx] using hR, fun hx => by simpa [hx] using hR⟩) ⟨fun hb6 => ?_, fun hb6 => ?_⟩
    .rw [Yr] at h
     .exact h
     .rintro ⟨p', m', v, hV⟩; have e1 := hV.eM; have e2 := hV.eP; have e3 : p = p' := by omega
      have e4 : m = m' := by omega
      subst e3; subst e4; obtain ⟨i, hi, hf⟩ := Z3.1 hb6; have hcn := (hV.cn (by omega)).2.1 i (by omega); rw [if_neg (by omega)] at hf; have := of_decide_eq_true hf; omega
    .have hcn : Cn p m (vo mf) := fun i hi => by
      have h6 : ¬ mf.any (fun x => if x < 0 then true else decide ((p : Int) <= x)) = true := by rw [hb6]; decide
      rw [Z3] at h6; by_cases hx : vo mf i < 0
      .exact absurd ⟨i, by omega, by rw [if_pos hx]⟩ h6
      .by_cases hx2 : (p : Int) <= vo mf i
       .exact absurd ⟨i, by omega, by rw [if_neg hx, decide_eq_true hx2]⟩ h6
       .omega
     have hcl := Jnc (by omega) hlen hcn; refine Jvs (by omega) (by omega) hlen hq hcn fun b2 hb2 => Jso ?_; by_cases hI : Irr p m (vo mf)
     .rw [hb2.2 hI, if_pos rfl]; rw [Jfv ⟨p, m, nm p m (vo mf), rfl, rfl, hPr, by omega, hq, hcl.1, fun e => by omega, fun _ => hcl.2.1, by rw [<- hcl.2.2]; exact hI⟩] at h; exact h
     .rw [if_neg (fun e => hI (hb2.1 e))]; rw [Yr] at h
      .exact h
      .rintro ⟨p', m', v, hV⟩; have e1 := hV.eM; have e2 := hV.eP; have e3 : p = p' := by omega
       have e4 : m = m' := by omega
       subst e3; subst e4; exact hI (hV.cn (by omega)).2.2
theorem Jid {P M : Int} {mf : LI} {Q : Int -> Prop} (h : Q (ck P M mf)) : ZN P M mf Q := by
 refine Jdv ⟨fun h0 => ?_, fun h0 => ?_⟩
 .rw [Yr] at h
  .exact h
  .rintro ⟨p, m, v, hV⟩; have h1 := hV.pr.two; have h2 := hV.m0; have h3 := hV.q; rw [hV.eP, hV.eM, Je5, if_pos ⟨by omega, by omega, by simpa using h3⟩] at h0; have h4 : 0 < p ^ m := Nat.pow_pos (by omega); simp only [Int.toNat_natCast] at h0; omega
 .unfold Je5 at h0; by_cases hc : 2 <= P /\ 1 <= M /\ P.toNat ^ M.toNat <= 256
  .obtain ⟨h1, h2, hq⟩ := hc; obtain ⟨p, rfl⟩ := Int.eq_ofNat_of_zero_le (show 0 <= P by omega); obtain ⟨m, rfl⟩ := Int.eq_ofNat_of_zero_le (show 0 <= M by omega); simp only [Int.toNat_natCast] at hq; have hp256 : p <= 256 := by
    have := Qu (p := p) (by omega) (show 1 <= m by omega); rw [Nat.pow_one] at this; omega
   refine Jsl (by omega) hp256 fun b hb => ⟨fun hb0 => ?_, fun hb1 => ?_⟩
   .rw [Yr] at h
    .exact h
    .rintro ⟨p', m', v, hV⟩; have e2 := hV.eP; have e3 : p = p' := by omega
     subst e3; rw [hb.2 hV.pr] at hb0; exact absurd hb0 (by decide)
   .have hbt : b = true := by cases b <;> first | rfl | exact absurd hb1 (by decide)
    have hPr := hb.1 hbt; refine ⟨fun h4 => ⟨fun h5 => ?_, fun h5 => ?_⟩, fun h4 => ⟨fun h5 => ?_, fun h5 => ?_⟩⟩
    .rw [Yr] at h
     .exact h
     .rintro ⟨p', m', v, hV⟩; have e1 := hV.eM; have := (hV.m1 (by omega)).1; rw [this] at h5; exact h5 rfl
    .have hm1 : m = 1 := by omega
     subst hm1; have hl : mf = [] := List.length_eq_zero_iff.1 (by omega); subst hl; rw [Jfv ⟨_, _, _, Jfd hPr hp256⟩] at h; exact h
    .rw [Yr] at h
     .exact h
     .rintro ⟨p', m', v, hV⟩; have e1 := hV.eM; have := (hV.cn (by omega)).1; omega
    .have hlen : mf.length = m := by omega
     refine ⟨fun z => ∃ k : Nat, z = k /\ k <= m /\ Cn p k (vo mf), fun z => (m - z).toNat, ⟨0, rfl, Nat.zero_le _, fun i hi => by omega⟩, ?_⟩; rintro _ ⟨k, rfl, hk, hcn⟩; dsimp only; rw [JP]; have hno : ¬ (0 <= vo mf k /\ vo mf k < p) -> k < m -> ¬ Yt p m mf := by
      rintro hbad hkm ⟨p', m', v, hV⟩; have e1 := hV.eM; have e2 := hV.eP; have e3 : p = p' := by omega
      have e4 : m = m' := by omega
      subst e3; subst e4; exact hbad ((hV.cn (by omega)).2.1 k hkm)
     have hm8 : m <= 1000000000 := by
      have := Nat.lt_two_pow_self (n := m); have e1 : 2 ^ m <= p ^ m := Nat.pow_le_pow_left (by omega) m; omega
     refine ⟨fun hlt => ⟨fun hneg => ⟨⟨by omega, by omega⟩, ?_⟩, fun hpos => ⟨⟨by omega, by omega⟩, ⟨by omega, by omega⟩, fun hbig => ?_, fun hsm => ⟨Js (by omega) (by omega), ⟨k + 1, by push_cast; rfl, by omega, fun i hi => ?_⟩, by omega⟩⟩⟩, fun hge => ?_⟩
     .rw [Yr (hno (by omega) (by omega))] at h; exact h
     .rw [Yr (hno (by omega) (by omega))] at h; exact h
     .by_cases hik : i = k
      .subst hik; omega
      .exact hcn i (by omega)
     .have hkm : k = m := by omega
      subst hkm; have hcl := Jnc (by omega) hlen hcn; refine v_rirr (by omega) hp256 hlen hq hcn fun b2 hb2 => ⟨fun hb3 => ?_, fun hb3 => ?_⟩
      .rw [Yr] at h
       .exact h
       .rintro ⟨p', m', v, hV⟩; have e1 := hV.eM; have e2 := hV.eP; have e3 : p = p' := by omega
        have e4 : k = m' := by omega
        subst e3; subst e4; rw [hb2.2 (hV.cn (by omega)).2.2] at hb3; exact absurd hb3 (by decide)
      .have hbt2 : b2 = true := by cases b2 <;> first | rfl | exact absurd hb3 (by decide)
       rw [Jfv ⟨p, k, nm p k (vo mf), rfl, rfl, hPr, by omega, hq, hcl.1, fun e => by omega, fun _ => hcl.2.1, by rw [<- hcl.2.2]; exact hb2.1 hbt2⟩] at h; exact h
  .rw [if_neg hc] at h0; exact absurd rfl h0
end Go.Proofs.YtgjloioccgcceaaGreat
