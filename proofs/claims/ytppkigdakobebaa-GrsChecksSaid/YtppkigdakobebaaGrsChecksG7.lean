/- Contracts of functions of the program, and what they lean on: D29, D21, D30, D22, Gq, H2, H3, D23, D24, H4. -/
import Derived.Test.YtppkigdakobebaaGrsChecksG6
set_option linter.unusedSimpArgs false
set_option linter.unusedVariables false
set_option maxRecDepth 4000
set_option maxHeartbeats 4000000
namespace Go.Proofs.Ytppkigdakobebaa
open Go.RowKit
def Zi (Pd : Int) (Md : Int) (md : LI) (Kd : Int) (da : LI) (db : LI) (Q : Int × Int × LI × Int × LI × LI × Int -> Prop) : Prop :=
  ZX Pd Md md Kd da db (fun q => match q with | (none, r17) => (r17 ≠ 0) -> (Q ((0 : Int), (0 : Int), ([] : LI), (0 : Int), ([] : LI), ([] : LI), r17)) | (some F18, _) => Jep Pd Md md Kd da db (fun (r27, r28, x29, c30, x31, x32) => (I64 ((da.length : Int) - Kd)) /\ (∃ (I53 : LI -> Int -> Prop) (μ54 : LI -> Int -> Nat), I53 x32 (0 : Int) /\ ∀ (x51 : LI) (z52 : Int), (I53 x51 z52 -> (((z52 < (da.length : Int)) -> (∃ J61 : LI -> Int -> Int -> Bool -> Prop, ((0 <= z52 /\ z52 < (da.length : Nat)) /\ ((0 <= z52 /\ z52 < (db.length : Nat)) /\ (∃ (I70 : Int -> Int -> Prop) (μ71 : Int -> Int -> Nat), I70 (gi db z52) (0 : Int) /\ ∀ (z68 : Int) (z69 : Int), (I70 z68 z69 -> (((z69 < (da.length : Int)) -> (∃ J75 : Int -> Prop, ((0 <= z69 /\ z69 < (da.length : Nat)) /\ (((z69 ≠ z52) -> (Jja F18 (gi da z52) (gi da z69) (fun r79 => Jcl F18 z68 r79 (fun r81 => J75 r81)))) /\ (¬ (z69 ≠ z52) -> J75 z68))) /\ ∀ (z74 : Int), (J75 z74 -> ((I64 (z69 + 1)) /\ (I70 z74 (z69 + 1) /\ μ71 z74 (z69 + 1) < μ71 z68 z69))))) /\ (¬ (z69 < (da.length : Int)) -> (∃ (r91 : Int) (r92 : Int), Jjc F18 z68 (fun q => q = (r91, r92)) /\ ((0 <= z52 /\ z52 < (x32.length : Nat)) /\ (J61 (si x51 z52 r91) z68 z69 (decide (z69 < (da.length : Int)))))))))))) /\ ∀ (x57 : LI) (z58 : Int) (z59 : Int) (b60 : Bool), (J61 x57 z58 z59 b60 -> ((I64 (z52 + 1)) /\ (I53 x57 (z52 + 1) /\ μ54 x57 (z52 + 1) < μ54 x51 z52))))) /\ (¬ (z52 < (da.length : Int)) -> (Q (r27, r28, x29, ((da.length : Int) - Kd), x31, x51, (0 : Int)))))))))
theorem Jav {w : World} {Q : Int × Int × LI × Int × LI × LI × Int -> Prop} {Pd : Int} {Md : Int} {md : LI} {Kd : Int} {da : LI} {db : LI} {Bd : Nat} {Ad : Option Addr} {nd kd : Nat} (hd : Rd Bd w 1 Ad nd kd (is md)) {Bda : Nat} {Ada : Option Addr} {nda kda : Nat} (hda : Rd Bda w 1 Ada nda kda (is da)) {Bdb : Nat} {Adb : Option Addr} {ndb kdb : Nat} (hdb : Rd Bdb w 1 Adb ndb kdb (is db)) (hv : Zi Pd Md md Kd da db Q) :
   Calls Try.prog 41 #[.agg #[.int .i64 Pd, .int .i64 Md, .slice Ad nd kd, .int .i64 Kd, .slice Ada nda kda, .slice Adb ndb kdb]] w <| Rt w fun v Qr => ∃ (p0 : Int) (m0 : Int) (f0 : LI) (c0 : Int) (u0 : LI) (r0 : LI) (r1 : Int) (A0f : Option Addr) (k0f : Nat) (A0u : Option Addr) (k0u : Nat) (A0 : Option Addr) (k0 : Nat), v = .tuple #[.agg #[.int .i64 p0, .int .i64 m0, .slice A0f f0.length k0f, .int .i64 c0, .slice A0u u0.length k0u, .slice A0 r0.length k0], .int .i64 r1] /\ Qr = [.row 3 1 A0f f0.length k0f (is f0), .row 3 1 A0u u0.length k0u (is u0), .row 3 1 A0 r0.length k0 (is r0)] /\ Q (p0, m0, f0, c0, u0, r0, r1) := by
 have hnd := hd.ilen; subst hnd; have hnda := hda.ilen; subst hnda; have hndb := hdb.ilen; subst hndb; refine Jn <| QN (vs := [.agg #[nI Pd, nI Md, nS Ad md kd, nI Kd, nS Ada da kda, nS Adb db kdb]]) [.cell 2 48, .tmp 3] XF41 rfl rfl rfl rfl ?_; have hS := Jt w; unfold Zi at hv; refine Jd 2 <| JH (z := 6) (cs := [nI Pd, nI Md, nS Ad md kd, nI Kd, nS Ada da kda, nS Adb db kdb]) hS rfl rfl rfl rfl ?_; intro g11 w12 hS; refine SL.alloc (cs := [nI 0, nI 0, .slice none 0 0, nI 0, .slice none 0 0, .slice none 0 0]) hS JQ rfl rfl ?_; intro g13 w14 hS; refine Jc 2 <| Jd 2 <| JD 1 JQ J7 hS rfl ⟨rfl, rfl⟩ rfl <| SL.call hS (Jdy (hS.ro hd) (hS.ro hda) (hS.ro hdb) hv) XF71 rfl XN71 rfl rfl ?_; rintro _ _ w16 ⟨o, r17, hv, hK⟩ hGw16 hS; cases o with
 | none =>
  obtain ⟨hn24, rfl, rfl⟩ := hK; have hv := hv hn24; have hS := hS.n0; refine Jc 6 <| Jd 4 <| Ja7 rfl rfl rfl ?_; rw [decide_eq_true hn24]; refine Ja <| JP rfl <| Jd 2 <| J9 (cells := #[nI 0, nI 0, .slice none 0 0, nI 0, .slice none 0 0, .slice none 0 0]) Jcy rfl rfl rfl <| Jq rfl rfl <| JS (cs := [nI 0, nI 0, .slice none 0 0, nI 0, .slice none 0 0, .slice none 0 0]) 0 hS rfl JQ rfl rfl rfl rfl rfl ?_; intro w25 hS; refine Jc 2 <| W.ret ?_; have hS := hS.nil (e := 3) (z := 1); have hS := hS.nil (e := 3) (z := 1); have hS := hS.nil (e := 3) (z := 1)
  change St _ _ _ _ [_, _, _, _, _] at hS
  repeat with_reducible first | refine blk.ret ?_ | refine exits.retI ?_
  refine endC.mk ⟨[.agg #[nI 0, nI 0, .slice none 0 0, nI 0, .slice none 0 0, .slice none 0 0], nI r17], ⟨_, _, _, rfl, rfl, J6 (cs := [nI 0, nI 0, .slice none 0 0, nI 0, .slice none 0 0, .slice none 0 0]) JQ J7 rfl (JT (hS.own (i := 3) rfl)), ⟨_, _, rfl, rfl, rfl⟩⟩, ?_⟩; exact (hS.pick [2, 1, 0] rfl).fin rfl ⟨(0 : Int), (0 : Int), ([] : LI), (0 : Int), ([] : LI), ([] : LI), r17, none, 0, none, 0, none, 0, rfl, rfl, hv⟩
 | some F18 =>
  obtain ⟨rfl, ad19, lo20, hi21, rfl, rfl⟩ := hK; have hS := hS.n1; refine Jc 6 <| Jd 6 <| YL rfl <| Jr <| Jd 2 <| JD 2 JQ J7 hS rfl ⟨rfl, rfl⟩ rfl <| SL.call hS (Jnh (hS.ro hd) (hS.ro hda) (hS.ro hdb) hv) XF83 rfl XN83 rfl rfl ?_; rintro _ _ w26 ⟨r27, r28, x29, c30, x31, x32, A33, k34, A36, k37, A39, k40, rfl, rfl, hv⟩ hGw26 hS; have hS := hS.n3; refine SL.alloc (cs := [nI 0, nI 0, .slice none 0 0, nI 0, .slice none 0 0, .slice none 0 0]) hS JQ rfl rfl ?_; intro g42 w43 hS; refine JS (cs := [nI r27, nI r28, nS A33 x29 k34, nI c30, nS A36 x31 k37, nS A39 x32 k40]) 0 hS rfl JQ rfl rfl rfl rfl rfl ?_; intro w44 hS; refine Ja <| Jd 2 <| Jb (off := 4) Ju rfl rfl <| Jp 6 4 Jh hS rfl rfl rfl ⟨rfl, rfl⟩ <| WL.len Jh rfl rfl <| Jb (off := 3) Qm rfl rfl <| Jp 6 3 XU3 hS rfl rfl rfl ⟨rfl, rfl⟩ ?_; obtain ⟨o45, hv⟩ := hv; refine WL.sub (r := ((da.length : Int) - Kd)) rfl rfl (wr o45) rfl <| Jb (off := 3) Qm rfl rfl <| Jf (cs' := [nI r27, nI r28, nS A33 x29 k34, nI ((da.length : Int) - Kd), nS A36 x31 k37, nS A39 x32 k40]) 0 3 hS rfl XE3 rfl rfl rfl (Jk rfl) rfl ?_; intro w46 hS; refine Ja <| Jd 3 <| Jb (off := 4) Ju rfl rfl <| Jp 6 4 Jh hS rfl rfl rfl ⟨rfl, rfl⟩ <| WL.len Jh rfl rfl <| Jc 2 <| W.block ?_; obtain ⟨I53, μ54, hv, hk107⟩ := hv; refine JE (σ := LI × Int) (fun q w1 => match q with | (x51, z52) => I53 x51 z52 /\ St TT w none w1 [.row 48 6 (nA g42) 1 1 [nI r27, nI r28, nS A33 x29 k34, nI ((da.length : Int) - Kd), nS A36 x31 k37, nS A39 x32 k40], nR 3 A33 x29 k34, nR 3 A36 x31 k37, .row 3 1 A39 x32.length k40 (is x51), .ch lo20 hi21 (fun wz => GFX lo20 hi21 wz ad19 F18), .row 48 6 (nA g13) 1 1 [nI 0, nI 0, .slice none 0 0, nI 0, .slice none 0 0, .slice none 0 0], .row 48 6 (nA g11) 1 1 [nI Pd, nI Md, nS Ad md kd, nI Kd, nS Ada da kda, nS Adb db kdb]]) (fun (x51, z52) => [(1, nP g11), (2, nP g13), (3, nI 0), (4, .pointer (some ad19)), (6, nP g42), (31, nS Ada da kda), (32, nI (da.length : Int)), (33, nI z52)]) (fun (x51, z52) => μ54 x51 z52) (x32, (0 : Int)) ⟨hv, hS⟩ ⟨rfl, rfl, rfl, rfl, rfl, rfl, rfl, rfl, trivial⟩ ?_; rintro ⟨x51, z52⟩ w55 ⟨hv, hS⟩; have hv := hk107 x51 z52 hv; refine Jd 5 <| Jj rfl (fun c56 => ?_) (fun c56 => ?_)
  .have hv := hv.1 (oT c56); refine Jr <| JA ?_; obtain ⟨J61, hv, hk105⟩ := hv; refine QT (σ := LI × Int × Int × Bool) (fun q w1 => match q with | (x57, z58, z59, b60) => J61 x57 z58 z59 b60 /\ St TT w none w1 [.row 48 6 (nA g42) 1 1 [nI r27, nI r28, nS A33 x29 k34, nI ((da.length : Int) - Kd), nS A36 x31 k37, nS A39 x32 k40], nR 3 A33 x29 k34, nR 3 A36 x31 k37, .row 3 1 A39 x32.length k40 (is x57), .ch lo20 hi21 (fun wz => GFX lo20 hi21 wz ad19 F18), .row 48 6 (nA g13) 1 1 [nI 0, nI 0, .slice none 0 0, nI 0, .slice none 0 0, .slice none 0 0], .row 48 6 (nA g11) 1 1 [nI Pd, nI Md, nS Ad md kd, nI Kd, nS Ada da kda, nS Adb db kdb]]) (fun (x57, z58, z59, b60) => [(1, nP g11), (2, nP g13), (3, nI 0), (4, .pointer (some ad19)), (6, nP g42), (7, nI z52), (8, nI (gi da z52)), (9, nI z58), (31, nS Ada da kda), (32, nI (da.length : Int)), (33, nI z52), (34, .bool (decide (z52 < (da.length : Int)))), (44, nS Ada da kda), (45, nI (da.length : Int)), (46, nI z59), (47, .bool b60)]) ?_ ?_
   .refine W.block ?_; refine Jd 3 ?_; obtain ⟨o62, hv⟩ := hv; refine Jo Jh XE3 (hS.ro hda) rfl rfl o62 rfl <| Js XU3 rfl rfl (JJ (hS.ro hda) o62) rfl <| Jc 3 <| Jd 2 <| Jb (off := 5) Jv rfl rfl <| Jp 6 5 Jh hS rfl rfl rfl ⟨rfl, rfl⟩ <| Jq rfl rfl ?_; obtain ⟨o63, hv⟩ := hv; refine Jo Jh XE3 (hS.ro hdb) rfl rfl o63 rfl <| Js XU3 rfl rfl (JJ (hS.ro hdb) o63) rfl <| Jc 2 <| Jd 3 <| Jb (off := 4) Ju rfl rfl <| Jp 6 4 Jh hS rfl rfl rfl ⟨rfl, rfl⟩ <| WL.len Jh rfl rfl <| Jc 2 <| W.block ?_; obtain ⟨I70, μ71, hv, hk102⟩ := hv; refine JE (σ := Int × Int) (fun q w1 => match q with | (z68, z69) => I70 z68 z69 /\ St TT w none w1 [.row 48 6 (nA g42) 1 1 [nI r27, nI r28, nS A33 x29 k34, nI ((da.length : Int) - Kd), nS A36 x31 k37, nS A39 x32 k40], nR 3 A33 x29 k34, nR 3 A36 x31 k37, .row 3 1 A39 x32.length k40 (is x51), .ch lo20 hi21 (fun wz => GFX lo20 hi21 wz ad19 F18), .row 48 6 (nA g13) 1 1 [nI 0, nI 0, .slice none 0 0, nI 0, .slice none 0 0, .slice none 0 0], .row 48 6 (nA g11) 1 1 [nI Pd, nI Md, nS Ad md kd, nI Kd, nS Ada da kda, nS Adb db kdb]]) (fun (z68, z69) => [(1, nP g11), (2, nP g13), (3, nI 0), (4, .pointer (some ad19)), (6, nP g42), (7, nI z52), (8, nI (gi da z52)), (9, nI z68), (31, nS Ada da kda), (32, nI (da.length : Int)), (33, nI z52), (34, .bool (decide (z52 < (da.length : Int)))), (44, nS Ada da kda), (45, nI (da.length : Int)), (46, nI z69)]) (fun (z68, z69) => μ71 z68 z69) ((gi db z52), (0 : Int)) ⟨hv, hS⟩ ⟨rfl, rfl, rfl, rfl, rfl, rfl, rfl, rfl, rfl, rfl, rfl, rfl, rfl, rfl, rfl, trivial⟩ ?_; rintro ⟨z68, z69⟩ w72 ⟨hv, hS⟩; have hv := hk102 z68 z69 hv; refine Jd 5 <| Jj rfl (fun c73 => ?_) (fun c73 => ?_)
    .have hv := hv.1 (oT c73); refine Jr <| JA ?_; obtain ⟨J75, hv, hk84⟩ := hv; refine QT (σ := Int) (fun z74 w1 => J75 z74 /\ St TT w none w1 [.row 48 6 (nA g42) 1 1 [nI r27, nI r28, nS A33 x29 k34, nI ((da.length : Int) - Kd), nS A36 x31 k37, nS A39 x32 k40], nR 3 A33 x29 k34, nR 3 A36 x31 k37, .row 3 1 A39 x32.length k40 (is x51), .ch lo20 hi21 (fun wz => GFX lo20 hi21 wz ad19 F18), .row 48 6 (nA g13) 1 1 [nI 0, nI 0, .slice none 0 0, nI 0, .slice none 0 0, .slice none 0 0], .row 48 6 (nA g11) 1 1 [nI Pd, nI Md, nS Ad md kd, nI Kd, nS Ada da kda, nS Adb db kdb]]) (fun z74 => [(1, nP g11), (2, nP g13), (3, nI 0), (4, .pointer (some ad19)), (6, nP g42), (7, nI z52), (8, nI (gi da z52)), (9, nI z74), (10, nI z69), (11, nI (gi da z69)), (31, nS Ada da kda), (32, nI (da.length : Int)), (33, nI z52), (34, .bool (decide (z52 < (da.length : Int)))), (44, nS Ada da kda), (45, nI (da.length : Int)), (46, nI z69), (47, .bool (decide (z69 < (da.length : Int)))), (53, .bool (decide (z69 ≠ z52)))]) ?_ ?_
     .refine W.block ?_; refine Jd 3 ?_; obtain ⟨o76, hv⟩ := hv; refine Jo Jh XE3 (hS.ro hda) rfl rfl o76 rfl <| Js XU3 rfl rfl (JJ (hS.ro hda) o76) rfl <| Jc 3 <| Jd 6 <| Jj rfl (fun c77 => ?_) (fun c77 => ?_)
      .have hv := hv.1 (oT c77); refine Jd 6 <| SL.call hS (ok_Sub (Q9 (hS.chunk (i := 4) rfl)) hv) XF85 rfl XN85 rfl rfl ?_; rintro _ _ w78 ⟨r79, rfl, rfl, hv⟩ hGw78 hS; have hS := hS.n0; refine SL.call hS (Jgd (Q9 (hS.chunk (i := 4) rfl)) hv) XF84 rfl XN84 rfl rfl ?_; rintro _ _ w80 ⟨r81, rfl, rfl, hv⟩ hGw80 hS; have hS := hS.n0; refine Jc 2 ?_; exact ⟨r81, sp rfl, rfl, hv, hS⟩
      have hv := hv.2 (oF c77); refine Jr ?_; exact ⟨z68, sp rfl, rfl, hv, hS⟩
     rintro z74 w82 ⟨hv, hS⟩; have hv := hk84 z74 hv; refine JI ?_; obtain ⟨o83, hv⟩ := hv; refine WL.add (r := (z69 + 1)) rfl rfl (wr o83) rfl <| Jc 2 ?_; exact ⟨(z74, (z69 + 1)), sp rfl, hv.2, rfl, hv.1, hS⟩
    have hv := hv.2 (oF c73); refine JB ?_; obtain ⟨r91, r92, o94, hv⟩ := hv; obtain ⟨o99, hv⟩ := hv; have hS0 := hS; refine Jmy 10 [8] (fun _ => false) (fun _ => none) (fun _ v u => u = v) [⟨[], [6], true⟩, ⟨[0], [], false⟩, ⟨[], [7], true⟩, ⟨[], [4], true⟩, ⟨[], [9], true⟩, ⟨[3, 4], [], false⟩, ⟨[5], [], true⟩, ⟨[6], [], true⟩, ⟨[6], [], true⟩, ⟨[1, 2], [], true⟩] [.k 63 (.pointer (some ((⟨g42, 0, none⟩ : Addr).add 5))), .k 64 (nS A39 x32 k40), .k 65 (nI z52), .k 66 (.pointer (some ad19)), .k 67 (nI z68), .k 68 (.tuple #[nI r91, nI r92]), .k 62 (.tuple #[nI r91, nI r92]), .k 69 (nI r91), .k 70 (nI r92), .k 71 (.pointer (some ((JU A39).add z52.toNat)))] (fun _ => vbD) Try.mixed (by kernel_rfl) rfl rfl (fun _ _ _ _ _ _ _ h => h) ?_ ?_
    . refine ⟨fun _ _ _ => Jb (off := 5) Jv rfl rfl <| Ja ⟨rfl, rfl⟩, og hS fun _ _ hS => Jp 0 5 Jh hS rfl rfl rfl ⟨rfl, rfl⟩ <| Ja ⟨rfl, Jg _⟩, oC, oC, oC, ?_, oC, oC, oC, fun _ _ _ => Jo Jh XE3 (hS.rd (i := 3) rfl) rfl rfl o99 rfl <| Ja ⟨rfl, rfl⟩, trivial⟩; intro w90 hE; have hS := hS.grow (hE rfl); intro RR; refine WL.call XF86 rfl XN86 rfl rfl (JF (ok_Inv (Q9 (hS.chunk (i := 4) rfl)) o94)) ?_; rintro _ w93 ⟨_, hGw93, hRww93, hNww93, r91q, r92q, rfl, rfl, he⟩; cases he; exact Ja ⟨rfl, hGw93⟩
    intro X hX; have hX : X ∈ ([[], [8]] : List (List Nat)) := hX; simp only [List.mem_cons, List.not_mem_nil, or_false] at hX; rcases hX with rfl | rfl
    .intro vals w100 hT hVs hAp hCp q_ hq_; have hS := hS.grow hT; obtain rfl : q_ = 1 := hq_.trans (by decide +kernel); refine Je 10 rfl <| Jf (cs' := is (si x51 z52 r91)) 3 z52.toNat hS rfl XE3 rfl rfl rfl (Qu (hS.rd (i := 3) rfl) o99) (Qb _ _ _) ?_; intro w101 hS; refine Ja <| JC ?_; exact ⟨(si x51 z52 r91, z68, z69, (decide (z69 < (da.length : Int)))), sp rfl, rfl, hv, hS⟩
    intro vals w100 hT hVs hAp hCp q_ hq_; have hS := hS.grow hT; obtain rfl : q_ = 2 := hq_.trans (by decide +kernel); refine JM 8 10 rfl rfl ?_ ?_
    .refine Jc 2 <| Je 10 rfl <| Jf (cs' := is (si x51 z52 r91)) 3 z52.toNat hS rfl XE3 rfl rfl rfl (Qu (hS.rd (i := 3) rfl) o99) (Qb _ _ _) ?_; intro w101 hS; refine Ja <| JC ?_; exact ⟨(si x51 z52 r91, z68, z69, (decide (z69 < (da.length : Int)))), sp rfl, rfl, hv, hS⟩
    refine Jf (cs' := is (si x51 z52 r91)) 3 z52.toNat hS rfl XE3 rfl rfl rfl (Qu (hS.rd (i := 3) rfl) o99) (Qb _ _ _) ?_; intro w101 hS; refine Ja <| Je 8 rfl <| Jc 2 <| JC ?_; exact ⟨(si x51 z52 r91, z68, z69, (decide (z69 < (da.length : Int)))), sp rfl, rfl, hv, hS⟩
   rintro ⟨x57, z58, z59, b60⟩ w103 ⟨hv, hS⟩; have hv := hk105 x57 z58 z59 b60 hv; refine JI ?_; obtain ⟨o104, hv⟩ := hv; refine WL.add (r := (z52 + 1)) rfl rfl (wr o104) rfl <| Jc 2 ?_; exact ⟨(x57, (z52 + 1)), sp rfl, hv.2, rfl, hv.1, hS⟩
  have hv := hv.2 (oF c56); refine JB <| Jd 2 <| JD 0 JQ J7 hS rfl ⟨rfl, rfl⟩ rfl <| JS (cs := [nI r27, nI r28, nS A33 x29 k34, nI ((da.length : Int) - Kd), nS A36 x31 k37, nS A39 x32 k40]) 5 hS rfl JQ rfl rfl rfl rfl rfl ?_; intro w106 hS; refine Jc 2 <| W.ret ?_; have hm5 := (hS.rd (i := 3) rfl).ilen; have hS := hS.relen (i := 3) rfl hm5.symm
  change St _ _ _ _ [_, _, _, _, _, _, _] at hS
  repeat with_reducible first | refine blk.ret ?_ | refine exits.retI ?_
  refine endC.mk ⟨[.agg #[nI r27, nI r28, nS A33 x29 k34, nI ((da.length : Int) - Kd), nS A36 x31 k37, nS A39 x32 k40], nI 0], ⟨_, _, _, rfl, rfl, J6 (cs := [nI r27, nI r28, nS A33 x29 k34, nI ((da.length : Int) - Kd), nS A36 x31 k37, nS A39 x32 k40]) JQ J7 rfl (JT (hS.own (i := 5) rfl)), ⟨_, _, rfl, rfl, rfl⟩⟩, ?_⟩; exact ⟨_, hS.ext, (hS.pick [1, 2, 3] rfl).rows, Yl (hS.pick [1, 2, 3] rfl).rows rfl, ⟨r27, r28, x29, ((da.length : Int) - Kd), x31, x51, (0 : Int), A33, k34, A36, k37, A39, k40, (by (try unfold nS); first | (rw [show (Value.slice A39 x32.length k40) = Value.slice A39 (x51).length k40 from sm0 hm5.symm]; done) | (rw [show (Value.slice A39 x32.length k40) = Value.slice A39 (x51).length k40 from sm0 hm5.symm]; rfl)), rfl, hv⟩⟩
end Go.Proofs.Ytppkigdakobebaa
namespace Go.Proofs.Ytppkigdakobebaa
open Go.RowKit
end Go.Proofs.Ytppkigdakobebaa
namespace Go.Proofs.Ytppkigdakobebaa
open Go.RowKit
def QO (Pd : Int) (Md : Int) (md : LI) (Kd : Int) (da : LI) (db : LI) (Q : Int -> Prop) : Prop :=
  ZB Pd Md md (fun r14 => ((r14 ≠ 0) -> (Q 1)) /\ (¬ (r14 ≠ 0) -> ((((da.length : Int) < (1 : Int)) -> (Q 4)) /\ (¬ ((da.length : Int) < (1 : Int)) -> ((((64 : Int) < (da.length : Int)) -> (Q 4)) /\ (¬ ((64 : Int) < (da.length : Int)) -> ((((db.length : Int) ≠ (da.length : Int)) -> (Q 10)) /\ (¬ ((db.length : Int) ≠ (da.length : Int)) -> (∃ (I22 : Int -> Prop) (μ23 : Int -> Nat), I22 0 /\ ∀ (z21 : Int), (I22 z21 -> (((z21 < (da.length : Int)) -> (((0 <= z21 /\ z21 < (da.length : Nat)) /\ ((Jck Pd Md md (gi da z21) (fun q => q = false)) /\ (Q 2))) ∨ ((0 <= z21 /\ z21 < (da.length : Nat)) /\ ((Jck Pd Md md (gi da z21) (fun q => q = true)) /\ ((0 <= z21 /\ z21 < (db.length : Nat)) /\ (∃ (r74 : Bool), Jck Pd Md md (gi db z21) (fun q => q = r74) /\ ((((!r74) = true) -> (Q 2)) /\ ((!r74) = false -> ((I64 (z21 + 1)) /\ (I22 (z21 + 1) /\ μ23 (z21 + 1) < μ23 z21)))))))))) /\ (¬ (z21 < (da.length : Int)) -> (∃ (I85 : Int -> Prop) (μ86 : Int -> Nat), I85 0 /\ ∀ (z84 : Int), (I85 z84 -> (((z84 < (da.length : Int)) -> (∃ (I92 : Int -> Prop) (μ93 : Int -> Nat), I92 0 /\ ∀ (z91 : Int), (I92 z91 -> (((z91 < z84) -> ((0 <= z84 /\ z84 < (da.length : Nat)) /\ ((0 <= z91 /\ z91 < (da.length : Nat)) /\ ((((gi da z84) = (gi da z91)) -> (Q 18)) /\ (¬ ((gi da z84) = (gi da z91)) -> ((I64 (z91 + 1)) /\ (I92 (z91 + 1) /\ μ93 (z91 + 1) < μ93 z91))))))) /\ (¬ (z91 < z84) -> ((I64 (z84 + 1)) /\ (I85 (z84 + 1) /\ μ86 (z84 + 1) < μ86 z84))))))) /\ (¬ (z84 < (da.length : Int)) -> (∃ (I117 : Int -> Prop) (μ118 : Int -> Nat), I117 0 /\ ∀ (z116 : Int), (I117 z116 -> (((z116 < (da.length : Int)) -> ((0 <= z116 /\ z116 < (db.length : Nat)) /\ ((((gi db z116) = (0 : Int)) -> (Q 7)) /\ (¬ ((gi db z116) = (0 : Int)) -> ((I64 (z116 + 1)) /\ (I117 (z116 + 1) /\ μ118 (z116 + 1) < μ118 z116)))))) /\ (¬ (z116 < (da.length : Int)) -> (((Kd < 0) -> (Q 6)) /\ (¬ (Kd < 0) -> ((((da.length : Int) < Kd) -> (Q 6)) /\ (¬ ((da.length : Int) < Kd) -> (Q 0)))))))))))))))))))))))))
theorem Yr {w : World} {Q : Int -> Prop} {Pd : Int} {Md : Int} {md : LI} {Kd : Int} {da : LI} {db : LI} {Bd : Nat} {Ad : Option Addr} {nd kd : Nat} (hd : Rd Bd w 1 Ad nd kd (is md)) {Bda : Nat} {Ada : Option Addr} {nda kda : Nat} (hda : Rd Bda w 1 Ada nda kda (is da)) {Bdb : Nat} {Adb : Option Addr} {ndb kdb : Nat} (hdb : Rd Bdb w 1 Adb ndb kdb (is db)) (hv : QO Pd Md md Kd da db Q) :
   Calls Try.prog 31 #[.agg #[.int .i64 Pd, .int .i64 Md, .slice Ad nd kd, .int .i64 Kd, .slice Ada nda kda, .slice Adb ndb kdb]] w <| Rt w fun v Qr => ∃ (r0 : Int), v = .int .i64 r0 /\ Qr = [] /\ Q r0 := by
 have hnd := hd.ilen; subst hnd; have hnda := hda.ilen; subst hnda; have hndb := hdb.ilen; subst hndb; refine Jn <| Jl (vs := [.agg #[nI Pd, nI Md, nS Ad md kd, nI Kd, nS Ada da kda, nS Adb db kdb]]) [2] Joe rfl rfl rfl rfl ?_; have hS := Jt w; unfold QO at hv; refine Jd 2 <| JH (z := 6) (cs := [nI Pd, nI Md, nS Ad md kd, nI Kd, nS Ada da kda, nS Adb db kdb]) hS rfl rfl rfl rfl ?_; intro g11 w12 hS; refine Jc 2 <| Jd 2 <| Jb (off := 4) Ju rfl rfl <| Jp 0 4 Jh hS rfl rfl rfl ⟨rfl, rfl⟩ <| WL.len Jh rfl rfl <| Jc 2 <| JA <| W.block <| Jd 2 <| Jb (off := 0) Qf rfl rfl <| J4 (cs := [nI Pd, nI Md, nS Ad md kd]) JW J0 rfl rfl (QE (hS.rd (i := 0) rfl) 0 rfl) rfl <| SL.call hS (Jfd (hS.ro hd) hv) XF34 rfl XN34 rfl rfl ?_; rintro _ _ w13 ⟨r14, rfl, rfl, hv⟩ hGw13 hS; have hS := hS.n0; refine Jc 3 <| Jj rfl (fun c15 => ?_) (fun c15 => ?_)
 .have hv := hv.1 (oT c15); refine Jd 4 <| W.ret <| ⟨_, rfl, Fin.nil ?_⟩
  exact (hS.pick [] rfl).fin rfl ⟨(1 : Int), rfl, rfl, hv⟩
 have hv := hv.2 (oF c15); refine Jd 4 <| Jq rfl rfl ?_; by_cases g16 : (da.length : Int) < (1 : Int)
 .have hv := hv.1 g16; rw [decide_eq_true g16]; refine Jc 5 <| JP rfl <| Jd 4 <| W.ret <| ⟨_, rfl, Fin.nil ?_⟩
  exact (hS.pick [] rfl).fin rfl ⟨(4 : Int), rfl, rfl, hv⟩
 have hv := hv.2 g16; rw [decide_eq_false g16]; refine Jc 7 <| Jj rfl (fun c17 => ?_) (fun c17 => ?_)
 .have hv := hv.1 (oT c17); refine Jd 4 <| W.ret <| ⟨_, rfl, Fin.nil ?_⟩
  exact (hS.pick [] rfl).fin rfl ⟨(4 : Int), rfl, rfl, hv⟩
 have hv := hv.2 (oF c17); refine Jd 2 <| Jb (off := 5) Jv rfl rfl <| Jp 0 5 Jh hS rfl rfl rfl ⟨rfl, rfl⟩ <| WL.len Jh rfl rfl <| Jc 4 <| Jj rfl (fun c18 => ?_) (fun c18 => ?_)
 .have hv := hv.1 (oT c18); refine Jd 4 <| W.ret <| ⟨_, rfl, Fin.nil ?_⟩
  exact (hS.pick [] rfl).fin rfl ⟨(10 : Int), rfl, rfl, hv⟩
 have hv := hv.2 (oF c18); refine Jr <| Jd 5 <| W.block ?_; obtain ⟨I22, μ23, hv, hk128⟩ := hv; refine JE (σ := Int) (fun z21 w1 => I22 z21 /\ St TT w none w1 [.row 48 6 (nA g11) 1 1 [nI Pd, nI Md, nS Ad md kd, nI Kd, nS Ada da kda, nS Adb db kdb]]) (fun z21 => [(1, nP g11), (2, nI 0), (3, nI (da.length : Int)), (4, nI z21)]) (fun z21 => μ23 z21) (0 : Int) ⟨hv, hS⟩ ⟨rfl, rfl, rfl, rfl, trivial⟩ ?_; rintro z21 w24 ⟨hv, hS⟩; have hv := hk128 z21 hv; refine Jd 7 <| Jj rfl (fun c25 => ?_) (fun c25 => ?_)
 .have hv := hv.1 (oT c25); refine Jr <| JA <| W.block <| JA ?_; rcases hv with hv | hv
  .obtain ⟨o32, hv⟩ := hv; obtain ⟨o37, hv⟩ := hv; refine JK 20 [⟨[], [1], true⟩, ⟨[0], [], false⟩, ⟨[], [1], true⟩, ⟨[2], [], false⟩, ⟨[], [4], true⟩, ⟨[3, 4], [], true⟩, ⟨[5], [], false⟩, ⟨[1, 6], [], false⟩, ⟨[7], [], true⟩, ⟨[8], [], true⟩, ⟨[9], [1], true⟩, ⟨[9, 10], [], false⟩, ⟨[9], [1], true⟩, ⟨[9, 12], [], false⟩, ⟨[9], [4], true⟩, ⟨[9, 13, 14], [], true⟩, ⟨[9, 15], [], false⟩, ⟨[9, 11, 16], [], false⟩, ⟨[9, 17], [], true⟩, ⟨[9, 18], [], true⟩] [(34, nP g11), (35, .agg #[nI Pd, nI Md, nS Ad md kd]), (36, .pointer (some ((⟨g11, 0, none⟩ : Addr).add 4))), (37, nS Ada da kda), (38, nI z21), (39, .pointer (some ((JU Ada).add z21.toNat))), (40, nI (gi da z21)), (41, .bool false), (42, .bool true), (43, .bool true), (44, undef), (45, undef), (46, undef), (47, undef), (48, undef), (49, undef), (50, undef), (51, undef), (52, undef), (53, .bool true)] Try.mixed (by kernel_rfl) rfl rfl ?_ ?_
   .refine ⟨fun _ _ _ => Jb (off := 0) Qf rfl rfl <| Ja ⟨rfl, rfl⟩, og hS fun _ _ hS => J4 (cs := [nI Pd, nI Md, nS Ad md kd]) JW J0 rfl rfl (QE (hS.rd (i := 0) rfl) 0 rfl) rfl <| Ja ⟨rfl, Jg _⟩, fun _ _ _ => Jb (off := 4) Ju rfl rfl <| Ja ⟨rfl, rfl⟩, og hS fun _ _ hS => Jp 0 4 Jh hS rfl rfl rfl ⟨rfl, rfl⟩ <| Ja ⟨rfl, Jg _⟩, oD, fun _ _ _ => Jo Jh XE3 (hS.ro hda) rfl rfl o32 rfl <| Ja ⟨rfl, rfl⟩, og hS fun _ _ hS => Js XU3 rfl rfl (JJ (hS.ro hda) o32) rfl <| Ja ⟨rfl, Jg _⟩, ?_, oD, oD, oD, oD, oD, oD, oD, oD, oD, oD, oD, oD, trivial⟩; intro w34 hE RR; have hS := hS.grow (hE rfl); refine WL.call Jod rfl XN72 rfl rfl (JF (Jdw (hS.ro hd) o37)) ?_; rintro _ w36 ⟨_, hGw36, hRww36, hNww36, r35, rfl, rfl, he⟩; subst he; exact Ja ⟨rfl, hGw36⟩
   intro w50 hT; have hS := hS.grow hT; refine JC <| JP rfl <| Jd 4 <| W.ret <| ⟨_, rfl, Fin.nil ?_⟩
   exact (hS.pick [] rfl).fin rfl ⟨(2 : Int), rfl, rfl, hv⟩
  obtain ⟨o57, hv⟩ := hv; obtain ⟨o62, hv⟩ := hv; obtain ⟨o71, hv⟩ := hv; obtain ⟨r74, o76, hv⟩ := hv; refine JK 20 [⟨[], [1], true⟩, ⟨[0], [], false⟩, ⟨[], [1], true⟩, ⟨[2], [], false⟩, ⟨[], [4], true⟩, ⟨[3, 4], [], true⟩, ⟨[5], [], false⟩, ⟨[1, 6], [], false⟩, ⟨[7], [], true⟩, ⟨[8], [], true⟩, ⟨[9], [1], true⟩, ⟨[9, 10], [], false⟩, ⟨[9], [1], true⟩, ⟨[9, 12], [], false⟩, ⟨[9], [4], true⟩, ⟨[9, 13, 14], [], true⟩, ⟨[9, 15], [], false⟩, ⟨[9, 11, 16], [], false⟩, ⟨[9, 17], [], true⟩, ⟨[9, 18], [], true⟩] [(34, nP g11), (35, .agg #[nI Pd, nI Md, nS Ad md kd]), (36, .pointer (some ((⟨g11, 0, none⟩ : Addr).add 4))), (37, nS Ada da kda), (38, nI z21), (39, .pointer (some ((JU Ada).add z21.toNat))), (40, nI (gi da z21)), (41, .bool true), (42, .bool false), (43, .bool false), (44, nP g11), (45, .agg #[nI Pd, nI Md, nS Ad md kd]), (46, .pointer (some ((⟨g11, 0, none⟩ : Addr).add 5))), (47, nS Adb db kdb), (48, nI z21), (49, .pointer (some ((JU Adb).add z21.toNat))), (50, nI (gi db z21)), (51, .bool r74), (52, .bool (!r74)), (53, .bool (!r74))] Try.mixed (by kernel_rfl) rfl rfl ?_ ?_
  . refine ⟨fun _ _ _ => Jb (off := 0) Qf rfl rfl <| Ja ⟨rfl, rfl⟩, og hS fun _ _ hS => J4 (cs := [nI Pd, nI Md, nS Ad md kd]) JW J0 rfl rfl (QE (hS.rd (i := 0) rfl) 0 rfl) rfl <| Ja ⟨rfl, Jg _⟩, fun _ _ _ => Jb (off := 4) Ju rfl rfl <| Ja ⟨rfl, rfl⟩, og hS fun _ _ hS => Jp 0 4 Jh hS rfl rfl rfl ⟨rfl, rfl⟩ <| Ja ⟨rfl, Jg _⟩, oD, fun _ _ _ => Jo Jh XE3 (hS.ro hda) rfl rfl o57 rfl <| Ja ⟨rfl, rfl⟩, og hS fun _ _ hS => Js XU3 rfl rfl (JJ (hS.ro hda) o57) rfl <| Ja ⟨rfl, Jg _⟩, ?_, oD, oD, fun _ _ _ => WL.take rfl <| Jb (off := 0) Qf rfl rfl <| Ja ⟨rfl, rfl⟩, og hS fun _ _ hS => WL.take rfl <| J4 (cs := [nI Pd, nI Md, nS Ad md kd]) JW J0 rfl rfl (QE (hS.rd (i := 0) rfl) 0 rfl) rfl <| Ja ⟨rfl, Jg _⟩, fun _ _ _ => WL.take rfl <| Jb (off := 5) Jv rfl rfl <| Ja ⟨rfl, rfl⟩, og hS fun _ _ hS => WL.take rfl <| Jp 0 5 Jh hS rfl rfl rfl ⟨rfl, rfl⟩ <| Ja ⟨rfl, Jg _⟩, oD, fun _ _ _ => WL.take rfl <| Jo Jh XE3 (hS.ro hdb) rfl rfl o71 rfl <| Ja ⟨rfl, rfl⟩, og hS fun _ _ hS => WL.take rfl <| Js XU3 rfl rfl (JJ (hS.ro hdb) o71) rfl <| Ja ⟨rfl, Jg _⟩, ?_, oD, oD, trivial⟩
    .intro w59 hE RR; have hS := hS.grow (hE rfl); refine WL.call Jod rfl XN72 rfl rfl (JF (Jdw (hS.ro hd) o62)) ?_; rintro _ w61 ⟨_, hGw61, hRww61, hNww61, r60, rfl, rfl, he⟩; subst he; exact Ja ⟨rfl, hGw61⟩
    intro w73 hE RR; have hS := hS.grow (hE rfl); refine WL.take rfl <| WL.call Jod rfl XN72 rfl rfl (JF (Jdw (hS.ro hd) o76)) ?_; rintro _ w75 ⟨_, hGw75, hRww75, hNww75, r74q, rfl, rfl, he⟩; subst he; exact Ja ⟨rfl, hGw75⟩
  intro w79 hT; have hS := hS.grow hT; refine JC <| Jj rfl (fun c80 => ?_) (fun c80 => ?_)
  .have hv := hv.1 (c80); refine Jd 4 <| W.ret <| ⟨_, rfl, Fin.nil ?_⟩
   exact (hS.pick [] rfl).fin rfl ⟨(2 : Int), rfl, rfl, hv⟩
  have hv := hv.2 (c80); refine Jr <| Jd 2 ?_; obtain ⟨o81, hv⟩ := hv; refine WL.add (r := (z21 + 1)) rfl rfl (wr o81) rfl <| Jc 2 ?_; exact ⟨(z21 + 1), sp rfl, hv.2, rfl, hv.1, hS⟩
 have hv := hv.2 (oF c25); refine JB <| Jd 5 <| W.block ?_; obtain ⟨I85, μ86, hv, hk127⟩ := hv; refine JE (σ := Int) (fun z84 w1 => I85 z84 /\ St TT w none w1 [.row 48 6 (nA g11) 1 1 [nI Pd, nI Md, nS Ad md kd, nI Kd, nS Ada da kda, nS Adb db kdb]]) (fun z84 => [(1, nP g11), (2, nI 0), (3, nI (da.length : Int)), (5, nI z84)]) (fun z84 => μ86 z84) (0 : Int) ⟨hv, hS⟩ ⟨rfl, rfl, rfl, rfl, trivial⟩ ?_; rintro z84 w87 ⟨hv, hS⟩; have hv := hk127 z84 hv; refine Jd 7 <| Jj rfl (fun c88 => ?_) (fun c88 => ?_)
 .have hv := hv.1 (oT c88); refine Jr <| JA <| W.block <| Jd 4 <| W.block ?_; obtain ⟨I92, μ93, hv, hk113⟩ := hv; refine JE (σ := Int) (fun z91 w1 => I92 z91 /\ St TT w none w1 [.row 48 6 (nA g11) 1 1 [nI Pd, nI Md, nS Ad md kd, nI Kd, nS Ada da kda, nS Adb db kdb]]) (fun z91 => [(1, nP g11), (2, nI 0), (3, nI (da.length : Int)), (5, nI z84), (6, nI z91), (56, .bool (decide (z84 < (da.length : Int))))]) (fun z91 => μ93 z91) (0 : Int) ⟨hv, hS⟩ ⟨rfl, rfl, rfl, rfl, rfl, rfl, trivial⟩ ?_; rintro z91 w94 ⟨hv, hS⟩; have hv := hk113 z91 hv; refine Jd 7 <| Jj rfl (fun c95 => ?_) (fun c95 => ?_)
  .have hv := hv.1 (oT c95); refine Jr <| JA <| W.block <| JA ?_; obtain ⟨o100, hv⟩ := hv; obtain ⟨o106, hv⟩ := hv; refine JK 11 [⟨[], [1], true⟩, ⟨[0], [], false⟩, ⟨[], [5], true⟩, ⟨[1, 2], [], true⟩, ⟨[3], [], false⟩, ⟨[], [1], true⟩, ⟨[5], [], false⟩, ⟨[], [6], true⟩, ⟨[6, 7], [], true⟩, ⟨[8], [], false⟩, ⟨[4, 9], [], true⟩] [(64, .pointer (some ((⟨g11, 0, none⟩ : Addr).add 4))), (65, nS Ada da kda), (66, nI z84), (67, .pointer (some ((JU Ada).add z84.toNat))), (68, nI (gi da z84)), (69, .pointer (some ((⟨g11, 0, none⟩ : Addr).add 4))), (70, nS Ada da kda), (71, nI z91), (72, .pointer (some ((JU Ada).add z91.toNat))), (73, nI (gi da z91)), (74, .bool (decide ((gi da z84) = (gi da z91))))] Try.mixed (by kernel_rfl) rfl rfl ?_ ?_
   .refine ⟨fun _ _ _ => Jb (off := 4) Ju rfl rfl <| Ja ⟨rfl, rfl⟩, og hS fun _ _ hS => Jp 0 4 Jh hS rfl rfl rfl ⟨rfl, rfl⟩ <| Ja ⟨rfl, Jg _⟩, oD, fun _ _ _ => Jo Jh XE3 (hS.ro hda) rfl rfl o100 rfl <| Ja ⟨rfl, rfl⟩, og hS fun _ _ hS => Js XU3 rfl rfl (JJ (hS.ro hda) o100) rfl <| Ja ⟨rfl, Jg _⟩, fun _ _ _ => Jb (off := 4) Ju rfl rfl <| Ja ⟨rfl, rfl⟩, og hS fun _ _ hS => Jp 0 4 Jh hS rfl rfl rfl ⟨rfl, rfl⟩ <| Ja ⟨rfl, Jg _⟩, oD, fun _ _ _ => Jo Jh XE3 (hS.ro hda) rfl rfl o106 rfl <| Ja ⟨rfl, rfl⟩, og hS fun _ _ hS => Js XU3 rfl rfl (JJ (hS.ro hda) o106) rfl <| Ja ⟨rfl, Jg _⟩, oD, trivial⟩
   intro w109 hT; have hS := hS.grow hT; refine JC <| Jj rfl (fun c110 => ?_) (fun c110 => ?_)
   .have hv := hv.1 (oT c110); refine Jd 4 <| W.ret <| ⟨_, rfl, Fin.nil ?_⟩
    exact (hS.pick [] rfl).fin rfl ⟨(18 : Int), rfl, rfl, hv⟩
   have hv := hv.2 (oF c110); refine Jr <| Jd 2 ?_; obtain ⟨o111, hv⟩ := hv; refine WL.add (r := (z91 + 1)) rfl rfl (wr o111) rfl <| Jc 2 ?_; exact ⟨(z91 + 1), sp rfl, hv.2, rfl, hv.1, hS⟩
  have hv := hv.2 (oF c95); refine JB <| Jd 2 ?_; obtain ⟨o112, hv⟩ := hv; refine WL.add (r := (z84 + 1)) rfl rfl (wr o112) rfl <| Jc 2 ?_; exact ⟨(z84 + 1), sp rfl, hv.2, rfl, hv.1, hS⟩
 have hv := hv.2 (oF c88); refine JB <| Jd 5 <| W.block ?_; obtain ⟨I117, μ118, hv, hk126⟩ := hv; refine JE (σ := Int) (fun z116 w1 => I117 z116 /\ St TT w none w1 [.row 48 6 (nA g11) 1 1 [nI Pd, nI Md, nS Ad md kd, nI Kd, nS Ada da kda, nS Adb db kdb]]) (fun z116 => [(1, nP g11), (2, nI 0), (3, nI (da.length : Int)), (7, nI z116)]) (fun z116 => μ118 z116) (0 : Int) ⟨hv, hS⟩ ⟨rfl, rfl, rfl, rfl, trivial⟩ ?_; rintro z116 w119 ⟨hv, hS⟩; have hv := hk126 z116 hv; refine Jd 7 <| Jj rfl (fun c120 => ?_) (fun c120 => ?_)
 .have hv := hv.1 (oT c120); refine Jr <| JA <| W.block <| Jd 2 <| Jb (off := 5) Jv rfl rfl <| Jp 0 5 Jh hS rfl rfl rfl ⟨rfl, rfl⟩ <| Jq rfl rfl ?_; obtain ⟨o121, hv⟩ := hv; refine Jo Jh XE3 (hS.ro hdb) rfl rfl o121 rfl <| Js XU3 rfl rfl (JJ (hS.ro hdb) o121) rfl <| Jc 2 <| Jj rfl (fun c122 => ?_) (fun c122 => ?_)
  .have hv := hv.1 (oT c122); refine Jd 4 <| W.ret <| ⟨_, rfl, Fin.nil ?_⟩
   exact (hS.pick [] rfl).fin rfl ⟨(7 : Int), rfl, rfl, hv⟩
  have hv := hv.2 (oF c122); refine Jr <| Jd 2 ?_; obtain ⟨o123, hv⟩ := hv; refine WL.add (r := (z116 + 1)) rfl rfl (wr o123) rfl <| Jc 2 ?_; exact ⟨(z116 + 1), sp rfl, hv.2, rfl, hv.1, hS⟩
 have hv := hv.2 (oF c120); refine JB <| Jd 3 <| Jb (off := 3) Qm rfl rfl <| Jp 0 3 XU3 hS rfl rfl rfl ⟨rfl, rfl⟩ <| Q8 rfl rfl rfl <| Jq rfl rfl ?_; by_cases g124 : Kd < 0
 .have hv := hv.1 g124; rw [decide_eq_true g124]; refine Jc 6 <| JP rfl <| Jd 4 <| W.ret <| ⟨_, rfl, Fin.nil ?_⟩
  exact (hS.pick [] rfl).fin rfl ⟨(6 : Int), rfl, rfl, hv⟩
 have hv := hv.2 g124; rw [decide_eq_false g124]; refine WL.take rfl <| Jb (off := 3) Qm rfl rfl <| WL.take rfl <| Jp 0 3 XU3 hS rfl rfl rfl ⟨rfl, rfl⟩ <| Jc 6 <| Jj rfl (fun c125 => ?_) (fun c125 => ?_)
 .have hv := hv.1 (oT c125); refine Jd 4 <| W.ret <| ⟨_, rfl, Fin.nil ?_⟩
  exact (hS.pick [] rfl).fin rfl ⟨(6 : Int), rfl, rfl, hv⟩
 have hv := hv.2 (oF c125); refine Jr <| Jd 4 <| W.ret <| ⟨_, rfl, Fin.nil ?_⟩
 exact (hS.pick [] rfl).fin rfl ⟨(0 : Int), rfl, rfl, hv⟩
end Go.Proofs.Ytppkigdakobebaa
namespace Go.Proofs.Ytppkigdakobebaa
open Go.RowKit
def Yy (Pd : Int) (Md : Int) (md : LI) (Kd : Int) (da : LI) (db : LI) (Pe : Int) (Me : Int) (me : LI) (Ke : Int) (ea : LI) (eb : LI) (Q : Bool -> Prop) : Prop :=
  Jbb Pd Md md Pe Me me (fun r16 => (((!r16) = true) -> Q false) /\ ((!r16) = false -> (((Kd ≠ Ke) -> Q false) /\ (¬ (Kd ≠ Ke) -> ((((da.length : Int) ≠ (ea.length : Int)) -> Q false) /\ (¬ ((da.length : Int) ≠ (ea.length : Int)) -> ((((db.length : Int) ≠ (eb.length : Int)) -> Q false) /\ (¬ ((db.length : Int) ≠ (eb.length : Int)) -> (∃ (I24 : Int -> Prop) (μ25 : Int -> Nat), I24 0 /\ ∀ (z23 : Int), (I24 z23 -> (((z23 < (da.length : Int)) -> ((0 <= z23 /\ z23 < (da.length : Nat)) /\ ((0 <= z23 /\ z23 < (ea.length : Nat)) /\ ((((gi da z23) ≠ (gi ea z23)) -> Q false) /\ (¬ ((gi da z23) ≠ (gi ea z23)) -> ((I64 (z23 + 1)) /\ (I24 (z23 + 1) /\ μ25 (z23 + 1) < μ25 z23))))))) /\ (¬ (z23 < (da.length : Int)) -> (∃ (I47 : Int -> Prop) (μ48 : Int -> Nat), I47 0 /\ ∀ (z46 : Int), (I47 z46 -> (((z46 < (db.length : Int)) -> ((0 <= z46 /\ z46 < (db.length : Nat)) /\ ((0 <= z46 /\ z46 < (eb.length : Nat)) /\ ((((gi db z46) ≠ (gi eb z46)) -> Q false) /\ (¬ ((gi db z46) ≠ (gi eb z46)) -> ((I64 (z46 + 1)) /\ (I47 (z46 + 1) /\ μ48 (z46 + 1) < μ48 z46))))))) /\ (¬ (z46 < (db.length : Int)) -> Q true))))))))))))))))
theorem ZJ {w : World} {Q : Bool -> Prop} {Pd : Int} {Md : Int} {md : LI} {Kd : Int} {da : LI} {db : LI} {Pe : Int} {Me : Int} {me : LI} {Ke : Int} {ea : LI} {eb : LI} {Bd : Nat} {Ad : Option Addr} {nd kd : Nat} (hd : Rd Bd w 1 Ad nd kd (is md)) {Bda : Nat} {Ada : Option Addr} {nda kda : Nat} (hda : Rd Bda w 1 Ada nda kda (is da)) {Bdb : Nat} {Adb : Option Addr} {ndb kdb : Nat} (hdb : Rd Bdb w 1 Adb ndb kdb (is db)) {Be : Nat} {Ae : Option Addr} {ne ke : Nat} (he : Rd Be w 1 Ae ne ke (is me)) {Bea : Nat} {Aea : Option Addr} {nea kea : Nat} (hea : Rd Bea w 1 Aea nea kea (is ea)) {Beb : Nat} {Aeb : Option Addr} {neb keb : Nat} (heb : Rd Beb w 1 Aeb neb keb (is eb)) (hv : Yy Pd Md md Kd da db Pe Me me Ke ea eb Q) :
   Calls Try.prog 36 #[.agg #[.int .i64 Pd, .int .i64 Md, .slice Ad nd kd, .int .i64 Kd, .slice Ada nda kda, .slice Adb ndb kdb], .agg #[.int .i64 Pe, .int .i64 Me, .slice Ae ne ke, .int .i64 Ke, .slice Aea nea kea, .slice Aeb neb keb]] w <| Rt w fun v Qr => ∃ (r0 : Bool), v = .bool r0 /\ Qr = [] /\ Q r0 := by
 have hnd := hd.ilen; subst hnd; have hnda := hda.ilen; subst hnda; have hndb := hdb.ilen; subst hndb; have hne := he.ilen; subst hne; have hnea := hea.ilen; subst hnea; have hneb := heb.ilen; subst hneb; refine Jn <| Jl (vs := [.agg #[nI Pd, nI Md, nS Ad md kd, nI Kd, nS Ada da kda, nS Adb db kdb], .agg #[nI Pe, nI Me, nS Ae me ke, nI Ke, nS Aea ea kea, nS Aeb eb keb]]) [4] XF36 rfl rfl rfl rfl ?_; have hS := Jt w; unfold Yy at hv; refine Jd 2 <| JH (z := 6) (cs := [nI Pd, nI Md, nS Ad md kd, nI Kd, nS Ada da kda, nS Adb db kdb]) hS rfl rfl rfl rfl ?_; intro g11 w12 hS; refine JH (z := 6) (cs := [nI Pe, nI Me, nS Ae me ke, nI Ke, nS Aea ea kea, nS Aeb eb keb]) hS rfl rfl rfl rfl ?_; intro g13 w14 hS; refine Jc 2 <| Jd 3 <| Jb (off := 0) Qf rfl rfl <| J4 (cs := [nI Pd, nI Md, nS Ad md kd]) JW J0 rfl rfl (QE (hS.rd (i := 1) rfl) 0 rfl) rfl <| Jb (off := 0) Qf rfl rfl <| J4 (cs := [nI Pe, nI Me, nS Ae me ke]) JW J0 rfl rfl (QE (hS.rd (i := 0) rfl) 0 rfl) rfl <| SL.call hS (Jnd (hS.ro hd) (hS.ro he) hv) XF77 rfl XN77 rfl rfl ?_; rintro _ _ w15 ⟨r16, rfl, rfl, hv⟩ hGw15 hS; have hS := hS.n0; refine Yf rfl rfl <| Jq rfl rfl ?_; rcases g17 : (!r16) with _ | _
 .have hv := hv.2 g17; refine WL.take rfl <| Jb (off := 3) Qm rfl rfl <| WL.take rfl <| Jp 1 3 XU3 hS rfl rfl rfl ⟨rfl, rfl⟩ <| WL.take rfl <| Jb (off := 3) Qm rfl rfl <| WL.take rfl <| Jp 0 3 XU3 hS rfl rfl rfl ⟨rfl, rfl⟩ <| Jc 3 <| Jq rfl rfl ?_; by_cases g18 : Kd ≠ Ke
  .have hv := hv.1 g18; rw [decide_eq_true g18]; refine Jc 18 <| JP rfl <| Jd 4 <| W.ret <| ⟨_, rfl, Fin.nil ?_⟩
   exact (hS.pick [] rfl).fin rfl ⟨false, rfl, rfl, hv⟩
  have hv := hv.2 g18; rw [decide_eq_false g18]; refine WL.take rfl <| Jb (off := 4) Ju rfl rfl <| WL.take rfl <| Jp 1 4 Jh hS rfl rfl rfl ⟨rfl, rfl⟩ <| WL.take rfl <| WL.len Jh rfl rfl <| WL.take rfl <| Jb (off := 4) Ju rfl rfl <| WL.take rfl <| Jp 0 4 Jh hS rfl rfl rfl ⟨rfl, rfl⟩ <| WL.take rfl <| WL.len Jh rfl rfl <| Jc 3 <| Jq rfl rfl ?_; by_cases g19 : (da.length : Int) ≠ (ea.length : Int)
  .have hv := hv.1 g19; rw [decide_eq_true g19]; refine Jc 9 <| JP rfl <| Jd 4 <| W.ret <| ⟨_, rfl, Fin.nil ?_⟩
   exact (hS.pick [] rfl).fin rfl ⟨false, rfl, rfl, hv⟩
  have hv := hv.2 g19; rw [decide_eq_false g19]; refine WL.take rfl <| Jb (off := 5) Jv rfl rfl <| WL.take rfl <| Jp 1 5 Jh hS rfl rfl rfl ⟨rfl, rfl⟩ <| WL.take rfl <| WL.len Jh rfl rfl <| WL.take rfl <| Jb (off := 5) Jv rfl rfl <| WL.take rfl <| Jp 0 5 Jh hS rfl rfl rfl ⟨rfl, rfl⟩ <| WL.take rfl <| WL.len Jh rfl rfl <| Jc 4 <| Jj rfl (fun c20 => ?_) (fun c20 => ?_)
  .have hv := hv.1 (oT c20); refine Jd 4 <| W.ret <| ⟨_, rfl, Fin.nil ?_⟩
   exact (hS.pick [] rfl).fin rfl ⟨false, rfl, rfl, hv⟩
  have hv := hv.2 (oF c20); refine Jr <| Jd 5 <| W.block ?_; obtain ⟨I24, μ25, hv, hk68⟩ := hv; refine JE (σ := Int) (fun z23 w1 => I24 z23 /\ St TT w none w1 [.row 48 6 (nA g13) 1 1 [nI Pe, nI Me, nS Ae me ke, nI Ke, nS Aea ea kea, nS Aeb eb keb], .row 48 6 (nA g11) 1 1 [nI Pd, nI Md, nS Ad md kd, nI Kd, nS Ada da kda, nS Adb db kdb]]) (fun z23 => [(2, nP g11), (3, nP g13), (4, .bool false), (5, nI z23)]) (fun z23 => μ25 z23) (0 : Int) ⟨hv, hS⟩ ⟨rfl, rfl, rfl, rfl, trivial⟩ ?_; rintro z23 w26 ⟨hv, hS⟩; have hv := hk68 z23 hv; refine Jd 4 <| Jb (off := 4) Ju rfl rfl <| Jp 1 4 Jh hS rfl rfl rfl ⟨rfl, rfl⟩ <| WL.len Jh rfl rfl <| Jc 2 <| Jj rfl (fun c27 => ?_) (fun c27 => ?_)
  .have hv := hv.1 (oT c27); refine Jr <| JA <| W.block <| JA ?_; obtain ⟨o32, hv⟩ := hv; obtain ⟨o38, hv⟩ := hv; refine JK 11 [⟨[], [2], true⟩, ⟨[0], [], false⟩, ⟨[], [5], true⟩, ⟨[1, 2], [], true⟩, ⟨[3], [], false⟩, ⟨[], [3], true⟩, ⟨[5], [], false⟩, ⟨[], [5], true⟩, ⟨[6, 7], [], true⟩, ⟨[8], [], false⟩, ⟨[4, 9], [], true⟩] [(45, .pointer (some ((⟨g11, 0, none⟩ : Addr).add 4))), (46, nS Ada da kda), (47, nI z23), (48, .pointer (some ((JU Ada).add z23.toNat))), (49, nI (gi da z23)), (50, .pointer (some ((⟨g13, 0, none⟩ : Addr).add 4))), (51, nS Aea ea kea), (52, nI z23), (53, .pointer (some ((JU Aea).add z23.toNat))), (54, nI (gi ea z23)), (55, .bool (decide ((gi da z23) ≠ (gi ea z23))))] Try.mixed (by kernel_rfl) rfl rfl ?_ ?_
   .refine ⟨fun _ _ _ => Jb (off := 4) Ju rfl rfl <| Ja ⟨rfl, rfl⟩, og hS fun _ _ hS => Jp 1 4 Jh hS rfl rfl rfl ⟨rfl, rfl⟩ <| Ja ⟨rfl, Jg _⟩, oD, fun _ _ _ => Jo Jh XE3 (hS.ro hda) rfl rfl o32 rfl <| Ja ⟨rfl, rfl⟩, og hS fun _ _ hS => Js XU3 rfl rfl (JJ (hS.ro hda) o32) rfl <| Ja ⟨rfl, Jg _⟩, fun _ _ _ => Jb (off := 4) Ju rfl rfl <| Ja ⟨rfl, rfl⟩, og hS fun _ _ hS => Jp 0 4 Jh hS rfl rfl rfl ⟨rfl, rfl⟩ <| Ja ⟨rfl, Jg _⟩, oD, fun _ _ _ => Jo Jh XE3 (hS.ro hea) rfl rfl o38 rfl <| Ja ⟨rfl, rfl⟩, og hS fun _ _ hS => Js XU3 rfl rfl (JJ (hS.ro hea) o38) rfl <| Ja ⟨rfl, Jg _⟩, oD, trivial⟩
   intro w41 hT; have hS := hS.grow hT; refine JC <| Jj rfl (fun c42 => ?_) (fun c42 => ?_)
   .have hv := hv.1 (oT c42); refine Jd 4 <| W.ret <| ⟨_, rfl, Fin.nil ?_⟩
    exact (hS.pick [] rfl).fin rfl ⟨false, rfl, rfl, hv⟩
   have hv := hv.2 (oF c42); refine Jr <| Jd 2 ?_; obtain ⟨o43, hv⟩ := hv; refine WL.add (r := (z23 + 1)) rfl rfl (wr o43) rfl <| Jc 2 ?_; exact ⟨(z23 + 1), sp rfl, hv.2, rfl, hv.1, hS⟩
  have hv := hv.2 (oF c27); refine JB <| Jd 5 <| W.block ?_; obtain ⟨I47, μ48, hv, hk67⟩ := hv; refine JE (σ := Int) (fun z46 w1 => I47 z46 /\ St TT w none w1 [.row 48 6 (nA g13) 1 1 [nI Pe, nI Me, nS Ae me ke, nI Ke, nS Aea ea kea, nS Aeb eb keb], .row 48 6 (nA g11) 1 1 [nI Pd, nI Md, nS Ad md kd, nI Kd, nS Ada da kda, nS Adb db kdb]]) (fun z46 => [(2, nP g11), (3, nP g13), (4, .bool false), (6, nI z46)]) (fun z46 => μ48 z46) (0 : Int) ⟨hv, hS⟩ ⟨rfl, rfl, rfl, rfl, trivial⟩ ?_; rintro z46 w49 ⟨hv, hS⟩; have hv := hk67 z46 hv; refine Jd 4 <| Jb (off := 5) Jv rfl rfl <| Jp 1 5 Jh hS rfl rfl rfl ⟨rfl, rfl⟩ <| WL.len Jh rfl rfl <| Jc 2 <| Jj rfl (fun c50 => ?_) (fun c50 => ?_)
  .have hv := hv.1 (oT c50); refine Jr <| JA <| W.block <| JA ?_; obtain ⟨o55, hv⟩ := hv; obtain ⟨o61, hv⟩ := hv; refine JK 11 [⟨[], [2], true⟩, ⟨[0], [], false⟩, ⟨[], [6], true⟩, ⟨[1, 2], [], true⟩, ⟨[3], [], false⟩, ⟨[], [3], true⟩, ⟨[5], [], false⟩, ⟨[], [6], true⟩, ⟨[6, 7], [], true⟩, ⟨[8], [], false⟩, ⟨[4, 9], [], true⟩] [(63, .pointer (some ((⟨g11, 0, none⟩ : Addr).add 5))), (64, nS Adb db kdb), (65, nI z46), (66, .pointer (some ((JU Adb).add z46.toNat))), (67, nI (gi db z46)), (68, .pointer (some ((⟨g13, 0, none⟩ : Addr).add 5))), (69, nS Aeb eb keb), (70, nI z46), (71, .pointer (some ((JU Aeb).add z46.toNat))), (72, nI (gi eb z46)), (73, .bool (decide ((gi db z46) ≠ (gi eb z46))))] Try.mixed (by kernel_rfl) rfl rfl ?_ ?_
   .refine ⟨fun _ _ _ => Jb (off := 5) Jv rfl rfl <| Ja ⟨rfl, rfl⟩, og hS fun _ _ hS => Jp 1 5 Jh hS rfl rfl rfl ⟨rfl, rfl⟩ <| Ja ⟨rfl, Jg _⟩, oD, fun _ _ _ => Jo Jh XE3 (hS.ro hdb) rfl rfl o55 rfl <| Ja ⟨rfl, rfl⟩, og hS fun _ _ hS => Js XU3 rfl rfl (JJ (hS.ro hdb) o55) rfl <| Ja ⟨rfl, Jg _⟩, fun _ _ _ => Jb (off := 5) Jv rfl rfl <| Ja ⟨rfl, rfl⟩, og hS fun _ _ hS => Jp 0 5 Jh hS rfl rfl rfl ⟨rfl, rfl⟩ <| Ja ⟨rfl, Jg _⟩, oD, fun _ _ _ => Jo Jh XE3 (hS.ro heb) rfl rfl o61 rfl <| Ja ⟨rfl, rfl⟩, og hS fun _ _ hS => Js XU3 rfl rfl (JJ (hS.ro heb) o61) rfl <| Ja ⟨rfl, Jg _⟩, oD, trivial⟩
   intro w64 hT; have hS := hS.grow hT; refine JC <| Jj rfl (fun c65 => ?_) (fun c65 => ?_)
   .have hv := hv.1 (oT c65); refine Jd 4 <| W.ret <| ⟨_, rfl, Fin.nil ?_⟩
    exact (hS.pick [] rfl).fin rfl ⟨false, rfl, rfl, hv⟩
   have hv := hv.2 (oF c65); refine Jr <| Jd 2 ?_; obtain ⟨o66, hv⟩ := hv; refine WL.add (r := (z46 + 1)) rfl rfl (wr o66) rfl <| Jc 2 ?_; exact ⟨(z46 + 1), sp rfl, hv.2, rfl, hv.1, hS⟩
  have hv := hv.2 (oF c50); refine JB <| Jd 4 <| W.ret <| ⟨_, rfl, Fin.nil ?_⟩
  exact (hS.pick [] rfl).fin rfl ⟨true, rfl, rfl, hv⟩
 have hv := hv.1 g17; refine Jc 25 <| JP rfl <| Jd 4 <| W.ret <| ⟨_, rfl, Fin.nil ?_⟩
 exact (hS.pick [] rfl).fin rfl ⟨false, rfl, rfl, hv⟩
def QF (Pd : Int) (Md : Int) (md : LI) (Kd : Int) (da : LI) (db : LI) (Q : Bool -> Prop) : Prop :=
  Yy Pd Md md Kd da db (0 : Int) (0 : Int) ([] : LI) (0 : Int) ([] : LI) ([] : LI) (fun r14 => Q r14)
theorem Yn {w : World} {Q : Bool -> Prop} {Pd : Int} {Md : Int} {md : LI} {Kd : Int} {da : LI} {db : LI} {Bd : Nat} {Ad : Option Addr} {nd kd : Nat} (hd : Rd Bd w 1 Ad nd kd (is md)) {Bda : Nat} {Ada : Option Addr} {nda kda : Nat} (hda : Rd Bda w 1 Ada nda kda (is da)) {Bdb : Nat} {Adb : Option Addr} {ndb kdb : Nat} (hdb : Rd Bdb w 1 Adb ndb kdb (is db)) (hv : QF Pd Md md Kd da db Q) :
  Calls Try.prog 35 #[.agg #[.int .i64 Pd, .int .i64 Md, .slice Ad nd kd, .int .i64 Kd, .slice Ada nda kda, .slice Adb ndb kdb]] w <| Rt w fun v Qr => ∃ (r0 : Bool), v = .bool r0 /\ Qr = [] /\ Q r0 := by
 have hnd := hd.ilen; subst hnd; have hnda := hda.ilen; subst hnda; have hndb := hdb.ilen; subst hndb; refine Jn <| Jl (vs := [.agg #[nI Pd, nI Md, nS Ad md kd, nI Kd, nS Ada da kda, nS Adb db kdb]]) [2] Jlf rfl rfl rfl rfl ?_; have hS := Jt w; unfold QF at hv; refine Jd 2 <| JH (z := 6) (cs := [nI Pd, nI Md, nS Ad md kd, nI Kd, nS Ada da kda, nS Adb db kdb]) hS rfl rfl rfl rfl ?_; intro g11 w12 hS; refine Jc 2 <| Jd 2 <| JD 0 JQ J7 hS rfl ⟨rfl, rfl⟩ rfl <| J9 (cells := #[nI 0, nI 0, .slice none 0 0, nI 0, .slice none 0 0, .slice none 0 0]) Jcy rfl rfl rfl <| SL.call hS (ZJ (hS.ro hd) (hS.ro hda) (hS.ro hdb) (Jhf w12) (Jhf w12) (Jhf w12) hv) XF36 rfl XN36 rfl rfl ?_; rintro _ _ w13 ⟨r14, rfl, rfl, hv⟩ hGw13 hS; have hS := hS.n0; refine Jc 2 <| W.ret <| ⟨_, rfl, Fin.nil ?_⟩
 exact (hS.pick [] rfl).fin rfl ⟨r14, rfl, rfl, hv⟩
def Qe (Pf : Int) (Mf : Int) (mf : LI) (l : LI) (n : Int) (x : Int) (Q : Int -> Prop) : Prop :=
  (((l.length : Int) ≠ n) -> Q x) /\ (¬ ((l.length : Int) ≠ n) -> (∃ (I17 : Int -> Prop) (μ18 : Int -> Nat), I17 0 /\ ∀ (z16 : Int), (I17 z16 -> (((z16 < n) -> ((0 <= z16 /\ z16 < (l.length : Nat)) /\ (∃ (r28 : Bool), Jck Pf Mf mf (gi l z16) (fun q => q = r28) /\ ((((!r28) = true) -> (Q 2)) /\ ((!r28) = false -> ((I64 (z16 + 1)) /\ (I17 (z16 + 1) /\ μ18 (z16 + 1) < μ18 z16))))))) /\ (¬ (z16 < n) -> (Q 0))))))
theorem Q6 {w : World} {Q : Int -> Prop} {Pf : Int} {Mf : Int} {mf : LI} {l : LI} {n : Int} {x : Int} {Bf : Nat} {Af : Option Addr} {nf kf : Nat} (hf : Rd Bf w 1 Af nf kf (is mf)) {Bl : Nat} {Al : Option Addr} {nl kl : Nat} (hl : Rd Bl w 1 Al nl kl (is l)) (hv : Qe Pf Mf mf l n x Q) :
   Calls Try.prog 38 #[.agg #[.int .i64 Pf, .int .i64 Mf, .slice Af nf kf], .slice Al nl kl, .int .i64 n, .int .i64 x] w <| Rt w fun v Qr => ∃ (r0 : Int), v = .int .i64 r0 /\ Qr = [] /\ Q r0 := by
 have hnf := hf.ilen; subst hnf; have hnl := hl.ilen; subst hnl; refine Jn <| Jl (vs := [.agg #[nI Pf, nI Mf, nS Af mf kf], nS Al l kl, nI n, nI x]) [8] XF38 rfl rfl rfl rfl ?_; have hS := Jt w; unfold Qe at hv; refine Jd 2 <| JH (z := 3) (cs := [nI Pf, nI Mf, nS Af mf kf]) hS rfl rfl rfl rfl ?_; intro g11 w12 hS; refine Jc 2 <| Jd 4 <| WL.len Jh rfl rfl <| Jc 3 <| Jj rfl (fun c13 => ?_) (fun c13 => ?_)
 .have hv := hv.1 (oT c13); refine Jd 5 <| W.ret <| ⟨_, rfl, Fin.nil ?_⟩
  exact (hS.pick [] rfl).fin rfl ⟨x, rfl, rfl, hv⟩
 have hv := hv.2 (oF c13); refine Jr <| Jd 5 <| W.block ?_; obtain ⟨I17, μ18, hv, hk35⟩ := hv; refine JE (σ := Int) (fun z16 w1 => I17 z16 /\ St TT w none w1 [.row 24 3 (nA g11) 1 1 [nI Pf, nI Mf, nS Af mf kf]]) (fun z16 => [(1, nS Al l kl), (2, nI n), (4, nP g11), (8, nI 0), (9, nI z16)]) (fun z16 => μ18 z16) (0 : Int) ⟨hv, hS⟩ ⟨rfl, rfl, rfl, rfl, rfl, trivial⟩ ?_; rintro z16 w19 ⟨hv, hS⟩; have hv := hk35 z16 hv; refine Jd 7 <| Jj rfl (fun c20 => ?_) (fun c20 => ?_)
 .have hv := hv.1 (oT c20); refine Jr <| JA <| W.block <| JA ?_; obtain ⟨o25, hv⟩ := hv; obtain ⟨r28, o30, hv⟩ := hv; refine JK 7 [⟨[], [4], false⟩, ⟨[], [1], true⟩, ⟨[], [9], true⟩, ⟨[1, 2], [], true⟩, ⟨[3], [], false⟩, ⟨[0, 4], [], false⟩, ⟨[5], [], true⟩] [(20, .agg #[nI Pf, nI Mf, nS Af mf kf]), (21, nS Al l kl), (22, nI z16), (23, .pointer (some ((JU Al).add z16.toNat))), (24, nI (gi l z16)), (25, .bool r28), (26, .bool (!r28))] Try.mixed (by kernel_rfl) rfl rfl ?_ ?_
  .refine ⟨og hS fun _ _ hS => JD 0 JW J0 hS rfl ⟨rfl, rfl⟩ rfl <| Ja ⟨rfl, Jg _⟩, oD, oD, fun _ _ _ => Jo Jh XE3 (hS.ro hl) rfl rfl o25 rfl <| Ja ⟨rfl, rfl⟩, og hS fun _ _ hS => Js XU3 rfl rfl (JJ (hS.ro hl) o25) rfl <| Ja ⟨rfl, Jg _⟩, ?_, oD, trivial⟩; intro w27 hE RR; have hS := hS.grow (hE rfl); refine WL.call Jod rfl XN72 rfl rfl (JF (Jdw (hS.ro hf) o30)) ?_; rintro _ w29 ⟨_, hGw29, hRww29, hNww29, r28q, rfl, rfl, he⟩; subst he; exact Ja ⟨rfl, hGw29⟩
  intro w32 hT; have hS := hS.grow hT; refine JC <| Jj rfl (fun c33 => ?_) (fun c33 => ?_)
  .have hv := hv.1 (c33); refine Jd 4 <| W.ret <| ⟨_, rfl, Fin.nil ?_⟩
   exact (hS.pick [] rfl).fin rfl ⟨(2 : Int), rfl, rfl, hv⟩
  have hv := hv.2 (c33); refine Jr <| Jd 2 ?_; obtain ⟨o34, hv⟩ := hv; refine WL.add (r := (z16 + 1)) rfl rfl (wr o34) rfl <| Jc 2 ?_; exact ⟨(z16 + 1), sp rfl, hv.2, rfl, hv.1, hS⟩
 have hv := hv.2 (oF c20); refine JB <| Jd 4 <| W.ret <| ⟨_, rfl, Fin.nil ?_⟩
 exact (hS.pick [] rfl).fin rfl ⟨(0 : Int), rfl, rfl, hv⟩
def Q4 (l : LI) (Q : Int -> Prop) : Prop :=
  ∃ (I17 : Int -> Int -> Prop) (μ18 : Int -> Int -> Nat), I17 0 (0 : Int) /\ ∀ (z15 : Int) (z16 : Int), (I17 z15 z16 -> (((z16 < (l.length : Int)) -> (∃ J22 : Int -> Prop, ((0 <= z16 /\ z16 < (l.length : Nat)) /\ ((((gi l z16) ≠ (0 : Int)) -> ((I64 (z15 + 1)) /\ (J22 (z15 + 1)))) /\ (¬ ((gi l z16) ≠ (0 : Int)) -> J22 z15))) /\ ∀ (z21 : Int), (J22 z21 -> ((I64 (z16 + 1)) /\ (I17 z21 (z16 + 1) /\ μ18 z21 (z16 + 1) < μ18 z15 z16))))) /\ (¬ (z16 < (l.length : Int)) -> Q z15)))
theorem Zo {w : World} {Q : Int -> Prop} {l : LI} {Bl : Nat} {Al : Option Addr} {nl kl : Nat} (hl : Rd Bl w 1 Al nl kl (is l)) (hv : Q4 l Q) :
   Calls Try.prog 45 #[.slice Al nl kl] w <| Rt w fun v Qr => ∃ (r0 : Int), v = .int .i64 r0 /\ Qr = [] /\ Q r0 := by
 have hnl := hl.ilen; subst hnl; refine Jn <| Jl (vs := [nS Al l kl]) [2] XF45 rfl rfl rfl rfl ?_; have hS := Jt w; unfold Q4 at hv; refine Jd 13 <| W.block ?_; obtain ⟨I17, μ18, hv, hk29⟩ := hv; refine JE (σ := Int × Int) (fun q w1 => match q with | (z15, z16) => I17 z15 z16 /\ St TT w none w1 []) (fun (z15, z16) => [(0, nS Al l kl), (2, nI 0), (3, nI z15), (4, nI z16)]) (fun (z15, z16) => μ18 z15 z16) ((0 : Int), (0 : Int)) ⟨hv, hS⟩ ⟨rfl, rfl, rfl, rfl, trivial⟩ ?_; rintro ⟨z15, z16⟩ w19 ⟨hv, hS⟩; have hv := hk29 z15 z16 hv; refine Jd 5 <| WL.len Jh rfl rfl <| Jc 2 <| Jj rfl (fun c20 => ?_) (fun c20 => ?_)
 .have hv := hv.1 (oT c20); refine Jr <| JA ?_; obtain ⟨J22, hv, hk28⟩ := hv; refine QT (σ := Int) (fun z21 w1 => J22 z21 /\ St TT w none w1 []) (fun z21 => [(0, nS Al l kl), (2, nI 0), (3, nI z21), (4, nI z16), (8, .bool (decide (z16 < (l.length : Int)))), (15, .bool (decide ((gi l z16) ≠ (0 : Int))))]) ?_ ?_
  .refine W.block ?_; refine Jd 4 ?_; obtain ⟨o23, hv⟩ := hv; refine Jo Jh XE3 (hS.ro hl) rfl rfl o23 rfl <| Js XU3 rfl rfl (JJ (hS.ro hl) o23) rfl <| Jc 2 <| Jj rfl (fun c24 => ?_) (fun c24 => ?_)
   .have hv := hv.1 (oT c24); refine Jd 2 ?_; obtain ⟨o25, hv⟩ := hv; refine WL.add (r := (z15 + 1)) rfl rfl (wr o25) rfl <| Jc 2 ?_; exact ⟨(z15 + 1), sp rfl, rfl, hv, hS⟩
   have hv := hv.2 (oF c24); refine Jr ?_; exact ⟨z15, sp rfl, rfl, hv, hS⟩
  rintro z21 w26 ⟨hv, hS⟩; have hv := hk28 z21 hv; refine Jd 2 ?_; obtain ⟨o27, hv⟩ := hv; refine WL.add (r := (z16 + 1)) rfl rfl (wr o27) rfl <| Jc 2 ?_; exact ⟨(z21, (z16 + 1)), sp rfl, hv.2, rfl, hv.1, hS⟩
 have hv := hv.2 (oF c20); refine JB <| Jd 5 <| W.ret <| ⟨_, rfl, Fin.nil ?_⟩
 exact (hS.pick [] rfl).fin rfl ⟨z15, rfl, rfl, hv⟩
def ZV (l : LI) (o : LI) (Q : Bool -> Prop) : Prop :=
  (((l.length : Int) ≠ (o.length : Int)) -> Q false) /\ (¬ ((l.length : Int) ≠ (o.length : Int)) -> (∃ (I15 : Int -> Prop) (μ16 : Int -> Nat), I15 0 /\ ∀ (z14 : Int), (I15 z14 -> (((z14 < (l.length : Int)) -> ((0 <= z14 /\ z14 < (l.length : Nat)) /\ ((0 <= z14 /\ z14 < (o.length : Nat)) /\ ((((gi l z14) ≠ (gi o z14)) -> Q false) /\ (¬ ((gi l z14) ≠ (gi o z14)) -> ((I64 (z14 + 1)) /\ (I15 (z14 + 1) /\ μ16 (z14 + 1) < μ16 z14))))))) /\ (¬ (z14 < (l.length : Int)) -> Q true)))))
theorem Jdx {w : World} {Q : Bool -> Prop} {l : LI} {o : LI} {Bl : Nat} {Al : Option Addr} {nl kl : Nat} (hl : Rd Bl w 1 Al nl kl (is l)) {Bo : Nat} {Ao : Option Addr} {no ko : Nat} (ho : Rd Bo w 1 Ao no ko (is o)) (hv : ZV l o Q) :
   Calls Try.prog 39 #[.slice Al nl kl, .slice Ao no ko] w <| Rt w fun v Qr => ∃ (r0 : Bool), v = .bool r0 /\ Qr = [] /\ Q r0 := by
 have hnl := hl.ilen; subst hnl; have hno := ho.ilen; subst hno; refine Jn <| Jl (vs := [nS Al l kl, nS Ao o ko]) [4] XF39 rfl rfl rfl rfl ?_; have hS := Jt w; unfold ZV at hv; refine Jd 8 <| WL.len Jh rfl rfl <| Jq rfl rfl <| WL.len Jh rfl rfl <| Jc 2 <| Jj rfl (fun c11 => ?_) (fun c11 => ?_)
 .have hv := hv.1 (oT c11); refine Jd 4 <| W.ret <| ⟨_, rfl, Fin.nil ?_⟩
  exact (hS.pick [] rfl).fin rfl ⟨false, rfl, rfl, hv⟩
 have hv := hv.2 (oF c11); refine Jr <| Jd 4 <| WL.len Jh rfl rfl <| Jc 2 <| W.block ?_; obtain ⟨I15, μ16, hv, hk33⟩ := hv; refine JE (σ := Int) (fun z14 w1 => I15 z14 /\ St TT w none w1 []) (fun z14 => [(0, nS Al l kl), (1, nS Ao o ko), (4, .bool false), (12, nI (l.length : Int)), (13, nI z14)]) (fun z14 => μ16 z14) (0 : Int) ⟨hv, hS⟩ ⟨rfl, rfl, rfl, rfl, rfl, trivial⟩ ?_; rintro z14 w17 ⟨hv, hS⟩; have hv := hk33 z14 hv; refine Jd 5 <| Jj rfl (fun c18 => ?_) (fun c18 => ?_)
 .have hv := hv.1 (oT c18); refine Jr <| JA <| W.block <| Jd 6 ?_; obtain ⟨o22, hv⟩ := hv; obtain ⟨o27, hv⟩ := hv; refine JK 9 [⟨[], [0], true⟩, ⟨[], [5], true⟩, ⟨[0, 1], [], true⟩, ⟨[2], [], false⟩, ⟨[], [1], true⟩, ⟨[], [5], true⟩, ⟨[4, 5], [], true⟩, ⟨[6], [], false⟩, ⟨[3, 7], [], true⟩] [(16, nS Al l kl), (17, nI z14), (18, .pointer (some ((JU Al).add z14.toNat))), (19, nI (gi l z14)), (20, nS Ao o ko), (21, nI z14), (22, .pointer (some ((JU Ao).add z14.toNat))), (23, nI (gi o z14)), (24, .bool (decide ((gi l z14) ≠ (gi o z14))))] Try.mixed (by kernel_rfl) rfl rfl ?_ ?_
  .refine ⟨oD, oD, fun _ _ _ => Jo Jh XE3 (hS.ro hl) rfl rfl o22 rfl <| Ja ⟨rfl, rfl⟩, og hS fun _ _ hS => Js XU3 rfl rfl (JJ (hS.ro hl) o22) rfl <| Ja ⟨rfl, Jg _⟩, oD, oD, fun _ _ _ => Jo Jh XE3 (hS.ro ho) rfl rfl o27 rfl <| Ja ⟨rfl, rfl⟩, og hS fun _ _ hS => Js XU3 rfl rfl (JJ (hS.ro ho) o27) rfl <| Ja ⟨rfl, Jg _⟩, oD, trivial⟩
  intro w30 hT; have hS := hS.grow hT; refine JC <| Jj rfl (fun c31 => ?_) (fun c31 => ?_)
  .have hv := hv.1 (oT c31); refine Jd 4 <| W.ret <| ⟨_, rfl, Fin.nil ?_⟩
   exact (hS.pick [] rfl).fin rfl ⟨false, rfl, rfl, hv⟩
  have hv := hv.2 (oF c31); refine Jr <| JI ?_; obtain ⟨o32, hv⟩ := hv; refine WL.add (r := (z14 + 1)) rfl rfl (wr o32) rfl <| Jc 2 ?_; exact ⟨(z14 + 1), sp rfl, hv.2, rfl, hv.1, hS⟩
 have hv := hv.2 (oF c18); refine JB <| Jd 4 <| W.ret <| ⟨_, rfl, Fin.nil ?_⟩
 exact (hS.pick [] rfl).fin rfl ⟨true, rfl, rfl, hv⟩
def QV  (Q : Bool -> Prop) : Prop :=
  YE (2 : Int) (2 : Int) ([(1 : Int), (1 : Int)] : LI) (3 : Int) (2 : Int) (fun (r15, r16, x17, c18, x19, x20, r21) => QC r15 r16 x17 c18 x19 x20 ([(1 : Int), (1 : Int)] : LI) (fun (x38, r39) => Zi r15 r16 x17 c18 x19 x20 (fun (r44, r45, x46, c47, x48, x49, r50) => ((r21 = 0) -> (((r39 = 0) -> (((r50 = 0) -> (ZV x38 ([(1 : Int), (0 : Int), (3 : Int)] : LI) (fun r70 => ((r70 = true) -> (((c47 = 1) -> (ZV x49 ([(3 : Int), (2 : Int), (1 : Int)] : LI) (fun r77 => Q r77))) /\ (¬ (c47 = 1) -> Q false))) /\ (r70 = false -> Q false)))) /\ (¬ (r50 = 0) -> Q false))) /\ (¬ (r39 = 0) -> Q false))) /\ (¬ (r21 = 0) -> Q false))))
theorem Yu {w : World} {Q : Bool -> Prop}   (hv : QV  Q) :
   Calls Try.prog 29 #[] w <| Rt w fun v Qr => ∃ (r0 : Bool), v = .bool r0 /\ Qr = [] /\ Q r0 := by
 refine Jn <| Jl (vs := []) [0] Ji6 rfl rfl rfl rfl ?_; have hS := Jt w; unfold QV at hv; refine Jd 6 <| JL (vs := is ([(1 : Int), (1 : Int)] : LI)) hS Jh XE3 rfl rfl rfl rfl (Jm _) rfl ?_; intro A11 w12 hS; refine J9 (cells := #[nI 2, nI 2, .slice A11 2 2]) XB24 rfl rfl rfl <| SL.call hS (Jch (hS.rd (i := 0) rfl) hv) XF32 rfl XN32 rfl rfl ?_; rintro _ _ w14 ⟨r15, r16, x17, c18, x19, x20, r21, A22, k23, A25, k26, A28, k29, rfl, rfl, hv⟩ hGw14 hS; have hS := hS.n3; refine Jc 3 <| SL.alloc (cs := [nI 0, nI 0, .slice none 0 0, nI 0, .slice none 0 0, .slice none 0 0]) hS JQ rfl rfl ?_; intro g31 w32 hS; refine JS (cs := [nI r15, nI r16, nS A22 x17 k23, nI c18, nS A25 x19 k26, nS A28 x20 k29]) 0 hS rfl JQ rfl rfl rfl rfl rfl ?_; intro w33 hS; refine Jc 2 <| Jd 2 <| JD 0 JQ J7 hS rfl ⟨rfl, rfl⟩ rfl <| JL (vs := is ([(1 : Int), (1 : Int)] : LI)) hS Jh XE3 rfl rfl rfl rfl (Jm _) rfl ?_; intro A34 w35 hS; refine SL.call hS (Q2 (hS.rd (i := 2) rfl) (hS.rd (i := 3) rfl) (hS.rd (i := 4) rfl) (hS.rd (i := 0) rfl) hv) Jle rfl Joa rfl rfl ?_; rintro _ _ w37 ⟨x38, r39, A40, k41, rfl, rfl, hv⟩ hGw37 hS; have hS := hS.n1; refine Jc 6 <| Jd 2 <| JD 2 JQ J7 hS rfl ⟨rfl, rfl⟩ rfl <| SL.call hS (Jav (hS.rd (i := 3) rfl) (hS.rd (i := 4) rfl) (hS.rd (i := 5) rfl) hv) XF41 rfl XN41 rfl rfl ?_; rintro _ _ w43 ⟨r44, r45, x46, c47, x48, x49, r50, A51, k52, A54, k55, A57, k58, rfl, rfl, hv⟩ hGw43 hS; have hS := hS.n3; refine Jc 3 <| SL.alloc (cs := [nI 0, nI 0, .slice none 0 0, nI 0, .slice none 0 0, .slice none 0 0]) hS JQ rfl rfl ?_; intro g60 w61 hS; refine JS (cs := [nI r44, nI r45, nS A51 x46 k52, nI c47, nS A54 x48 k55, nS A57 x49 k58]) 0 hS rfl JQ rfl rfl rfl rfl rfl ?_; intro w62 hS; refine Jc 2 <| Jd 4 <| Jq rfl rfl ?_; by_cases g63 : r21 = 0
 .have hv := hv.1 g63; rw [decide_eq_true g63]; refine Jc 5 <| Jq rfl rfl ?_; by_cases g64 : r39 = 0
  .have hv := hv.1 g64; rw [decide_eq_true g64]; refine Jc 5 <| Jq rfl rfl ?_; by_cases g65 : r50 = 0
   .have hv := hv.1 g65; rw [decide_eq_true g65]; refine Jc 3 <| JL (vs := is ([(1 : Int), (0 : Int), (3 : Int)] : LI)) hS Jh XE3 rfl rfl rfl rfl (Jm _) rfl ?_; intro A66 w67 hS; refine WL.take rfl <| SL.call hS (Jdx (hS.rd (i := 5) rfl) (hS.rd (i := 0) rfl) hv) XF39 rfl XN39 rfl rfl ?_; rintro _ _ w69 ⟨r70, rfl, rfl, hv⟩ hGw69 hS; have hS := hS.n0; refine WL.pick rfl rfl rfl <| Jq rfl rfl ?_; cases g71 : r70
    .have hv := hv.2 g71; refine Jc 12 <| W.ret <| ⟨_, rfl, Fin.nil ?_⟩
     exact (hS.pick [] rfl).fin rfl ⟨false, rfl, rfl, hv⟩
    have hv := hv.1 g71; refine WL.take rfl <| Jb (off := 3) Qm rfl rfl <| WL.take rfl <| Jp 1 3 XU3 hS rfl rfl rfl ⟨rfl, rfl⟩ <| Jc 3 <| Jq rfl rfl ?_; by_cases g72 : c47 = 1
    .have hv := hv.1 g72; rw [decide_eq_true g72]; refine WL.take rfl <| Jb (off := 5) Jv rfl rfl <| WL.take rfl <| Jp 1 5 Jh hS rfl rfl rfl ⟨rfl, rfl⟩ <| WL.take rfl <| JL (vs := is ([(3 : Int), (2 : Int), (1 : Int)] : LI)) hS Jh XE3 rfl rfl rfl rfl (Jm _) rfl ?_; intro A73 w74 hS; refine WL.take rfl <| SL.call hS (Jdx (hS.rd (i := 5) rfl) (hS.rd (i := 0) rfl) hv) XF39 rfl XN39 rfl rfl ?_; rintro _ _ w76 ⟨r77, rfl, rfl, hv⟩ hGw76 hS; have hS := hS.n0; refine Jc 3 <| W.ret <| ⟨_, rfl, Fin.nil ?_⟩
     exact (hS.pick [] rfl).fin rfl ⟨r77, rfl, rfl, hv⟩
    have hv := hv.2 g72; rw [decide_eq_false g72]; refine Jc 7 <| W.ret <| ⟨_, rfl, Fin.nil ?_⟩
    exact (hS.pick [] rfl).fin rfl ⟨false, rfl, rfl, hv⟩
   have hv := hv.2 g65; rw [decide_eq_false g65]; refine Jc 17 <| W.ret <| ⟨_, rfl, Fin.nil ?_⟩
   exact (hS.pick [] rfl).fin rfl ⟨false, rfl, rfl, hv⟩
  have hv := hv.2 g64; rw [decide_eq_false g64]; refine Jc 21 <| W.ret <| ⟨_, rfl, Fin.nil ?_⟩
  exact (hS.pick [] rfl).fin rfl ⟨false, rfl, rfl, hv⟩
 have hv := hv.2 g63; rw [decide_eq_false g63]; refine Jc 25 <| W.ret <| ⟨_, rfl, Fin.nil ?_⟩
 exact (hS.pick [] rfl).fin rfl ⟨false, rfl, rfl, hv⟩
def Jca (Pd : Int) (Md : Int) (md : LI) (Kd : Int) (da : LI) (db : LI) (Q : Bool -> Prop) : Prop :=
  (((da.length : Int) <= (24 : Int)) -> (QO Pd Md md Kd da db (fun r15 => Q (decide (r15 = 0))))) /\ (¬ ((da.length : Int) <= (24 : Int)) -> Q false)
theorem Jgb {w : World} {Q : Bool -> Prop} {Pd : Int} {Md : Int} {md : LI} {Kd : Int} {da : LI} {db : LI} {Bd : Nat} {Ad : Option Addr} {nd kd : Nat} (hd : Rd Bd w 1 Ad nd kd (is md)) {Bda : Nat} {Ada : Option Addr} {nda kda : Nat} (hda : Rd Bda w 1 Ada nda kda (is da)) {Bdb : Nat} {Adb : Option Addr} {ndb kdb : Nat} (hdb : Rd Bdb w 1 Adb ndb kdb (is db)) (hv : Jca Pd Md md Kd da db Q) :
   Calls Try.prog 43 #[.agg #[.int .i64 Pd, .int .i64 Md, .slice Ad nd kd, .int .i64 Kd, .slice Ada nda kda, .slice Adb ndb kdb]] w <| Rt w fun v Qr => ∃ (r0 : Bool), v = .bool r0 /\ Qr = [] /\ Q r0 := by
 have hnd := hd.ilen; subst hnd; have hnda := hda.ilen; subst hnda; have hndb := hdb.ilen; subst hndb; refine Jn <| Jl (vs := [.agg #[nI Pd, nI Md, nS Ad md kd, nI Kd, nS Ada da kda, nS Adb db kdb]]) [2] XF43 rfl rfl rfl rfl ?_; have hS := Jt w; unfold Jca at hv; refine Jd 2 <| JH (z := 6) (cs := [nI Pd, nI Md, nS Ad md kd, nI Kd, nS Ada da kda, nS Adb db kdb]) hS rfl rfl rfl rfl ?_; intro g11 w12 hS; refine Jc 2 <| Jd 2 <| Jb (off := 4) Ju rfl rfl <| Jp 0 4 Jh hS rfl rfl rfl ⟨rfl, rfl⟩ <| WL.len Jh rfl rfl <| Jmu rfl rfl rfl <| Jq rfl rfl ?_; by_cases g13 : (da.length : Int) <= (24 : Int)
 .have hv := hv.1 g13; rw [decide_eq_true g13]; refine WL.take rfl <| JD 0 JQ J7 hS rfl ⟨rfl, rfl⟩ rfl <| WL.take rfl <| SL.call hS (Yr (hS.ro hd) (hS.ro hda) (hS.ro hdb) hv) Joe rfl XN31 rfl rfl ?_; rintro _ _ w14 ⟨r15, rfl, rfl, hv⟩ hGw14 hS; have hS := hS.n0; refine Jc 5 <| W.ret <| ⟨_, rfl, Fin.nil ?_⟩
  exact (hS.pick [] rfl).fin rfl ⟨(decide (r15 = 0)), rfl, rfl, hv⟩
 have hv := hv.2 g13; rw [decide_eq_false g13]; refine Jc 6 <| W.ret <| ⟨_, rfl, Fin.nil ?_⟩
 exact (hS.pick [] rfl).fin rfl ⟨false, rfl, rfl, hv⟩
end Go.Proofs.Ytppkigdakobebaa
set_option linter.unusedSectionVars false
namespace Go.Proofs.Ytppkigdakobebaa
/-! ### counting: how many of the numbers below n have a property -/
section
open Classical
noncomputable def ctp (p : Nat -> Prop) : Nat -> Nat
  | 0 => 0
  | n + 1 => ctp p n + (if p n then 1 else 0)
theorem Jkr (p : Nat -> Prop) : ∀ n, ctp p n <= n
 | 0 => Nat.le_refl 0
 | n + 1 => by unfold ctp; have := Jkr p n; split <;> omega
theorem Jg1 (p : Nat -> Prop) : ∀ n, ctp (fun i => ¬ p i) n + ctp p n = n
 | 0 => rfl
 | n + 1 => by
  have := Jg1 p n; unfold ctp; by_cases h : p n
  .rw [if_pos h, if_neg (fun q => q h)]; omega
  .rw [if_neg h, if_pos h]; omega
theorem Jb3 {p q : Nat -> Prop} : ∀ {n : Nat}, (∀ i, i < n -> (p i ↔ q i)) -> ctp p n = ctp q n
 | 0, _ => rfl
 | n + 1, h => by
  unfold ctp; rw [Jb3 (n := n) fun i hi => h i (by omega)]; by_cases hp : p n
  .rw [if_pos hp, if_pos ((h n (by omega)).1 hp)]
  .rw [if_neg hp, if_neg (fun q => hp ((h n (by omega)).2 q))]
/-- the numbers with the property, one after another -/
theorem Jik (p : Nat -> Prop) : ∀ n, ∃ g : Nat -> Nat, (∀ i, i < ctp p n -> g i < n /\ p (g i)) /\ ∀ i j, i < j -> j < ctp p n -> g i ≠ g j
  | 0 => ⟨fun _ => 0, fun i hi => absurd hi (Nat.not_lt_zero i), fun i j _ hj => absurd hj (Nat.not_lt_zero j)⟩
  | n + 1 => by
    obtain ⟨g, h1, h2⟩ := Jik p n
    unfold ctp
    by_cases hp : p n
    . rw [if_pos hp]
      refine ⟨fun i => if i < ctp p n then g i else n, fun i hi => ?_, fun i j hij hj => ?_⟩
      . show (if i < ctp p n then g i else n) < n + 1 /\ p (if i < ctp p n then g i else n)
        by_cases h : i < ctp p n
        . rw [if_pos h]; exact ⟨by have := (h1 i h).1; omega, (h1 i h).2⟩
        . rw [if_neg h]; exact ⟨by omega, hp⟩
      . show (if i < ctp p n then g i else n) ≠ (if j < ctp p n then g j else n)
        by_cases h : j < ctp p n
        . rw [if_pos h, if_pos (by omega)]; exact h2 i j hij h
        . rw [if_neg h, if_pos (by omega)]; have := (h1 i (by omega)).1; omega
    . rw [if_neg hp]
      exact ⟨g, fun i hi => ⟨by have := (h1 i hi).1; omega, (h1 i hi).2⟩, h2⟩
end
section
variable {α : Type} [Cr α] [Fd α]
/-- a polynomial other than 0 has at most as many roots as its degree -/
theorem Jfi {f : Pl α} {k n : Nat} (hf : Su f k) (h0 : f ≠ 0) (x : Nat -> α) (hx : ∀ i j, i < j -> j < n -> x i ≠ x j) : ctp (fun i => vl_ f (x i) = 0) n + 1 <= k := by
  obtain ⟨g, h1, h2⟩ := Jik (fun i => vl_ f (x i) = 0) n
  have hd := Jkd ⟨k, hf⟩ (fun i => x (g i)) (ctp (fun i => vl_ f (x i) = 0) n) (fun i hi => (h1 i hi).2) (fun i j hi hj e => by
    have hne := h2 i j hi hj
    rcases Nat.lt_or_gt_of_ne hne with h | h
    . exact hx _ _ h (h1 j hj).1 e
    . exact hx _ _ h (h1 i (by omega)).1 e.symm)
  rcases Jci hf with e | ⟨d, hdk, hg⟩
  . exact absurd e h0
  . have := hd.dg (Jgj _ _) hg; omega
/-! the products over all other places -/
def pdl (x : Nat -> α) (i : Nat) (u : α) : Nat -> α
  | 0 => u
  | j + 1 => if j = i then pdl x i u j else pdl x i u j * (x i - x j)
theorem Jdu {x : Nat -> α} {i : Nat} {u : α} (hu : u ≠ 0) : ∀ {n : Nat}, (∀ j, j < n -> j ≠ i -> x i ≠ x j) -> pdl x i u n ≠ 0
 | 0, _ => hu
 | n + 1, h => by
  have h1 := Jdu (n := n) hu fun j hj => h j (by omega); unfold pdl; split
  .exact h1
  .rename_i hn
   intro e; rcases ZF e with e | e
   .exact h1 e
   .exact h n (by omega) hn (Cr.eq_of_sub e)
theorem Jau (x : Nat -> α) (i : Nat) (u : α) : ∀ n, pdl x i u n = u * pdl x i 1 n
 | 0 => (Cr.mul_one u).symm
 | n + 1 => by
  unfold pdl; rw [Jau x i u n]; split
  .rfl
  .rw [Cr.mul_assoc]
end
end Go.Proofs.Ytppkigdakobebaa
namespace Go.Proofs.Ytppkigdakobebaa
open Ks
/-! ### generalized Reed-Solomon codes: the contracts -/
theorem zT {A B : Prop} (h : B) : ((!true) = true -> A) /\ ((!true) = false -> B) := ⟨fun e => absurd e (by decide), fun _ => h⟩
theorem zF {A B : Prop} (h : A) : ((!false) = true -> A) /\ ((!false) = false -> B) := ⟨fun _ => h, fun e => absurd e (by decide)⟩
theorem tT {A B : Prop} (h : A) : (true = true -> A) /\ (true = false -> B) := ⟨fun _ => h, fun e => absurd e (by decide)⟩
theorem tF {A B : Prop} (h : B) : (false = true -> A) /\ (false = false -> B) := ⟨fun e => absurd e (by decide), fun _ => h⟩
theorem Ql {l : LI} {x : Int} : x ∈ l ↔ ∃ j, j < l.length /\ vo l j = x := by
 constructor
 .intro h; obtain ⟨j, hj, e⟩ := List.mem_iff_getElem.1 h; exact ⟨j, hj, by unfold vo; rw [List.getD_eq_getElem?_getD, List.getElem?_eq_getElem hj]; exact e⟩
 .rintro ⟨j, hj, rfl⟩; unfold vo; rw [List.getD_eq_getElem?_getD, List.getElem?_eq_getElem hj]; exact List.getElem_mem hj
theorem Zr {l : LI} : l.Nodup ↔ ∀ i j, i < j -> j < l.length -> vo l i ≠ vo l j := by
 unfold List.Nodup; rw [List.pairwise_iff_getElem]; have e : ∀ j, (h : j < l.length) -> vo l j = l[j] := fun j h => by unfold vo; rw [List.getD_eq_getElem?_getD, List.getElem?_eq_getElem h]; rfl
 constructor
 .intro h i j hij hj; rw [e i (by omega), e j hj]; exact h i j (by omega) hj hij
 .intro h i j hi hj hij; rw [<- e i hi, <- e j hj]; exact h i j hij hj
section
variable {P M : Int} {mf : LI} {k : Ks} {F : GFv}
theorem w_New {Q : Option GFv × Int -> Prop} (hno : ¬ Qh P M mf -> Q (none, 1)) (h : ∀ (F : GFv) (k : Ks), GFk F k.p k.m k.v k.g -> FV P M mf k.p k.m k.v -> F.P = P -> F.M = M -> F.mod = mf -> Q (some F, 0)) : Jfn P M mf Q := by
 refine v_New hno fun F p m v g K eP eM em => ?_; have hF : FV P M mf p m v := by have := K.fv; rwa [eP, eM, em] at this
 exact h F ⟨p, m, v, g, hF.p2, hF.m0, hF.q, hF.ring, K.G⟩ K hF eP eM em
theorem YO {l : LI} {Q : Bool -> Prop} (K : GFk F k.p k.m k.v k.g) (hl : l.length <= 1000000000) (h1 : (∃ x, x ∈ l /\ ¬ (0 <= x /\ x < ((k.p ^ k.m : Nat) : Int))) -> Q true) (h0 : (∀ x ∈ l, 0 <= x /\ x < ((k.p ^ k.m : Nat) : Int)) -> Q false) : Qt F l Q := by
 refine Z7 (f := fun x => !(decide (0 <= x /\ x < ((k.p ^ k.m : Nat) : Int)))) hl (fun x R hR => v_Is K hR) ?_; by_cases h : ∃ x, x ∈ l /\ ¬ (0 <= x /\ x < ((k.p ^ k.m : Nat) : Int))
 .have : (l.any fun x => !(decide (0 <= x /\ x < ((k.p ^ k.m : Nat) : Int)))) = true := by
   obtain ⟨x, hx, hn⟩ := h; exact List.any_eq_true.2 ⟨x, hx, by rw [decide_eq_false hn]; rfl⟩
  rw [this]; exact h1 h
 .have : (l.any fun x => !(decide (0 <= x /\ x < ((k.p ^ k.m : Nat) : Int)))) = false := by
   rw [List.any_eq_false]; intro x hx; rw [decide_eq_true (Classical.byContradiction fun c => h ⟨x, hx, c⟩)]; decide
  rw [this]; exact h0 fun x hx => Classical.byContradiction fun c => h ⟨x, hx, c⟩
theorem Jji {l : LI} {Q : Bool -> Prop} (hl : l.length <= 1000) (h1 : ¬ l.Nodup -> Q true) (h0 : l.Nodup -> Q false) : Zh l Q := by
 refine ⟨fun i x => x = l.take i, rfl, ?_, ?_⟩
 .rintro i hi _ rfl; refine ⟨by rw [List.length_take]; omega, ?_⟩; show l.take i ++ [gi l (i : Int)] = l.take (i + 1); rw [List.take_succ_eq_append_getElem hi, JG]; unfold vo; rw [List.getD_eq_getElem?_getD, List.getElem?_eq_getElem hi]; rfl
 .rintro _ rfl; rw [List.take_length]; have hs := Jlt l; refine ⟨by omega, by omega, ?_⟩; show Q (decide ((((Go.Lib.compact (srt l)).length : Nat) : Int) < (l.length : Int))); by_cases hn : l.Nodup
  .rw [decide_eq_false]
   .exact h0 hn
   .intro c; exact (Jef.1 (by omega)) hn
  .rw [decide_eq_true]
   .exact h1 hn
   .have := Jef.2 hn; omega
theorem Jhg {l : LI} {x : Int} {Q : Bool -> Prop} (hl : l.length <= 1000000) (h1 : x ∈ l -> Q true) (h0 : x ∉ l -> Q false) : YN l x Q := by
 refine ⟨fun z => ∃ j : Nat, z = j /\ ∀ i, i < j -> i < l.length -> vo l i ≠ x, fun z => ((l.length : Nat) - z : Int).toNat, ⟨0, rfl, fun i hi => by omega⟩, ?_⟩; rintro _ ⟨j, rfl, hj⟩; refine ⟨fun hlt => ⟨⟨by omega, hlt⟩, fun e => ?_, fun e => ⟨Jw (by omega) (by omega), ⟨j + 1, by push_cast; rfl, fun i a b => ?_⟩, by show ((l.length : Nat) - ((j : Int) + 1) : Int).toNat < ((l.length : Nat) - (j : Int) : Int).toNat; omega⟩⟩, fun hge => ?_⟩
 .show Q (decide ((0 : Int) <= (j : Int))); rw [decide_eq_true (by omega : (0 : Int) <= (j : Int))]; exact h1 (Ql.2 ⟨j, by omega, e.symm⟩)
 .by_cases ei : i = j
  .subst ei; exact fun c => e c.symm
  .exact hj i (by omega) b
 .show Q (decide ((0 : Int) <= -1)); rw [decide_eq_false (by omega : ¬ (0 : Int) <= -1)]; refine h0 fun hm => ?_; obtain ⟨i, hi, e⟩ := Ql.1 hm; exact hj i (by omega) hi e
open Classical in
/-- the error of a description -/
noncomputable def gck (P M : Int) (mf : LI) (K : Int) (da db : LI) : Int :=
  if ¬ Qh P M mf then 1 else if ¬ (1 <= da.length /\ da.length <= 64) then 4 else if db.length ≠ da.length then 10 else
  if ¬ (∀ x, x ∈ da ∨ x ∈ db -> 0 <= x /\ x < Q1 P M) then 2 else if ¬ da.Nodup then 18 else if (0 : Int) ∈ db then 7 else if K < 0 ∨ (da.length : Int) < K then 6 else 0
/-- what a description of a code keeps -/
structure GsD (k : Ks) (K : Int) (da db : LI) : Prop where
  n1 : 1 <= da.length
  n64 : da.length <= 64
  len : db.length = da.length
  ea : ∀ x, x ∈ da -> 0 <= x /\ x < ((k.p ^ k.m : Nat) : Int)
  eb : ∀ x, x ∈ db -> 0 <= x /\ x < ((k.p ^ k.m : Nat) : Int)
  nd : da.Nodup
  nz : (0 : Int) ∉ db
  k0 : 0 <= K
  kn : K <= (da.length : Int)
variable {K : Int} {da db : LI}
theorem Jkj (h : ¬ Qh P M mf) : gck P M mf K da db = 1 := by unfold gck; rw [if_pos h]
theorem Jic (h : Qh P M mf) (h1 : ¬ (1 <= da.length /\ da.length <= 64)) : gck P M mf K da db = 4 := by unfold gck; rw [if_neg (fun c => c h), if_pos h1]
theorem Jkl (h : Qh P M mf) (h1 : 1 <= da.length /\ da.length <= 64) (h2 : db.length ≠ da.length) : gck P M mf K da db = 10 := by unfold gck; rw [if_neg (fun c => c h), if_neg (fun c => c h1), if_pos h2]
theorem Jme (h : Qh P M mf) (h1 : 1 <= da.length /\ da.length <= 64) (h2 : db.length = da.length) (h3 : ¬ (∀ x, x ∈ da ∨ x ∈ db -> 0 <= x /\ x < Q1 P M)) : gck P M mf K da db = 2 := by
 unfold gck; rw [if_neg (fun c => c h), if_neg (fun c => c h1), if_neg (fun c => c h2), if_pos h3]
theorem Jkk (h : Qh P M mf) (h1 : 1 <= da.length /\ da.length <= 64) (h2 : db.length = da.length) (h3 : ∀ x, x ∈ da ∨ x ∈ db -> 0 <= x /\ x < Q1 P M) (h4 : ¬ da.Nodup) : gck P M mf K da db = 18 := by
 unfold gck; rw [if_neg (fun c => c h), if_neg (fun c => c h1), if_neg (fun c => c h2), if_neg (fun c => c h3), if_pos h4]
theorem Jqh (h : Qh P M mf) (h1 : 1 <= da.length /\ da.length <= 64) (h2 : db.length = da.length) (h3 : ∀ x, x ∈ da ∨ x ∈ db -> 0 <= x /\ x < Q1 P M) (h4 : da.Nodup) (h5 : (0 : Int) ∈ db) : gck P M mf K da db = 7 := by
 unfold gck; rw [if_neg (fun c => c h), if_neg (fun c => c h1), if_neg (fun c => c h2), if_neg (fun c => c h3), if_neg (fun c => c h4), if_pos h5]
theorem Jib (h : Qh P M mf) (h1 : 1 <= da.length /\ da.length <= 64) (h2 : db.length = da.length) (h3 : ∀ x, x ∈ da ∨ x ∈ db -> 0 <= x /\ x < Q1 P M) (h4 : da.Nodup) (h5 : (0 : Int) ∉ db) (h6 : K < 0 ∨ (da.length : Int) < K) : gck P M mf K da db = 6 := by
 unfold gck; rw [if_neg (fun c => c h), if_neg (fun c => c h1), if_neg (fun c => c h2), if_neg (fun c => c h3), if_neg (fun c => c h4), if_neg h5, if_pos h6]
theorem Jqi (h : Qh P M mf) (h1 : 1 <= da.length /\ da.length <= 64) (h2 : db.length = da.length) (h3 : ∀ x, x ∈ da ∨ x ∈ db -> 0 <= x /\ x < Q1 P M) (h4 : da.Nodup) (h5 : (0 : Int) ∉ db) (h6 : ¬ (K < 0 ∨ (da.length : Int) < K)) : gck P M mf K da db = 0 := by
 unfold gck; rw [if_neg (fun c => c h), if_neg (fun c => c h1), if_neg (fun c => c h2), if_neg (fun c => c h3), if_neg (fun c => c h4), if_neg h5, if_neg h6]
theorem GsD.ck (hF : FV P M mf k.p k.m k.v) (G : GsD k K da db) : gck P M mf K da db = 0 :=
 Jqi ⟨_, _, _, hF⟩ ⟨G.n1, G.n64⟩ G.len (fun x hx => by rw [hF.ord]; exact hx.elim (G.ea x) (G.eb x)) G.nd G.nz (fun c => by have := G.k0; have := G.kn; omega)
theorem Jes (hF : FV P M mf k.p k.m k.v) (h : gck P M mf K da db = 0) : GsD k K da db := by
 have hV : Qh P M mf := ⟨_, _, _, hF⟩
 by_cases h1 : 1 <= da.length /\ da.length <= 64
 case neg => rw [Jic hV h1] at h; exact absurd h (by decide)
 by_cases h2 : db.length = da.length
 case neg => rw [Jkl hV h1 h2] at h; exact absurd h (by decide)
 by_cases h3 : ∀ x, x ∈ da ∨ x ∈ db -> 0 <= x /\ x < Q1 P M
 case neg => rw [Jme hV h1 h2 h3] at h; exact absurd h (by decide)
 by_cases h4 : da.Nodup
 case neg => rw [Jkk hV h1 h2 h3 h4] at h; exact absurd h (by decide)
 by_cases h5 : (0 : Int) ∈ db
 .rw [Jqh hV h1 h2 h3 h4 h5] at h; exact absurd h (by decide)
 by_cases h6 : K < 0 ∨ (da.length : Int) < K
 .rw [Jib hV h1 h2 h3 h4 h5 h6] at h; exact absurd h (by decide)
 rw [hF.ord] at h3; exact ⟨h1.1, h1.2, h2, fun x hx => h3 x (.inl hx), fun x hx => h3 x (.inr hx), h4, h5, by omega, by omega⟩
theorem Jfu {Q : Option GFv × Int -> Prop} (h0 : gck P M mf K da db ≠ 0 -> Q (none, gck P M mf K da db)) (h1 : ∀ (F : GFv) (k : Ks), GFk F k.p k.m k.v k.g -> FV P M mf k.p k.m k.v -> F.P = P -> F.M = M -> F.mod = mf -> GsD k K da db -> Q (some F, 0)) : ZX P M mf K da db Q := by
 have e0 : ∀ e : Int, gck P M mf K da db = e -> e ≠ 0 -> (e ≠ 0 /\ Q (none, e)) := fun e h hn => ⟨hn, by rw [<- h]; exact h0 (by rw [h]; exact hn)⟩
 have ff : ∀ {e : Int} {A B : Prop}, e ≠ 0 -> A -> ((e ≠ 0 -> A) /\ (¬ (e ≠ 0) -> B)) := fun h a => ⟨fun _ => a, fun c => absurd h c⟩
 refine w_New (fun hno => ff (by decide) (e0 1 (Jkj hno) (by decide))) fun F k KF hF eP eM em => ⟨fun c => absurd rfl c, fun _ => ?_⟩
 have hV : Qh P M mf := ⟨_, _, _, hF⟩
 have ho := hF.ord; refine ⟨fun e => e = gck P M mf K da db, ⟨fun c => (Jic hV (by omega)).symm, fun c1 => ⟨fun c => (Jic hV (by omega)).symm, fun c2 => ⟨fun c => (Jkl hV (by omega) (by omega)).symm, fun c3 => ?_⟩⟩⟩, ?_⟩
 .have hl1 : 1 <= da.length /\ da.length <= 64 := by omega
  have hl2 : db.length = da.length := by omega
  refine YO KF (by omega) (fun hx => tT (Jme hV hl1 hl2 fun c => ?_).symm) fun hA => tF (YO KF (by omega) (fun hx => tT (Jme hV hl1 hl2 fun c => ?_).symm) fun hB => tF ?_)
  .obtain ⟨x, hx, hn⟩ := hx; exact hn (by have := c x (.inl hx); rwa [ho] at this)
  .obtain ⟨x, hx, hn⟩ := hx; exact hn (by have := c x (.inr hx); rwa [ho] at this)
  .have h3 : ∀ x, x ∈ da ∨ x ∈ db -> 0 <= x /\ x < Q1 P M := fun x hx => by rw [ho]; exact hx.elim (hA x) (hB x)
   refine Jji (by omega) (fun hn => tT (Jkk hV hl1 hl2 h3 hn).symm) fun hn => tF (Jhg (by omega) (fun hz => tT (Jqh hV hl1 hl2 h3 hn hz).symm) fun hz => tF ?_); exact ⟨fun c => (Jib hV hl1 hl2 h3 hn hz (.inl c)).symm, fun c => ⟨fun d => (Jib hV hl1 hl2 h3 hn hz (.inr d)).symm, fun d => (Jqi hV hl1 hl2 h3 hn hz (by omega)).symm⟩⟩
 .rintro e he; refine ⟨fun hn => e0 e he.symm hn, fun hn => ?_⟩; have : gck P M mf K da db = 0 := by omega
  exact h1 F k KF hF eP eM em (Jes hF this)
theorem Qz {Q : Int -> Prop} (h : Q (gck P M mf K da db)) : QO P M mf K da db Q := by
 refine Zn ?_; by_cases hV : Qh P M mf
 case neg => rw [QX hV]; rw [Jkj hV] at h; exact ⟨fun _ => h, fun c => absurd (by decide) c⟩
 rw [Ja3 hV]; obtain ⟨p, m, v, hF⟩ := hV; have hV : Qh P M mf := ⟨p, m, v, hF⟩
 have ho := hF.ord; refine ⟨fun c => absurd rfl c, fun _ => ⟨fun c => by rw [Jic hV (by omega)] at h; exact h, fun c1 => ⟨fun c => by rw [Jic hV (by omega)] at h; exact h, fun c2 => ⟨fun c => by rw [Jkl hV (by omega) (by omega)] at h; exact h, fun c3 => ?_⟩⟩⟩⟩; have hl1 : 1 <= da.length /\ da.length <= 64 := by omega
 have hl2 : db.length = da.length := by omega
 refine ⟨fun z => ∃ j : Nat, z = j /\ ∀ i, i < j -> i < da.length -> (0 <= vo da i /\ vo da i < ((p ^ m : Nat) : Int)) /\ (0 <= vo db i /\ vo db i < ((p ^ m : Nat) : Int)), fun z => ((da.length : Nat) - z : Int).toNat, ⟨0, rfl, fun i hi => by omega⟩, ?_⟩; rintro _ ⟨j, rfl, hj⟩; refine ⟨fun hlt => ?_, fun hge => ?_⟩
 .rw [JG, JG]; have bad : ¬ ((0 <= vo da j /\ vo da j < ((p ^ m : Nat) : Int)) /\ (0 <= vo db j /\ vo db j < ((p ^ m : Nat) : Int))) -> Q 2 := fun hn => by
   rw [Jme hV hl1 hl2 fun c => hn (by
    rw [ho] at c; exact ⟨c _ (.inl (Ql.2 ⟨j, by omega, rfl⟩)), c _ (.inr (Ql.2 ⟨j, by omega, rfl⟩))⟩)] at h
   exact h
  by_cases ha : 0 <= vo da j /\ vo da j < ((p ^ m : Nat) : Int)
  case neg => exact .inl ⟨⟨by omega, hlt⟩, Jdk hF (decide_eq_false ha), bad fun c => ha c.1⟩
  refine .inr ⟨⟨by omega, hlt⟩, Jdk hF (decide_eq_true ha), ⟨by omega, by omega⟩, ?_⟩; by_cases hb : 0 <= vo db j /\ vo db j < ((p ^ m : Nat) : Int)
  case neg => exact ⟨false, Jdk hF (decide_eq_false hb), zF (bad fun c => hb c.2)⟩
  refine ⟨true, Jdk hF (decide_eq_true hb), zT ⟨Jw (by omega) (by omega), ⟨j + 1, by push_cast; rfl, fun i a b => ?_⟩, by show ((da.length : Nat) - ((j : Int) + 1) : Int).toNat < ((da.length : Nat) - (j : Int) : Int).toNat; omega⟩⟩; by_cases ei : i = j
  .subst ei; exact ⟨ha, hb⟩
  .exact hj i (by omega) b
 have h3 : ∀ x, x ∈ da ∨ x ∈ db -> 0 <= x /\ x < Q1 P M := fun x hx => by
  rw [ho]; rcases hx with hx | hx
  .obtain ⟨i, hi, rfl⟩ := Ql.1 hx; exact (hj i (by omega) hi).1
  .obtain ⟨i, hi, rfl⟩ := Ql.1 hx; exact (hj i (by omega) (by omega)).2
 refine ⟨fun z => ∃ j : Nat, z = j /\ j <= da.length /\ ∀ a b, a < b -> b < j -> vo da a ≠ vo da b, fun z => ((da.length : Nat) - z : Int).toNat, ⟨0, rfl, by omega, fun a b _ hb => by omega⟩, ?_⟩; rintro _ ⟨j, rfl, hjl, hd⟩; refine ⟨fun hlt => ?_, fun hge => ?_⟩
 .refine ⟨fun z => ∃ i : Nat, z = i /\ i <= j /\ ∀ a, a < i -> vo da a ≠ vo da j, fun z => ((j : Int) - z).toNat, ⟨0, rfl, by omega, fun a ha => by omega⟩, ?_⟩; rintro _ ⟨i, rfl, hij, hi⟩; refine ⟨fun hlt2 => ⟨⟨by omega, by omega⟩, ⟨by omega, by omega⟩, fun e => ?_, fun e => ⟨Jw (by omega) (by omega), ⟨i + 1, by push_cast; rfl, by omega, fun a ha => ?_⟩, by show ((j : Int) - ((i : Int) + 1)).toNat < ((j : Int) - (i : Int)).toNat; omega⟩⟩, fun hge2 => ⟨Jw (by omega) (by omega), ⟨j + 1, by push_cast; rfl, by omega, fun a b hab hb => ?_⟩, by show ((da.length : Nat) - ((j : Int) + 1) : Int).toNat < ((da.length : Nat) - (j : Int) : Int).toNat; omega⟩⟩
  .rw [Jkk hV hl1 hl2 h3 fun c => Zr.1 c i j (by omega) (by omega) (by rw [JG, JG] at e; exact e.symm)] at h; exact h
  .by_cases ea : a = i
   .subst ea; rw [JG, JG] at e; exact fun c => e c.symm
   .exact hi a (by omega)
  .by_cases eb : b = j
   .subst eb; exact hi a (by omega)
   .exact hd a b hab (by omega)
 have h4 : da.Nodup := Zr.2 fun a b hab hb => hd a b hab (by omega); refine ⟨fun z => ∃ j : Nat, z = j /\ ∀ a, a < j -> a < db.length -> vo db a ≠ 0, fun z => ((da.length : Nat) - z : Int).toNat, ⟨0, rfl, fun a ha => by omega⟩, ?_⟩; rintro _ ⟨j, rfl, hz⟩; refine ⟨fun hlt => ⟨⟨by omega, by omega⟩, fun e => ?_, fun e => ⟨Jw (by omega) (by omega), ⟨j + 1, by push_cast; rfl, fun a ha hb => ?_⟩, by show ((da.length : Nat) - ((j : Int) + 1) : Int).toNat < ((da.length : Nat) - (j : Int) : Int).toNat; omega⟩⟩, fun hge => ?_⟩
 .rw [Jqh hV hl1 hl2 h3 h4 (Ql.2 ⟨j, by omega, e⟩)] at h; exact h
 .by_cases ea : a = j
  .subst ea; exact e
  .exact hz a (by omega) hb
 have h5 : (0 : Int) ∉ db := fun c => by
  obtain ⟨i, hi, e⟩ := Ql.1 c; exact hz i (by omega) hi e
 refine ⟨fun c => ?_, fun c => ⟨fun d => ?_, fun d => ?_⟩⟩
 .rw [Jib hV hl1 hl2 h3 h4 h5 (.inl c)] at h; exact h
 .rw [Jib hV hl1 hl2 h3 h4 h5 (.inr d)] at h; exact h
 .rw [Jqi hV hl1 hl2 h3 h4 h5 (by omega)] at h; exact h
end
end Go.Proofs.Ytppkigdakobebaa
namespace Go.Proofs.Ytppkigdakobebaa
open Ks
/-! ### generalized Reed-Solomon codes: words, duals, comparisons -/
theorem Jft {l o : LI} {Q : Bool -> Prop} (hl : l.length <= 1000000) (h : Q (decide (l = o))) : ZV l o Q := by
  refine ⟨fun hne => ?_, fun he => ?_⟩
  . rw [decide_eq_false (fun e => by subst e; exact hne rfl)] at h; exact h
  . have hlo : l.length = o.length := by omega
    refine ⟨fun z => ∃ j : Nat, z = j /\ ∀ i, i < j -> i < l.length -> vo l i = vo o i, fun z => ((l.length : Nat) - z : Int).toNat, ⟨0, rfl, fun i hi => by omega⟩, ?_⟩
    rintro _ ⟨j, rfl, hj⟩
    refine ⟨fun hlt => ⟨⟨by omega, hlt⟩, ⟨by omega, by omega⟩, fun hne => ?_, fun heq => ⟨Jw (by omega) (by omega), ⟨j + 1, by push_cast; rfl, fun i a b => ?_⟩, by show ((l.length : Nat) - ((j : Int) + 1) : Int).toNat < ((l.length : Nat) - (j : Int) : Int).toNat; omega⟩⟩, fun hge => ?_⟩
    . rw [decide_eq_false (fun e => by subst e; exact hne rfl)] at h; exact h
    . by_cases ei : i = j
      . subst ei; rw [JG, JG] at heq; exact Classical.byContradiction fun c => heq c
      . exact hj i (by omega) b
    . rw [decide_eq_true (QY hlo fun i hi => hj i (by omega) hi)] at h; exact h
theorem Joq {P M P' M' : Int} {mf mf' : LI} {Q : Bool -> Prop} (hl : mf.length <= 1000000) (h : Q (decide (P = P' /\ M = M' /\ mf = mf'))) : Jbb P M mf P' M' mf' Q := by
 refine ⟨fun c => by rw [decide_eq_false (fun e => c e.1)] at h; exact h, fun c1 => ⟨fun c => by rw [decide_eq_false (fun e => c e.2.1)] at h; exact h, fun c2 => ⟨fun c => by rw [decide_eq_false (fun e => c (by rw [e.2.2]))] at h; exact h, fun c3 => ?_⟩⟩⟩; have hlo : mf.length = mf'.length := by omega
 refine ⟨fun z => ∃ j : Nat, z = j /\ ∀ i, i < j -> i < mf.length -> vo mf i = vo mf' i, fun z => ((mf.length : Nat) - z : Int).toNat, ⟨0, rfl, fun i hi => by omega⟩, ?_⟩; rintro _ ⟨j, rfl, hj⟩; refine ⟨fun hlt => ⟨⟨by omega, hlt⟩, ⟨by omega, by omega⟩, fun hne => ?_, fun heq => ⟨Jw (by omega) (by omega), ⟨j + 1, by push_cast; rfl, fun i a b => ?_⟩, by show ((mf.length : Nat) - ((j : Int) + 1) : Int).toNat < ((mf.length : Nat) - (j : Int) : Int).toNat; omega⟩⟩, fun hge => ?_⟩
 .rw [decide_eq_false (fun e => hne (by rw [e.2.2]))] at h; exact h
 .by_cases ei : i = j
  .subst ei; rw [JG, JG] at heq; exact Classical.byContradiction fun c => heq c
  .exact hj i (by omega) b
 .rw [decide_eq_true ⟨Classical.byContradiction fun c => c1 c, Classical.byContradiction fun c => c2 c, QY hlo fun i hi => hj i (by omega) hi⟩] at h; exact h
theorem Jan {P M P' M' K K' : Int} {mf mf' da db da' db' : LI} {Q : Bool -> Prop} (hl : mf.length <= 1000000) (ha : da.length <= 1000000) (hb : db.length <= 1000000) (h : Q (decide (P = P' /\ M = M' /\ mf = mf' /\ K = K' /\ da = da' /\ db = db'))) : Yy P M mf K da db P' M' mf' K' da' db' Q := by
 refine Joq hl ?_; by_cases hF : P = P' /\ M = M' /\ mf = mf'
 case neg => rw [decide_eq_false hF]; rw [decide_eq_false (fun e => hF ⟨e.1, e.2.1, e.2.2.1⟩)] at h; exact zF h
 rw [decide_eq_true hF]; refine zT ⟨fun c => by rw [decide_eq_false (fun e => c e.2.2.2.1)] at h; exact h, fun cK => ⟨fun c => by rw [decide_eq_false (fun e => c (by rw [e.2.2.2.2.1]))] at h; exact h, fun c1 => ⟨fun c => by rw [decide_eq_false (fun e => c (by rw [e.2.2.2.2.2]))] at h; exact h, fun c2 => ?_⟩⟩⟩; have hlo : da.length = da'.length := by omega
 refine ⟨fun z => ∃ j : Nat, z = j /\ ∀ i, i < j -> i < da.length -> vo da i = vo da' i, fun z => ((da.length : Nat) - z : Int).toNat, ⟨0, rfl, fun i hi => by omega⟩, ?_⟩; rintro _ ⟨j, rfl, hj⟩; refine ⟨fun hlt => ⟨⟨by omega, hlt⟩, ⟨by omega, by omega⟩, fun hne => ?_, fun heq => ⟨Jw (by omega) (by omega), ⟨j + 1, by push_cast; rfl, fun i a b => ?_⟩, by show ((da.length : Nat) - ((j : Int) + 1) : Int).toNat < ((da.length : Nat) - (j : Int) : Int).toNat; omega⟩⟩, fun hge => ?_⟩
 .rw [decide_eq_false (fun e => hne (by rw [e.2.2.2.2.1]))] at h; exact h
 .by_cases ei : i = j
  .subst ei; rw [JG, JG] at heq; exact Classical.byContradiction fun c => heq c
  .exact hj i (by omega) b
 have hda : da = da' := QY hlo fun i hi => hj i (by omega) hi; have hlo2 : db.length = db'.length := by omega
 refine ⟨fun z => ∃ j : Nat, z = j /\ ∀ i, i < j -> i < db.length -> vo db i = vo db' i, fun z => ((db.length : Nat) - z : Int).toNat, ⟨0, rfl, fun i hi => by omega⟩, ?_⟩; rintro _ ⟨j', rfl, hj'⟩; refine ⟨fun hlt => ⟨⟨by omega, hlt⟩, ⟨by omega, by omega⟩, fun hne => ?_, fun heq => ⟨Jw (by omega) (by omega), ⟨j' + 1, by push_cast; rfl, fun i a b => ?_⟩, by show ((db.length : Nat) - ((j' : Int) + 1) : Int).toNat < ((db.length : Nat) - (j' : Int) : Int).toNat; omega⟩⟩, fun hge => ?_⟩
 .rw [decide_eq_false (fun e => hne (by rw [e.2.2.2.2.2]))] at h; exact h
 .by_cases ei : i = j'
  .subst ei; rw [JG, JG] at heq; exact Classical.byContradiction fun c => heq c
  .exact hj' i (by omega) b
 .rw [decide_eq_true ⟨hF.1, hF.2.1, hF.2.2, Classical.byContradiction fun c => cK c, hda, QY hlo2 fun i hi => hj' i (by omega) hi⟩] at h; exact h
theorem Je3 {Q : Bool -> Prop} (h : Q true) : QF 0 0 [] 0 [] [] Q := Jan (by simp) (by simp) (by simp) (by rw [decide_eq_true ⟨rfl, rfl, rfl, rfl, rfl, rfl⟩]; exact h)
theorem Jtb {p : Nat -> Prop} {n : Nat} (h : p n) : ctp p (n + 1) = ctp p n + 1 := by
 show ctp p n + _ = _; rw [if_pos h]
theorem Jmj {p : Nat -> Prop} {n : Nat} (h : ¬ p n) : ctp p (n + 1) = ctp p n := by
 show ctp p n + _ = _; rw [if_neg h]; rfl
/-- how many entries are not 0 -/
theorem Z5 {l : LI} {Q : Int -> Prop} (hl : l.length <= 1000000) (h : Q ((ctp (fun i => vo l i ≠ 0) l.length : Nat) : Int)) : Q4 l Q := by
  refine ⟨fun c z => ∃ j : Nat, z = j /\ j <= l.length /\ c = ((ctp (fun i => vo l i ≠ 0) j : Nat) : Int), fun _ z => ((l.length : Nat) - z : Int).toNat, ⟨0, rfl, by omega, rfl⟩, ?_⟩
  rintro _ _ ⟨j, rfl, hj, rfl⟩
  have hle := Jkr (fun i => vo l i ≠ 0) j
  refine ⟨fun hlt => ⟨fun c => c = ((ctp (fun i => vo l i ≠ 0) (j + 1) : Nat) : Int), ⟨⟨by omega, hlt⟩, fun hne => ⟨Jw (by omega) (by omega), ?_⟩, fun he => ?_⟩, fun c hc => ⟨Jw (by omega) (by omega), ⟨j + 1, by push_cast; rfl, by omega, hc⟩, by show ((l.length : Nat) - ((j : Int) + 1) : Int).toNat < ((l.length : Nat) - (j : Int) : Int).toNat; omega⟩⟩, fun hge => ?_⟩
  . rw [JG] at hne
    rw [Jtb (p := fun i => vo l i ≠ 0) hne]; push_cast; rfl
  . rw [JG] at he
    rw [Jmj (p := fun i => vo l i ≠ 0) he]
  . have : j = l.length := by omega
    subst this; exact h
section
variable {P M : Int} {mf : LI} {k : Ks} {F : GFv} {K : Int} {da db : LI}
theorem Jgh {f : Nat -> Int} {n : Nat} {x : LI} (h : Fill f n x n) : x = (List.range n).map f := by
 obtain ⟨j, e, _, hl, hv⟩ := h; refine QY (by simp [hl]) fun i hi => ?_; rw [hv i (by omega), Zm, if_pos (by omega)]
theorem Jjh {a b : LI} {Q : LI -> Prop} (KF : GFk F k.p k.m k.v k.g) (hl : a.length <= 1000000) (hb : a.length <= b.length) (h : Q ((List.range a.length).map fun i => k.co (k.el (vo a i) * k.el (vo b i)))) : YD F a b Q := by
 unfold YD; rw [Int.toNat_natCast]; refine ⟨by omega, fun x z => Fill (fun i => k.co (k.el (vo a i) * k.el (vo b i))) a.length x z, fun _ z => ((a.length : Nat) - z : Int).toNat, YF _ _, ?_⟩; rintro x z hf; obtain ⟨j, rfl, hj, hx, hv⟩ := hf; refine ⟨fun hlt => ⟨⟨by omega, hlt⟩, ⟨by omega, by omega⟩, Jot KF ⟨⟨by omega, by omega⟩, Jw (by omega) (by omega), Fill.step ⟨j, rfl, hj, hx, hv⟩ (by omega) rfl, by show ((a.length : Nat) - ((j : Int) + 1) : Int).toNat < ((a.length : Nat) - (j : Int) : Int).toNat; omega⟩⟩, fun hge => ?_⟩; have : j = a.length := by omega
 subst this; rw [Jgh (f := fun i => k.co (k.el (vo a i) * k.el (vo b i))) ⟨_, rfl, hj, hx, hv⟩]; exact h
/-- the codeword of a message polynomial -/
noncomputable def GW (k : Ks) (da db : LI) (f : Pl k.E) : LI := (List.range da.length).map fun i => k.co (k.el (vo db i) * vl_ f (k.el (vo da i)))
theorem QW (f : Pl k.E) : (GW k da db f).length = da.length := by simp [GW]
theorem Jr3 (f : Pl k.E) {i : Nat} (hi : i < da.length) : vo (GW k da db f) i = k.co (k.el (vo db i) * vl_ f (k.el (vo da i))) := by unfold GW; rw [Zm, if_pos hi]
theorem Ym {y : LI} {Q : LI × Int -> Prop} (hy : y.length <= 100000) (h0 : gck P M mf K da db ≠ 0 -> Q ([], gck P M mf K da db))
  (h3 : gck P M mf K da db = 0 -> (y.length : Int) ≠ K -> Q ([], 3)) (h2 : gck P M mf K da db = 0 -> (y.length : Int) = K -> ¬ (∀ x ∈ y, 0 <= x /\ x < Q1 P M) -> Q ([], 2))
  (h : ∀ k : Ks, FV P M mf k.p k.m k.v -> GsD k K da db -> (y.length : Int) = K -> (∀ x ∈ y, 0 <= x /\ x < ((k.p ^ k.m : Nat) : Int)) -> Q (GW k da db (k.pol y), 0)) : QC P M mf K da db y Q := by
 refine Jfu (fun hn _ => h0 hn) fun F k KF hF _ _ _ G => ?_; have hck := G.ck hF; have n64 := G.n64; have hlen := G.len; refine ⟨fun c => h3 hck c, fun c => YO KF (by omega) (fun hx => tT (h2 hck (by omega) fun d => ?_)) fun he => tF ?_⟩
 .obtain ⟨x, hx, hn⟩ := hx; exact hn (by have := d x hx; rwa [hF.ord] at this)
 .rw [Int.toNat_natCast]; refine ⟨by omega, fun x z => Fill (fun i => k.co (vl_ (k.pol y) (k.el (vo da i)))) da.length x z, fun _ z => ((da.length : Nat) - z : Int).toNat, YF _ _, ?_⟩; rintro x z hf; obtain ⟨j, rfl, hj, hx, hv⟩ := hf; refine ⟨fun hlt => ⟨⟨by omega, hlt⟩, w_eval KF ⟨⟨by omega, by omega⟩, Jw (by omega) (by omega), Fill.step ⟨j, rfl, hj, hx, hv⟩ (by omega) rfl, by show ((da.length : Nat) - ((j : Int) + 1) : Int).toNat < ((da.length : Nat) - (j : Int) : Int).toNat; omega⟩⟩, fun hge => ?_⟩; have : j = da.length := by omega
  subst this; refine Jjh KF (by omega) (by omega) ?_; have e : ((List.range x.length).map fun i => k.co (k.el (vo x i) * k.el (vo db i))) = GW k da db (k.pol y) := by
   unfold GW; rw [hx]; refine List.map_congr_left fun i hi => ?_; rw [hv i (List.mem_range.1 hi), Qx, Cr.mul_comm]
  rw [e]; exact h k hF G (by omega) he
theorem Jfr {l : LI} {n e : Int} {Q : Int -> Prop} (hF : FV P M mf k.p k.m k.v) (hnn : n <= 1000000) (h3 : (l.length : Int) ≠ n -> Q e) (h2 : (l.length : Int) = n -> ¬ (∀ x ∈ l, 0 <= x /\ x < ((k.p ^ k.m : Nat) : Int)) -> Q 2) (h0 : (l.length : Int) = n -> (∀ x ∈ l, 0 <= x /\ x < ((k.p ^ k.m : Nat) : Int)) -> Q 0) : Qe P M mf l n e Q := by
 refine ⟨fun c => h3 c, fun c => ?_⟩; have hln : (l.length : Int) = n := by omega
 refine ⟨fun z => ∃ j : Nat, z = j /\ ∀ i, i < j -> i < l.length -> 0 <= vo l i /\ vo l i < ((k.p ^ k.m : Nat) : Int), fun z => ((l.length : Nat) - z : Int).toNat, ⟨0, rfl, fun i hi => by omega⟩, ?_⟩; rintro _ ⟨j, rfl, hj⟩; refine ⟨fun hlt => ⟨⟨by omega, by omega⟩, ?_⟩, fun hge => h0 hln fun x hx => ?_⟩
 .rw [JG]; by_cases hx : 0 <= vo l j /\ vo l j < ((k.p ^ k.m : Nat) : Int)
  .refine ⟨true, Jdk hF (decide_eq_true hx), zT ⟨Jw (by omega) (by omega), ⟨j + 1, by push_cast; rfl, fun i a b => ?_⟩, by show ((l.length : Nat) - ((j : Int) + 1) : Int).toNat < ((l.length : Nat) - (j : Int) : Int).toNat; omega⟩⟩; by_cases ei : i = j
   .subst ei; exact hx
   .exact hj i (by omega) b
  .exact ⟨false, Jdk hF (decide_eq_false hx), zF (h2 hln fun c => hx (c _ (Ql.2 ⟨j, by omega, rfl⟩)))⟩
 .obtain ⟨i, hi, rfl⟩ := Ql.1 hx; exact hj i (by omega) hi
/-! the dual description -/
noncomputable def DM (k : Ks) (da db : LI) : LI := (List.range da.length).map fun i => k.co (Qo (pdl (fun j => k.el (vo da j)) i (k.el (vo db i)) da.length))
theorem GsD.el_ne (G : GsD k K da db) {i j : Nat} (hi : i < da.length) (hj : j < da.length) (hij : j ≠ i) : k.el (vo da i) ≠ k.el (vo da j) := fun e => by
 have h1 := G.ea _ (Ql.2 ⟨i, hi, rfl⟩); have h2 := G.ea _ (Ql.2 ⟨j, hj, rfl⟩); have e2 : vo da i = vo da j := by rw [<- Zw h1, <- Zw h2, e]
 rcases Nat.lt_or_gt_of_ne hij with q | q
 .exact Zr.1 G.nd j i q hi e2.symm
 .exact Zr.1 G.nd i j q hj e2
theorem GsD.mu_ne (G : GsD k K da db) {i : Nat} (hi : i < da.length) : k.el (vo db i) ≠ 0 := fun e => by
 have hl := G.len; have h1 := G.eb _ (Ql.2 ⟨i, by omega, rfl⟩); refine G.nz (Ql.2 ⟨i, by omega, ?_⟩); rw [<- Zw h1, e]; rfl
theorem GsD.pd_ne (G : GsD k K da db) {i : Nat} (hi : i < da.length) : pdl (fun j => k.el (vo da j)) i (k.el (vo db i)) da.length ≠ 0 :=
 Jdu (G.mu_ne hi) fun j hj hji => G.el_ne hi hj hji
theorem Jkc (hF : FV P M mf k.p k.m k.v) : mf.length <= 1000 := by
 by_cases h : k.m = 1
 .rw [(hF.m1 h).1]; simp
 .rw [hF.m2 h]; have hq := hF.q; have hp := k.p2; have h8 : k.m <= 8 := by
   rcases Nat.lt_or_ge 8 k.m with c | c
   .have h1 : 2 ^ 9 <= k.p ^ k.m := Nat.le_trans (Nat.pow_le_pow_left hp 9) (Nat.pow_le_pow_right (by omega) c); omega
   .exact c
  simp only [dgi, List.length_map, QA]; omega
theorem Jcz {Q : Int × Int × LI × Int × LI × LI × Int -> Prop} (h0 : gck P M mf K da db ≠ 0 -> Q (0, 0, [], 0, [], [], gck P M mf K da db))
  (h : ∀ k : Ks, FV P M mf k.p k.m k.v -> GsD k K da db -> Q (P, M, mf, (da.length : Int) - K, da, DM k da db, 0)) : Zi P M mf K da db Q := by
 refine Jfu (fun hn _ => h0 hn) fun F k KF hF _ _ _ G => ?_; have n64 := G.n64; have hlen := G.len; have hm := Jkc hF; have k0 := G.k0; have kn := G.kn; refine Y8 (by omega) ⟨_, Y8 (by omega) rfl, _, Y8 (by omega) rfl, Jw (by omega) (by omega), ?_⟩
 let val : Nat -> Int := fun i => k.co (Qo (pdl (fun j => k.el (vo da j)) i (k.el (vo db i)) da.length))
 refine ⟨fun x z => Fill val da.length x z, fun _ z => ((da.length : Nat) - z : Int).toNat, ⟨0, rfl, Nat.zero_le _, hlen, fun i hi => by omega⟩, ?_⟩; rintro x z hf; obtain ⟨i, rfl, hi, hx, hv⟩ := hf; refine ⟨fun hlt => ?_, fun hge => ?_⟩
 .have hi' : i < da.length := by omega
  refine ⟨fun x2 _ _ _ => Fill val da.length x2 ((i : Int) + 1), ⟨⟨by omega, hlt⟩, ⟨by omega, by omega⟩, ?_⟩, fun x2 _ _ _ h2 => ⟨Jw (by omega) (by omega), h2, by show ((da.length : Nat) - ((i : Int) + 1) : Int).toNat < ((da.length : Nat) - (i : Int) : Int).toNat; omega⟩⟩; refine ⟨fun u z => ∃ j : Nat, z = j /\ j <= da.length /\ k.el u = pdl (fun j => k.el (vo da j)) i (k.el (vo db i)) j, fun _ z => ((da.length : Nat) - z : Int).toNat, ⟨0, rfl, Nat.zero_le _, rfl⟩, ?_⟩; rintro u _ ⟨j, rfl, hj, hu⟩; refine ⟨fun hlt2 => ?_, fun hge2 => ?_⟩
  .refine ⟨fun u' => k.el u' = pdl (fun j => k.el (vo da j)) i (k.el (vo db i)) (j + 1), ⟨⟨by omega, hlt2⟩, fun hne => w_Sub KF (Jot KF ?_), fun he => ?_⟩, fun u' hu' => ⟨Jw (by omega) (by omega), ⟨j + 1, by push_cast; rfl, by omega, hu'⟩, by show ((da.length : Nat) - ((j : Int) + 1) : Int).toNat < ((da.length : Nat) - (j : Int) : Int).toNat; omega⟩⟩
   .show k.el _ = if j = i then _ else _
    rw [if_neg (by omega), Qx, Qx, hu]; rfl
   .show k.el _ = if j = i then _ else _
    rw [if_pos (by omega)]; exact hu
  .have : j = da.length := by omega
   subst this; refine ⟨k.co (Qo (k.el u)), 0, w_Inv KF (fun e => ?_) (fun _ => rfl), ⟨by omega, by omega⟩, ?_⟩
   .exact absurd (hu.symm.trans e) (G.pd_ne hi')
   .exact Fill.step ⟨i, rfl, hi, hx, hv⟩ hi' (by rw [hu])
 .have : i = da.length := by omega
  subst this; have := Jgh (f := val) ⟨_, rfl, hi, hx, hv⟩; rw [this]; exact h k hF G
/-- the standard description -/
def SA (n : Nat) : LI := (List.range n).map fun i : Nat => ((i : Nat) : Int)
theorem Jm1 (n : Nat) : SA n ++ [(n : Int)] = SA (n + 1) := by unfold SA; rw [List.range_succ, List.map_append]; rfl
theorem Jmz (n : Nat) : List.replicate n (1 : Int) ++ [1] = List.replicate (n + 1) 1 := by rw [List.replicate_succ']
theorem Jdh {n K : Int} {Q : Int × Int × LI × Int × LI × LI × Int -> Prop} (h1 : ¬ Qh P M mf -> Q (0, 0, [], 0, [], [], 1)) (h4 : Qh P M mf -> (n < 1 ∨ min 64 (Q1 P M) < n) -> Q (0, 0, [], 0, [], [], 4))
  (h6 : Qh P M mf -> 1 <= n -> n <= min 64 (Q1 P M) -> (K < 0 ∨ n < K) -> Q (0, 0, [], 0, [], [], 6))
  (h : ∀ (k : Ks) (N : Nat), FV P M mf k.p k.m k.v -> n = N -> 1 <= N -> N <= 64 -> N <= k.p ^ k.m -> 0 <= K -> K <= n -> Q (P, M, mf, K, SA N, List.replicate N 1, 0)) : YE P M mf n K Q := by
 refine w_New (fun hno => ⟨fun _ => h1 hno, fun c => absurd (by decide) c⟩) fun F k KF hF eP eM em => ⟨fun c => absurd rfl c, fun _ => ?_⟩
 have hV : Qh P M mf := ⟨_, _, _, hF⟩
 have ho := hF.ord; refine ⟨fun c => h4 hV (.inl c), fun c1 => ?_⟩; show (min 64 F.q < n -> _) /\ (¬ (min 64 F.q < n) -> _)
 rw [KF.q, <- ho]; refine ⟨fun c => h4 hV (.inr c), fun c2 => ⟨fun c => h6 hV (by omega) (by omega) (.inl c), fun c3 => ⟨fun c => h6 hV (by omega) (by omega) (.inr c), fun c4 => Jr6 KF ?_⟩⟩⟩; obtain ⟨N, rfl⟩ := Int.eq_ofNat_of_zero_le (show 0 <= n by omega); refine ⟨fun x y z => ∃ j : Nat, z = j /\ j <= N /\ x = SA j /\ y = List.replicate j 1, fun _ _ z => ((N : Int) - z).toNat, ⟨0, rfl, Nat.zero_le _, rfl, rfl⟩, ?_⟩; rintro _ _ _ ⟨j, rfl, hj, rfl, rfl⟩; have hl : (SA j).length = j := by simp [SA]
 have hl2 : (List.replicate j (1 : Int)).length = j := List.length_replicate; refine ⟨fun hlt => ⟨fun x y => x = SA (j + 1) /\ y = List.replicate (j + 1) 1, ⟨by omega, by omega, Jm1 j, Jmz j⟩, ?_⟩, fun hge => ?_⟩
 .rintro _ _ ⟨rfl, rfl⟩; exact ⟨Jw (by omega) (by omega), ⟨j + 1, by push_cast; rfl, by omega, rfl, rfl⟩, by show ((N : Int) - ((j : Int) + 1)).toNat < ((N : Int) - (j : Int)).toNat; omega⟩
 .have : j = N := by omega
  subst this; have e : ((k.p : Nat) : Int) = P := hF.eP.symm; rw [e, eM, em]; exact h k j hF rfl (by omega) (by omega) (by rw [ho] at c2; omega) (by omega) (by omega)
end
end Go.Proofs.Ytppkigdakobebaa
namespace Go.Proofs.Ytppkigdakobebaa
open Go.RowKit
end Go.Proofs.Ytppkigdakobebaa
namespace Go.Proofs.Ytppkigdakobebaa
open Go.RowKit
end Go.Proofs.Ytppkigdakobebaa
namespace Go.Proofs.Ytppkigdakobebaa
open Ks
/-! ### generalized Reed-Solomon codes: the laws -/
section
variable {P M : Int} {mf : LI} {k k' : Ks} {F : GFv} {K : Int} {da db : LI}
theorem Jh5 (h : Qh P M mf) : ∃ k : Ks, FV P M mf k.p k.m k.v := by
 obtain ⟨p, m, v, hF⟩ := h; obtain ⟨g, hG⟩ := hF.gen; exact ⟨⟨p, m, v, g, hF.p2, hF.m0, hF.q, hF.ring, hG⟩, hF⟩
theorem GW_k (y : LI) (hF : FV P M mf k.p k.m k.v) (hF' : FV P M mf k'.p k'.m k'.v) : GW k da db (k.pol y) = GW k' da db (k'.pol y) := by
 obtain ⟨p, m, v, g, p2, m0, q256, R, G⟩ := k; obtain ⟨p', m', v', g', p2', m0', q256', R', G'⟩ := k'; obtain ⟨rfl, rfl, rfl⟩ := hF.same hF'; rfl
theorem DM_k (hF : FV P M mf k.p k.m k.v) (hF' : FV P M mf k'.p k'.m k'.v) : DM k da db = DM k' da db := by
 obtain ⟨p, m, v, g, p2, m0, q256, R, G⟩ := k; obtain ⟨p', m', v', g', p2', m0', q256', R', G'⟩ := k'; obtain ⟨rfl, rfl, rfl⟩ := hF.same hF'; rfl
theorem Jcc (n : Nat) : (SA n).length = n := by simp [SA]
theorem Jry {N : Nat} (h1 : 1 <= N) (h64 : N <= 64) (hq : N <= k.p ^ k.m) (h0 : 0 <= K) (hK : K <= (N : Int)) : GsD k K (SA N) (List.replicate N 1) := by
 have hm : ∀ x ∈ SA N, ∃ i : Nat, i < N /\ x = i := fun x hx => by
  unfold SA at hx; obtain ⟨i, hi, e⟩ := List.mem_map.1 hx; exact ⟨i, List.mem_range.1 hi, e.symm⟩
 have hlt : 1 < k.p ^ k.m := k.R.one_lt; refine ⟨by rw [Jcc]; exact h1, by rw [Jcc]; exact h64, by rw [Jcc]; simp, fun x hx => ?_, fun x hx => ?_, ?_, fun c => ?_, h0, by rw [Jcc]; exact hK⟩
 .obtain ⟨i, hi, rfl⟩ := hm x hx; omega
 .have := List.eq_of_mem_replicate hx; omega
 .refine Zr.2 fun i j hij hj => ?_; rw [Jcc] at hj; have e : ∀ i, i < N -> vo (SA N) i = (i : Int) := fun i hi => by unfold SA; rw [Zm (fun i : Nat => ((i : Nat) : Int)), if_pos hi]
  rw [e i (by omega), e j hj]; omega
 .have := List.eq_of_mem_replicate c; omega
theorem fv4 : FV 2 2 [1, 1] 2 2 3 := ⟨rfl, rfl, prime2, by decide, by decide, by decide, fun h => absurd h (by decide), fun _ => by decide, (Jh6 (by decide) (by decide)).1 (by decide +kernel)⟩
theorem al_GW (hF : FV 2 2 [1, 1] k.p k.m k.v) : GW k (SA 3) (List.replicate 3 1) (k.pol [1, 1]) = [1, 0, 3] := by
 obtain ⟨p, m, v, g, p2, m0, q256, R, G⟩ := k; obtain ⟨rfl, rfl, rfl⟩ := fv4.same hF; unfold GW; simp only [YH (Yq [1, 1])]
 kernel_rfl
theorem al_DM (hF : FV 2 2 [1, 1] k.p k.m k.v) : DM k (SA 3) (List.replicate 3 1) = [3, 2, 1] := by
 obtain ⟨p, m, v, g, p2, m0, q256, R, G⟩ := k; obtain ⟨rfl, rfl, rfl⟩ := fv4.same hF; show [_, _, _] = _; generalize hk : (⟨2, 2, 3, g, p2, m0, q256, R, G⟩ : Ks) = k; have e0 : pdl (fun j => k.el (vo (SA 3) j)) 0 (k.el (vo (List.replicate 3 1) 0)) 3 = k.el 2 := by subst hk; exact Subtype.ext (by kernel_rfl)
 have e1 : pdl (fun j => k.el (vo (SA 3) j)) 1 (k.el (vo (List.replicate 3 1) 1)) 3 = k.el 3 := by subst hk; exact Subtype.ext (by kernel_rfl)
 have e2 : pdl (fun j => k.el (vo (SA 3) j)) 2 (k.el (vo (List.replicate 3 1) 2)) 3 = k.el 1 := by subst hk; exact Subtype.ext (by kernel_rfl)
 have i0 : Qo (k.el 2) = k.el 3 := (Yv (by subst hk; exact Subtype.ext (by kernel_rfl))).symm; have i1 : Qo (k.el 3) = k.el 2 := (Yv (by subst hk; exact Subtype.ext (by kernel_rfl))).symm; have i2 : Qo (k.el 1) = k.el 1 := (Yv (by subst hk; exact Subtype.ext (by kernel_rfl))).symm; have q4 : ((k.p ^ k.m : Nat) : Int) = 4 := by subst hk; rfl
 show [k.co (Qo (pdl (fun j => k.el (vo (SA 3) j)) 0 (k.el (vo (List.replicate 3 1) 0)) 3)), k.co (Qo (pdl (fun j => k.el (vo (SA 3) j)) 1 (k.el (vo (List.replicate 3 1) 1)) 3)), k.co (Qo (pdl (fun j => k.el (vo (SA 3) j)) 2 (k.el (vo (List.replicate 3 1) 2)) 3))] = _; rw [e0, e1, e2, i0, i1, i2, Zw (by omega), Zw (by omega), Zw (by omega)]
theorem t0 {A B : Prop} (h : A) : ((0 : Int) = 0 -> A) /\ (¬ ((0 : Int) = 0) -> B) := ⟨fun _ => h, fun e => absurd rfl e⟩
theorem YG {Q : Bool -> Prop} (h : Q true) : QV Q := by
 have ho : Q1 2 2 = 4 := fv4.ord; refine Jdh (fun hn => absurd ⟨_, _, _, fv4⟩ hn) (fun _ c => by rw [ho] at c; omega) (fun _ _ _ c => by omega) fun k N hF hN h1 h64 hq _ hK => ?_; have : N = 3 := by omega
 subst this; have G : GsD k 2 (SA 3) (List.replicate 3 1) := Jry (by decide) (by decide) hq (by decide) (by decide); dsimp only; refine Ym (by decide) (fun c => absurd (G.ck hF) c) (fun _ c => absurd rfl c) (fun _ _ c => absurd (fun x hx => ?_) c) fun k1 hF1 G1 _ _ => ?_
 .rw [ho]; have : x = 1 := by simpa using hx
  omega
 dsimp only; refine Jcz (fun c => absurd (G.ck hF) c) fun k2 hF2 G2 => ?_; dsimp only; rw [al_GW hF1, al_DM hF2]; exact t0 (t0 (t0 (Jft (by decide) (tT ⟨fun _ => Jft (by decide) h, fun c => absurd (by decide) c⟩))))
theorem al {A B : Prop} {R : Bool -> Prop} (hR : R = fun r => ((!r) = true -> A) /\ ((!r) = false -> B)) (h : B) : QV R := by
 subst hR; exact YG (zT h)
theorem Jjj {Q : Bool -> Prop} (h1 : da.length <= 24 -> gck P M mf K da db = 0 -> Q true) (h0 : ¬ (da.length <= 24 /\ gck P M mf K da db = 0) -> Q false) : Jca P M mf K da db Q := by
 refine ⟨fun c => Qz ?_, fun c => h0 fun d => c (by omega)⟩; by_cases e : gck P M mf K da db = 0
 .rw [decide_eq_true e]; exact h1 (by omega) e
 .rw [decide_eq_false e]; exact h0 fun d => e d.2
theorem Qs (h : gck P M mf K da db = 0) : Qh P M mf := Classical.byContradiction fun c => by rw [Jkj c] at h; exact absurd h (by decide)
theorem Je4 {l : LI} {n e : Int} {Q : Int -> Prop} (hV : Qh P M mf) (hnn : n <= 1000000) (h3 : (l.length : Int) ≠ n -> Q e) (h2 : (l.length : Int) = n -> ¬ (∀ x ∈ l, 0 <= x /\ x < Q1 P M) -> Q 2) (h0 : (l.length : Int) = n -> (∀ x ∈ l, 0 <= x /\ x < Q1 P M) -> Q 0) : Qe P M mf l n e Q := by
 obtain ⟨k, hF⟩ := Jh5 hV; rw [hF.ord] at h2 h0; exact Jfr hF hnn h3 h2 h0
theorem Jal : (DM k da db).length = da.length := by simp [DM]
theorem Jjf {i : Nat} (hi : i < da.length) : vo (DM k da db) i = k.co (Qo (pdl (fun j => k.el (vo da j)) i (k.el (vo db i)) da.length)) := by unfold DM; rw [Zm, if_pos hi]
theorem GsD.dual (G : GsD k K da db) : GsD k ((da.length : Int) - K) da (DM k da db) := by
 have k0 := G.k0; have kn := G.kn; refine ⟨G.n1, G.n64, Jal, G.ea, fun x hx => ?_, G.nd, fun c => ?_, by omega, by omega⟩
 .obtain ⟨i, hi, rfl⟩ := Ql.1 hx; rw [Jal] at hi; rw [Jjf hi]; exact Jin _
 .obtain ⟨i, hi, e⟩ := Ql.1 c; rw [Jal] at hi; rw [Jjf hi] at e; exact Jqa (G.pd_ne hi) (Jb4.1 e)
theorem tq {X A B : Prop} (h : X) (a : A) : (X -> A) /\ (¬ X -> B) := ⟨fun _ => a, fun c => absurd h c⟩
theorem tn {X A B : Prop} (h : ¬ X) (b : B) : (X -> A) /\ (¬ X -> B) := ⟨fun c => absurd c h, fun _ => b⟩
theorem GW_wt (G : GsD k K da db) (f : Pl k.E) : ctp (fun i => vo (GW k da db f) i ≠ 0) da.length = ctp (fun i => vl_ f (k.el (vo da i)) ≠ 0) da.length := by
 refine Jb3 fun i hi => ?_; rw [Jr3 _ hi]; refine ⟨fun h e => h ?_, fun h e => ?_⟩
 .rw [e, Cr.mul_zero]; rfl
 .rcases ZF (Jb4.1 e) with e | e
  .exact G.mu_ne hi e
  .exact h e
end
end Go.Proofs.Ytppkigdakobebaa
