/- What only this law leans on. -/
import Derived.Test.YtmdigamgojfjdaaPolyAddsG12
set_option linter.unusedSimpArgs false
set_option linter.unusedVariables false
namespace Go.Proofs.Ytmdigamgojfjdaa
open Go.ChangeShapes Go.WideShapes Go.ChangeAt Go.RowKit
section
variable {H : Type} {enc : TypeId × Value → H} {P : Program} {W : World} {base : Nat} {spare : Nat → Bool} {held : Bool}
/-- an array of three lists of ints -/
theorem arr3s_arg {t e u : TypeId} {cs : Array Value} {d : DataW H} {p : List MemPlace} (ht : P.underlying t = some (.array 3 e)) (he : P.underlying e = some (.slice u)) (hu : P.underlying u = some (.int .i64)) (hc : P.cellsOf e = 1) (hcu : P.cellsOf u = 1) (h3 : P.cellsOf t = 3) (h : DataW.Trod enc P W base spare held t (.agg cs) d p) :
    ∃ A m c A' m' c' A2 m2 c2 xs xs' xs2, cs = #[.slice A m c, .slice A' m' c', .slice A2 m2 c2] ∧ Rd W.heap.size W 1 A m c (is xs) ∧ Rd W.heap.size W 1 A' m' c' (is xs') ∧ Rd W.heap.size W 1 A2 m2 c2 (is xs2) := by
  obtain ⟨fuel, hf⟩ := h
  obtain ⟨xs, n, _, _, hl, hx, hel⟩ := DataW.trod_array ht hf
  have e2 : (Value.agg cs).cells.toList = cs.toList := rfl
  rw [e2] at hl hel
  rw [h3] at hl
  generalize hcs : cs.toList = l at *
  match l, hl with
  | [v0, v1, v2], _ =>
    match xs, hx with
    | [x0, x1, x2], _ =>
      have h0 := hel 0 (by omega)
      have h1 := hel 1 (by omega)
      have h2 := hel 2 (by omega)
      simp only [hc, Nat.zero_mul, Nat.one_mul, Nat.mul_one, List.drop_zero, List.drop_succ_cons, List.take_succ_cons, List.take_zero, List.getElem?_cons_zero, List.getElem?_cons_succ] at h0 h1 h2
      obtain ⟨A, m, c, y, rfl, R0⟩ := ints_cell he hu hcu h0
      obtain ⟨A', m', c', y', rfl, R1⟩ := ints_cell he hu hcu h1
      obtain ⟨A2, m2, c2, y2, rfl, R2⟩ := ints_cell he hu hcu h2
      refine ⟨A, m, c, A', m', c', A2, m2, c2, y, y', y2, ?_, R0, R1, R2⟩
      rw [← Array.toArray_toList (xs := cs), hcs]
end
end Go.Proofs.Ytmdigamgojfjdaa
set_option linter.unusedVariables false
namespace Go.Proofs.Ytmdigamgojfjdaa
open Go.RowKit
theorem Try.arr50 : arrB Try.prog 50 3 = true := by kernel_rfl
theorem Try.nm39 : (Try.f39.name == "runtime.NumGoroutine") = false := by kernel_rfl
end Go.Proofs.Ytmdigamgojfjdaa
set_option linter.unusedSimpArgs false
set_option linter.unusedVariables false
namespace Go.Proofs.Ytmdigamgojfjdaa
open Go.RowKit
def V_pgcd (Fg : GFv) (p : List Int) (t : List Int) (Q : List Int → Prop) : Prop :=
  ∃ (I35 : List Int → List Int → Prop) (μ36 : List Int → List Int → Nat), I35 p t ∧ ∀ (x27 : List Int) (x31 : List Int), (I35 x27 x31 → (V_deg Fg x31 (fun r39 => (((0 : Int) ≤ r39) → (V_pdivmod Fg x27 x31 (fun q => match q with | (x42, x46, r50) => I35 x31 x46 ∧ μ36 x31 x46 < μ36 x27 x31))) ∧ (¬ ((0 : Int) ≤ r39) → (V_pmonic Fg x27 (fun q => match q with | (x52, r56) => Q x52))))))
theorem ok_pgcd {w : World} {Q : List Int → Prop} {Fg : GFv} {p : List Int} {t : List Int} {ag : Addr} {Bg : Nat} (hgg : GFR Bg w ag Fg) {Bp : Nat} {Ap : Option Addr} {np kp : Nat} (hp : Rd Bp w 1 Ap np kp (is p)) {Bt : Nat} {At : Option Addr} {nt kt : Nat} (ht : Rd Bt w 1 At nt kt (is t)) (hv : V_pgcd Fg p t Q) :
    Calls Try.prog 39 #[.pointer (some ag), .slice Ap np kp, .slice At nt kt] w fun e w' => ∃ v Qr, e = .returned v ∧ w.grownBy w' none ∧ Rows w.heap.size none w' Qr ∧ News w.heap.size Qr ∧ ∃ (r0 : List Int) (Ar0 : Option Addr) (cr0 : Nat), v = .slice Ar0 r0.length cr0 ∧ Qr = [.row 3 1 Ar0 r0.length cr0 (is r0)] ∧ Q r0 := by
  have hgg_ := hgg
  obtain ⟨Ag_mod, kg_mod, Ag_exp, kg_exp, Ag_log, kg_log, Ag_above, kg_above, hg_c, hg_mod, hg_exp, hg_log, hg_above⟩ := hgg_
  have hnp := hp.ilen
  subst hnp
  have hnt := ht.ilen
  subst hnt
  refine calls_swap ?_
  refine calls_of_W (vs := [.pointer (some ag), .slice Ap p.length kp, .slice At t.length kt]) [6] Try.func39 rfl rfl rfl rfl ?_
  have hS := St.start w
  unfold V_pgcd at hv
  refine W.seq ?_
  refine W.region ?_
  refine WL.assign rfl rfl ?_
  refine WL.done ?_
  refine W.seq ?_
  refine W.block ?_
  obtain ⟨I35, μ36, hv, hk57⟩ := hv
  have hS := hS.addRo hp
  have hS := hS.addRo ht
  have hS := hS.pick [1, 0] rfl
  change St _ _ _ _ [.ro 1 Ap p.length kp (is p), .ro 1 At t.length kt (is t)] at hS
  refine W.loop (σ := List Int × List Int × Option Addr × Nat × Option Addr × Nat) (fun q w1 => match q with | (x27, x31, A28, k29, A32, k33) => I35 x27 x31 ∧ St TT w none w1 [.ro 1 A28 x27.length k29 (is x27), .ro 1 A32 x31.length k33 (is x31)]) (fun q => match q with | (x27, x31, A28, k29, A32, k33) => [(0, .pointer (some ag)), (1, .slice A28 x27.length k29), (2, .slice A32 x31.length k33), (6, .slice none 0 0)]) (fun q => match q with | (x27, x31, A28, k29, A32, k33) => μ36 x27 x31) (p, t, Ap, kp, At, kt) ⟨hv, hS⟩ ⟨rfl, rfl, rfl, rfl, trivial⟩ ?_
  rintro ⟨x27, x31, A28, k29, A32, k33⟩ w37 ⟨hv, hS⟩
  have hv := hk57 x27 x31 hv
  refine W.seq ?_
  refine W.seq ?_
  refine W.region ?_
  refine WL.move rfl rfl ?_
  refine WL.move rfl rfl ?_
  refine SL.call hS (ok_deg (GFR.ext (GFR.norm hgg) hS.ext) (hS.rop (i := 1) rfl) hv) Try.func25 rfl Try.nm25 rfl rfl ?_
  rintro _ _ w38 ⟨r39, rfl, rfl, hv⟩ hGw38 hS
  change St _ _ _ _ [.ro 1 A28 x27.length k29 (is x27), .ro 1 A32 x31.length k33 (is x31)] at hS
  refine WL.geqD rfl rfl rfl ?_
  refine WL.done ?_
  refine W.cond2 rfl (fun c40 => ?_) (fun c40 => ?_)
  · have hv := hv.1 (of_decide_eq_true c40)
    refine W.skip ?_
    refine W.block ?_
    refine W.seq ?_
    refine W.region ?_
    refine WL.move rfl rfl ?_
    refine WL.move rfl rfl ?_
    refine WL.move rfl rfl ?_
    refine SL.call hS (ok_pdivmod (GFR.ext (GFR.norm hgg) hS.ext) (hS.rop (i := 0) rfl) (hS.rop (i := 1) rfl) hv) Try.func37 rfl Try.nm37 rfl rfl ?_
    rintro _ _ w41 ⟨x42, x46, r50, A43, k44, A47, k48, rfl, rfl, hv⟩ hGw41 hS
    change St _ _ _ _ [.row 3 1 A43 x42.length k44 (is x42), .row 3 1 A47 x46.length k48 (is x46), .ro 1 A28 x27.length k29 (is x27), .ro 1 A32 x31.length k33 (is x31)] at hS
    refine WL.move rfl rfl ?_
    refine WL.extract rfl rfl rfl ?_
    refine WL.extract rfl rfl rfl ?_
    refine WL.extract rfl rfl rfl ?_
    refine WL.assign rfl rfl ?_
    refine WL.assign rfl rfl ?_
    refine WL.assign rfl rfl ?_
    refine WL.done ?_
    refine W.region ?_
    refine WL.move rfl rfl ?_
    refine WL.move rfl rfl ?_
    refine WL.assign rfl rfl ?_
    refine WL.assign rfl rfl ?_
    refine WL.done ?_
    have hS := hS.freeze (i := 1) rfl
    have hS := hS.pick [3, 1] rfl
    change St _ _ _ _ [.ro 1 A32 x31.length k33 (is x31), .ro 1 A47 x46.length k48 (is x46)] at hS
    exact ⟨(x31, x46, A32, k33, A47, k48), ⟨rfl, rfl, rfl, rfl, trivial⟩, hv.2, rfl, hv.1, hS⟩
  · have hv := hv.2 (of_decide_eq_false c40)
    refine W.exit ?_
    refine W.seq ?_
    refine W.region ?_
    refine WL.move rfl rfl ?_
    refine WL.move rfl rfl ?_
    refine SL.call hS (ok_pmonic (GFR.ext (GFR.norm hgg) hS.ext) (hS.rop (i := 0) rfl) hv) Try.func36 rfl Try.nm36 rfl rfl ?_
    rintro _ _ w51 ⟨x52, r56, A53, k54, rfl, rfl, hv⟩ hGw51 hS
    change St _ _ _ _ [.row 3 1 A53 x52.length k54 (is x52), .ro 1 A28 x27.length k29 (is x27), .ro 1 A32 x31.length k33 (is x31)] at hS
    refine WL.move rfl rfl ?_
    refine WL.extract rfl rfl rfl ?_
    refine WL.extract rfl rfl rfl ?_
    refine WL.assign rfl rfl ?_
    refine WL.assign rfl rfl ?_
    refine WL.done ?_
    refine W.seq ?_
    refine W.region ?_
    refine WL.move rfl rfl ?_
    refine WL.assign rfl rfl ?_
    refine WL.done ?_
    refine W.ret ?_
    refine ⟨_, rfl, Fin.nil ?_⟩
    exact ⟨_, hS.ext, (hS.pick [0] rfl).rows, News.of (hS.pick [0] rfl).rows rfl, ⟨x52, A53, k54, rfl, rfl, hv⟩⟩

end Go.Proofs.Ytmdigamgojfjdaa
set_option linter.unusedSimpArgs false
set_option linter.unusedVariables false
namespace Go.Proofs.Ytmdigamgojfjdaa
open Go.RowKit
def V_PolyGcds (Pf : Int) (Mf : Int) (mf : List Int) (vv0 : List Int) (vv1 : List Int) (vv2 : List Int) (Q : Bool → Prop) : Prop :=
  V_alive  (fun r16 => (((!r16) = true) → Q false) ∧ ((!r16) = false → (V_made Pf Mf mf (fun q => match q with | none => Q true | some F21 => V_short ([vv0, vv1, vv2] : List (List Int)) (fun r51 => (((!r51) = true) → Q true) ∧ ((!r51) = false → (V_pgcd F21 vv0 vv1 (fun x54 => V_rdeg Pf Mf mf vv0 (fun r59 => ((r59 < (0 : Int)) → (V_rdeg Pf Mf mf vv1 (fun r62 => ((r62 < (0 : Int)) → (Q (decide (((x54.length : Nat) : Int) = (0 : Int))))) ∧ (¬ (r62 < (0 : Int)) → (((((x54.length : Nat) : Int) = (0 : Int)) → Q false) ∧ (¬ (((x54.length : Nat) : Int) = (0 : Int)) → (V_rmonic Pf Mf mf x54 (fun x66 => V_lsame x54 x66 (fun r71 => (((!r71) = true) → Q false) ∧ ((!r71) = false → (V_rrem Pf Mf mf vv0 x54 (fun x74 => (((0 : Int) < ((x74.length : Nat) : Int)) → Q false) ∧ (¬ ((0 : Int) < ((x74.length : Nat) : Int)) → (V_rrem Pf Mf mf vv1 x54 (fun x80 => (((0 : Int) < ((x80.length : Nat) : Int)) → Q false) ∧ (¬ ((0 : Int) < ((x80.length : Nat) : Int)) → (V_rdeg Pf Mf mf vv2 (fun r86 => ((r86 < (0 : Int)) → Q true) ∧ (¬ (r86 < (0 : Int)) → (V_rrem Pf Mf mf vv0 vv2 (fun x89 => (((0 : Int) < ((x89.length : Nat) : Int)) → Q true) ∧ (¬ ((0 : Int) < ((x89.length : Nat) : Int)) → (V_rrem Pf Mf mf vv1 vv2 (fun x95 => (((0 : Int) < ((x95.length : Nat) : Int)) → Q true) ∧ (¬ ((0 : Int) < ((x95.length : Nat) : Int)) → (V_rrem Pf Mf mf x54 vv2 (fun x101 => Q (decide (((x101.length : Nat) : Int) = (0 : Int)))))))))))))))))))))))))))))) ∧ (¬ (r59 < (0 : Int)) → (((((x54.length : Nat) : Int) = (0 : Int)) → Q false) ∧ (¬ (((x54.length : Nat) : Int) = (0 : Int)) → (V_rmonic Pf Mf mf x54 (fun x107 => V_lsame x54 x107 (fun r112 => (((!r112) = true) → Q false) ∧ ((!r112) = false → (V_rrem Pf Mf mf vv0 x54 (fun x115 => (((0 : Int) < ((x115.length : Nat) : Int)) → Q false) ∧ (¬ ((0 : Int) < ((x115.length : Nat) : Int)) → (V_rrem Pf Mf mf vv1 x54 (fun x121 => (((0 : Int) < ((x121.length : Nat) : Int)) → Q false) ∧ (¬ ((0 : Int) < ((x121.length : Nat) : Int)) → (V_rdeg Pf Mf mf vv2 (fun r127 => ((r127 < (0 : Int)) → Q true) ∧ (¬ (r127 < (0 : Int)) → (V_rrem Pf Mf mf vv0 vv2 (fun x130 => (((0 : Int) < ((x130.length : Nat) : Int)) → Q true) ∧ (¬ ((0 : Int) < ((x130.length : Nat) : Int)) → (V_rrem Pf Mf mf vv1 vv2 (fun x136 => (((0 : Int) < ((x136.length : Nat) : Int)) → Q true) ∧ (¬ ((0 : Int) < ((x136.length : Nat) : Int)) → (V_rrem Pf Mf mf x54 vv2 (fun x142 => Q (decide (((x142.length : Nat) : Int) = (0 : Int))))))))))))))))))))))))))))))))))))
theorem ok_PolyGcds {w : World} {Q : Bool → Prop} {Pf : Int} {Mf : Int} {mf : List Int} {vv0 : List Int} {vv1 : List Int} {vv2 : List Int} {Bf : Nat} {Af : Option Addr} {nf kf : Nat} (hf : Rd Bf w 1 Af nf kf (is mf)) {Bvv0 : Nat} {Avv0 : Option Addr} {nvv0 kvv0 : Nat} (hvv0 : Rd Bvv0 w 1 Avv0 nvv0 kvv0 (is vv0)) {Bvv1 : Nat} {Avv1 : Option Addr} {nvv1 kvv1 : Nat} (hvv1 : Rd Bvv1 w 1 Avv1 nvv1 kvv1 (is vv1)) {Bvv2 : Nat} {Avv2 : Option Addr} {nvv2 kvv2 : Nat} (hvv2 : Rd Bvv2 w 1 Avv2 nvv2 kvv2 (is vv2)) (hv : V_PolyGcds Pf Mf mf vv0 vv1 vv2 Q) :
    Calls Try.prog 9 #[.agg #[.int .i64 Pf, .int .i64 Mf, .slice Af nf kf], .agg #[.slice Avv0 nvv0 kvv0, .slice Avv1 nvv1 kvv1, .slice Avv2 nvv2 kvv2]] w fun e w' => ∃ v Qr, e = .returned v ∧ w.grownBy w' none ∧ Rows w.heap.size none w' Qr ∧ News w.heap.size Qr ∧ ∃ (r0 : Bool), v = .bool r0 ∧ Qr = [] ∧ Q r0 := by
  have hnf := hf.ilen
  subst hnf
  have hnvv0 := hvv0.ilen
  subst hnvv0
  have hnvv1 := hvv1.ilen
  subst hnvv1
  have hnvv2 := hvv2.ilen
  subst hnvv2
  refine calls_swap ?_
  refine calls_of_W (vs := [.agg #[.int .i64 Pf, .int .i64 Mf, .slice Af mf.length kf], .agg #[.slice Avv0 vv0.length kvv0, .slice Avv1 vv1.length kvv1, .slice Avv2 vv2.length kvv2]]) [4] Try.func9 rfl rfl rfl rfl ?_
  have hS := St.start w
  unfold V_PolyGcds at hv
  refine W.seq ?_
  refine W.region ?_
  refine SL.box (z := 3) (cs := [.int .i64 Pf, .int .i64 Mf, .slice Af mf.length kf]) hS rfl rfl rfl rfl ?_
  intro g11 w12 hS
  refine SL.box (z := 3) (cs := [.slice Avv0 vv0.length kvv0, .slice Avv1 vv1.length kvv1, .slice Avv2 vv2.length kvv2]) hS rfl rfl rfl rfl ?_
  intro g13 w14 hS
  refine WL.assign rfl rfl ?_
  refine WL.done ?_
  refine W.seq ?_
  refine W.seq ?_
  refine W.region ?_
  refine SL.call hS (ok_alive  hv) Try.func20 rfl Try.nm20 rfl rfl ?_
  rintro _ _ w15 ⟨r16, rfl, rfl, hv⟩ hGw15 hS
  change St _ _ _ _ [.row 50 3 (some ⟨g13, 0, none⟩) 1 1 [.slice Avv0 vv0.length kvv0, .slice Avv1 vv1.length kvv1, .slice Avv2 vv2.length kvv2], .row 24 3 (some ⟨g11, 0, none⟩) 1 1 [.int .i64 Pf, .int .i64 Mf, .slice Af mf.length kf]] at hS
  refine WL.not rfl rfl ?_
  refine WL.done ?_
  refine W.cond2 rfl (fun c17 => ?_) (fun c17 => ?_)
  · have hv := hv.1 (c17)
    refine W.seq ?_
    refine W.region ?_
    refine WL.assign rfl rfl ?_
    refine WL.done ?_
    refine W.ret ?_
    refine ⟨_, rfl, Fin.nil ?_⟩
    exact ⟨_, hS.ext, (hS.pick [] rfl).rows, News.of (hS.pick [] rfl).rows rfl, ⟨false, rfl, rfl, hv⟩⟩
  · have hv := hv.2 (c17)
    refine W.skip ?_
    refine W.seq ?_
    refine W.region ?_
    refine WL.loadV (cs := [.int .i64 Pf, .int .i64 Mf, .slice Af mf.length kf]) Try.el24 Try.agg24 rfl rfl (Own.vcells (hS.own (i := 1) rfl)) rfl ?_
    refine SL.call hS (ok_made (hS.ro hf) hv) Try.func21 rfl Try.nm21 rfl rfl ?_
    rintro _ _ w19 ⟨o, hv, hK⟩ hGw19 hS
    cases o with
    | none =>
      obtain ⟨rfl, rfl⟩ := hK
      change St _ _ _ _ [.row 50 3 (some ⟨g13, 0, none⟩) 1 1 [.slice Avv0 vv0.length kvv0, .slice Avv1 vv1.length kvv1, .slice Avv2 vv2.length kvv2], .row 24 3 (some ⟨g11, 0, none⟩) 1 1 [.int .i64 Pf, .int .i64 Mf, .slice Af mf.length kf]] at hS
      refine WL.assign rfl rfl ?_
      refine WL.done ?_
      refine W.seq ?_
      have hS0 := hS
      refine W.drawX 9 (fun _ => false) (fun _ => none) [⟨[], [3], true⟩, ⟨[0], [], false⟩, ⟨[], [3], true⟩, ⟨[2], [], false⟩, ⟨[], [3], true⟩, ⟨[4], [], false⟩, ⟨[1], [], true⟩, ⟨[3], [], true⟩, ⟨[5], [], true⟩] [[(3, .pointer (some ⟨g13, 0, none⟩))], [], [(3, .pointer (some ⟨g13, 0, none⟩))], [], [(3, .pointer (some ⟨g13, 0, none⟩))], [], [], [], []] (fun iQ => [fun v _ => v = .pointer (some ⟨g13, 0, none⟩), fun v _ => v = .slice Avv0 vv0.length kvv0, fun v _ => v = .pointer (some ((⟨g13, 0, none⟩ : Addr).add 1)), fun v _ => v = .slice Avv1 vv1.length kvv1, fun v _ => v = .pointer (some ((⟨g13, 0, none⟩ : Addr).add 2)), fun v _ => v = .slice Avv2 vv2.length kvv2, fun v _ => v = .slice Avv0 vv0.length kvv0, fun v _ => v = .slice Avv1 vv1.length kvv1, fun v _ => v = .slice Avv2 vv2.length kvv2].getD iQ (fun _ _ => True)) Try.mixed (by kernel_rfl) ?_ (by kernel_rfl) ?_ ?_
      · refine Vs_monoT _ ?_
        intro VQ hVQ vQ wQ1 wQ2 hQ1 hQ2
        simp only [List.mem_cons, List.not_mem_nil, or_false] at hVQ
        rcases hVQ with rfl | rfl | rfl | rfl | rfl | rfl | rfl | rfl | rfl
        · exact hQ1
        · exact hQ1
        · exact hQ1
        · exact hQ1
        · exact hQ1
        · exact hQ1
        · exact hQ1
        · exact hQ1
        · exact hQ1
      · refine ⟨⟨rfl, ⟨rfl, trivial⟩, ?_⟩, ⟨rfl, trivial, ?_⟩, ⟨rfl, ⟨rfl, trivial⟩, ?_⟩, ⟨rfl, trivial, ?_⟩, ⟨rfl, ⟨rfl, trivial⟩, ?_⟩, ⟨rfl, trivial, ?_⟩, ⟨rfl, trivial, ?_⟩, ⟨rfl, trivial, ?_⟩, ⟨rfl, trivial, ?_⟩, trivial⟩
        · intro w27 hE
          intro RR
          refine WL.indexP 0 Try.arr50 rfl rfl rfl (by decide) rfl rfl ?_
          exact WL.done ⟨_, rfl, rfl, rfl, (fun h => absurd h (by decide)), (fun j h => by cases h)⟩
        · intro w28 hE
          have hE := hE rfl
          have hS := hS.grow hE
          rintro _ rfl
          intro RR
          refine WL.load Try.underlying22 rfl rfl (Own.vcells (hS.own (i := 0) rfl) 0 _ rfl) rfl ?_
          exact WL.done ⟨_, rfl, ext_refl _, rfl, (fun h => absurd h (by decide)), (fun j h => by cases h)⟩
        · intro w29 hE
          intro RR
          refine WL.indexP 1 Try.arr50 rfl rfl rfl (by decide) rfl rfl ?_
          exact WL.done ⟨_, rfl, rfl, rfl, (fun h => absurd h (by decide)), (fun j h => by cases h)⟩
        · intro w30 hE
          have hE := hE rfl
          have hS := hS.grow hE
          rintro _ rfl
          intro RR
          refine WL.load Try.underlying22 rfl rfl (Own.vcells (hS.own (i := 0) rfl) 1 _ rfl) rfl ?_
          exact WL.done ⟨_, rfl, ext_refl _, rfl, (fun h => absurd h (by decide)), (fun j h => by cases h)⟩
        · intro w31 hE
          intro RR
          refine WL.indexP 2 Try.arr50 rfl rfl rfl (by decide) rfl rfl ?_
          exact WL.done ⟨_, rfl, rfl, rfl, (fun h => absurd h (by decide)), (fun j h => by cases h)⟩
        · intro w32 hE
          have hE := hE rfl
          have hS := hS.grow hE
          rintro _ rfl
          intro RR
          refine WL.load Try.underlying22 rfl rfl (Own.vcells (hS.own (i := 0) rfl) 2 _ rfl) rfl ?_
          exact WL.done ⟨_, rfl, ext_refl _, rfl, (fun h => absurd h (by decide)), (fun j h => by cases h)⟩
        · intro w33 hE
          rintro _ rfl
          intro RR
          refine WL.assign rfl rfl ?_
          exact WL.done ⟨_, rfl, rfl, rfl, (fun h => absurd h (by decide)), (fun j h => by cases h)⟩
        · intro w34 hE
          rintro _ rfl
          intro RR
          refine WL.assign rfl rfl ?_
          exact WL.done ⟨_, rfl, rfl, rfl, (fun h => absurd h (by decide)), (fun j h => by cases h)⟩
        · intro w35 hE
          rintro _ rfl
          intro RR
          refine WL.assign rfl rfl ?_
          exact WL.done ⟨_, rfl, rfl, rfl, (fun h => absurd h (by decide)), (fun j h => by cases h)⟩
      · intro vals w36 hT hVs hAp hCp
        have hS := hS.grow hT
        have hv0 : vals 0 = _ := hVs 0 (by decide)
        have hv1 : vals 1 = _ := hVs 1 (by decide)
        have hv2 : vals 2 = _ := hVs 2 (by decide)
        have hv3 : vals 3 = _ := hVs 3 (by decide)
        have hv4 : vals 4 = _ := hVs 4 (by decide)
        have hv5 : vals 5 = _ := hVs 5 (by decide)
        have hv6 : vals 6 = _ := hVs 6 (by decide)
        have hv7 : vals 7 = _ := hVs 7 (by decide)
        have hv8 : vals 8 = _ := hVs 8 (by decide)
        rw [show (List.filterMap (fun i => Option.map (fun t => (t, vals i)) (dstAt _ i)) (List.range _)) = [(14, .pointer (some ⟨g13, 0, none⟩)), (15, .slice Avv0 vv0.length kvv0), (16, .pointer (some ((⟨g13, 0, none⟩ : Addr).add 1))), (17, .slice Avv1 vv1.length kvv1), (18, .pointer (some ((⟨g13, 0, none⟩ : Addr).add 2))), (19, .slice Avv2 vv2.length kvv2), (6, .slice Avv0 vv0.length kvv0), (7, .slice Avv1 vv1.length kvv1), (8, .slice Avv2 vv2.length kvv2)] from by
          show [(14, vals 0), (15, vals 1), (16, vals 2), (17, vals 3), (18, vals 4), (19, vals 5), (6, vals 6), (7, vals 7), (8, vals 8)] = _
          rw [hv0, hv1, hv2, hv3, hv4, hv5, hv6, hv7, hv8]]
        refine WA.done (by decide +kernel) ?_
        refine W.seq ?_
        refine W.seq ?_
        refine W.region ?_
        refine WL.move rfl rfl ?_
        refine WL.eqlPn Try.underlying26 rfl rfl rfl rfl ?_
        refine WL.move rfl rfl ?_
        refine WL.pass rfl rfl rfl ?_
        refine WL.pass rfl rfl rfl ?_
        refine WL.pass rfl rfl rfl ?_
        refine WL.pass rfl rfl rfl ?_
        refine WL.pass rfl rfl rfl ?_
        refine WL.pass rfl rfl rfl ?_
        refine WL.pick rfl rfl rfl ?_
        refine WL.done ?_
        refine W.condT rfl ?_
        refine W.seq ?_
        refine W.region ?_
        refine WL.assign rfl rfl ?_
        refine WL.done ?_
        refine W.ret ?_
        refine ⟨_, rfl, Fin.nil ?_⟩
        exact ⟨_, hS.ext, (hS.pick [] rfl).rows, News.of (hS.pick [] rfl).rows rfl, ⟨true, rfl, rfl, hv⟩⟩
    | some F21 =>
      obtain ⟨ad22, lo23, hi24, rfl, rfl⟩ := hK
      change St _ _ _ _ [.ch lo23 hi24 (fun wz => GFX lo23 hi24 wz ad22 F21), .row 50 3 (some ⟨g13, 0, none⟩) 1 1 [.slice Avv0 vv0.length kvv0, .slice Avv1 vv1.length kvv1, .slice Avv2 vv2.length kvv2], .row 24 3 (some ⟨g11, 0, none⟩) 1 1 [.int .i64 Pf, .int .i64 Mf, .slice Af mf.length kf]] at hS
      refine WL.assign rfl rfl ?_
      refine WL.done ?_
      refine W.seq ?_
      have hS0 := hS
      refine W.drawX 9 (fun _ => false) (fun _ => none) [⟨[], [3], true⟩, ⟨[0], [], false⟩, ⟨[], [3], true⟩, ⟨[2], [], false⟩, ⟨[], [3], true⟩, ⟨[4], [], false⟩, ⟨[1], [], true⟩, ⟨[3], [], true⟩, ⟨[5], [], true⟩] [[(3, .pointer (some ⟨g13, 0, none⟩))], [], [(3, .pointer (some ⟨g13, 0, none⟩))], [], [(3, .pointer (some ⟨g13, 0, none⟩))], [], [], [], []] (fun iQ => [fun v _ => v = .pointer (some ⟨g13, 0, none⟩), fun v _ => v = .slice Avv0 vv0.length kvv0, fun v _ => v = .pointer (some ((⟨g13, 0, none⟩ : Addr).add 1)), fun v _ => v = .slice Avv1 vv1.length kvv1, fun v _ => v = .pointer (some ((⟨g13, 0, none⟩ : Addr).add 2)), fun v _ => v = .slice Avv2 vv2.length kvv2, fun v _ => v = .slice Avv0 vv0.length kvv0, fun v _ => v = .slice Avv1 vv1.length kvv1, fun v _ => v = .slice Avv2 vv2.length kvv2].getD iQ (fun _ _ => True)) Try.mixed (by kernel_rfl) ?_ (by kernel_rfl) ?_ ?_
      · refine Vs_monoT _ ?_
        intro VQ hVQ vQ wQ1 wQ2 hQ1 hQ2
        simp only [List.mem_cons, List.not_mem_nil, or_false] at hVQ
        rcases hVQ with rfl | rfl | rfl | rfl | rfl | rfl | rfl | rfl | rfl
        · exact hQ1
        · exact hQ1
        · exact hQ1
        · exact hQ1
        · exact hQ1
        · exact hQ1
        · exact hQ1
        · exact hQ1
        · exact hQ1
      · refine ⟨⟨rfl, ⟨rfl, trivial⟩, ?_⟩, ⟨rfl, trivial, ?_⟩, ⟨rfl, ⟨rfl, trivial⟩, ?_⟩, ⟨rfl, trivial, ?_⟩, ⟨rfl, ⟨rfl, trivial⟩, ?_⟩, ⟨rfl, trivial, ?_⟩, ⟨rfl, trivial, ?_⟩, ⟨rfl, trivial, ?_⟩, ⟨rfl, trivial, ?_⟩, trivial⟩
        · intro w37 hE
          intro RR
          refine WL.indexP 0 Try.arr50 rfl rfl rfl (by decide) rfl rfl ?_
          exact WL.done ⟨_, rfl, rfl, rfl, (fun h => absurd h (by decide)), (fun j h => by cases h)⟩
        · intro w38 hE
          have hE := hE rfl
          have hS := hS.grow hE
          rintro _ rfl
          intro RR
          refine WL.load Try.underlying22 rfl rfl (Own.vcells (hS.own (i := 1) rfl) 0 _ rfl) rfl ?_
          exact WL.done ⟨_, rfl, ext_refl _, rfl, (fun h => absurd h (by decide)), (fun j h => by cases h)⟩
        · intro w39 hE
          intro RR
          refine WL.indexP 1 Try.arr50 rfl rfl rfl (by decide) rfl rfl ?_
          exact WL.done ⟨_, rfl, rfl, rfl, (fun h => absurd h (by decide)), (fun j h => by cases h)⟩
        · intro w40 hE
          have hE := hE rfl
          have hS := hS.grow hE
          rintro _ rfl
          intro RR
          refine WL.load Try.underlying22 rfl rfl (Own.vcells (hS.own (i := 1) rfl) 1 _ rfl) rfl ?_
          exact WL.done ⟨_, rfl, ext_refl _, rfl, (fun h => absurd h (by decide)), (fun j h => by cases h)⟩
        · intro w41 hE
          intro RR
          refine WL.indexP 2 Try.arr50 rfl rfl rfl (by decide) rfl rfl ?_
          exact WL.done ⟨_, rfl, rfl, rfl, (fun h => absurd h (by decide)), (fun j h => by cases h)⟩
        · intro w42 hE
          have hE := hE rfl
          have hS := hS.grow hE
          rintro _ rfl
          intro RR
          refine WL.load Try.underlying22 rfl rfl (Own.vcells (hS.own (i := 1) rfl) 2 _ rfl) rfl ?_
          exact WL.done ⟨_, rfl, ext_refl _, rfl, (fun h => absurd h (by decide)), (fun j h => by cases h)⟩
        · intro w43 hE
          rintro _ rfl
          intro RR
          refine WL.assign rfl rfl ?_
          exact WL.done ⟨_, rfl, rfl, rfl, (fun h => absurd h (by decide)), (fun j h => by cases h)⟩
        · intro w44 hE
          rintro _ rfl
          intro RR
          refine WL.assign rfl rfl ?_
          exact WL.done ⟨_, rfl, rfl, rfl, (fun h => absurd h (by decide)), (fun j h => by cases h)⟩
        · intro w45 hE
          rintro _ rfl
          intro RR
          refine WL.assign rfl rfl ?_
          exact WL.done ⟨_, rfl, rfl, rfl, (fun h => absurd h (by decide)), (fun j h => by cases h)⟩
      · intro vals w46 hT hVs hAp hCp
        have hS := hS.grow hT
        have hv0 : vals 0 = _ := hVs 0 (by decide)
        have hv1 : vals 1 = _ := hVs 1 (by decide)
        have hv2 : vals 2 = _ := hVs 2 (by decide)
        have hv3 : vals 3 = _ := hVs 3 (by decide)
        have hv4 : vals 4 = _ := hVs 4 (by decide)
        have hv5 : vals 5 = _ := hVs 5 (by decide)
        have hv6 : vals 6 = _ := hVs 6 (by decide)
        have hv7 : vals 7 = _ := hVs 7 (by decide)
        have hv8 : vals 8 = _ := hVs 8 (by decide)
        rw [show (List.filterMap (fun i => Option.map (fun t => (t, vals i)) (dstAt _ i)) (List.range _)) = [(14, .pointer (some ⟨g13, 0, none⟩)), (15, .slice Avv0 vv0.length kvv0), (16, .pointer (some ((⟨g13, 0, none⟩ : Addr).add 1))), (17, .slice Avv1 vv1.length kvv1), (18, .pointer (some ((⟨g13, 0, none⟩ : Addr).add 2))), (19, .slice Avv2 vv2.length kvv2), (6, .slice Avv0 vv0.length kvv0), (7, .slice Avv1 vv1.length kvv1), (8, .slice Avv2 vv2.length kvv2)] from by
          show [(14, vals 0), (15, vals 1), (16, vals 2), (17, vals 3), (18, vals 4), (19, vals 5), (6, vals 6), (7, vals 7), (8, vals 8)] = _
          rw [hv0, hv1, hv2, hv3, hv4, hv5, hv6, hv7, hv8]]
        refine WA.done (by decide +kernel) ?_
        refine W.seq ?_
        refine W.seq ?_
        refine W.region ?_
        refine WL.move rfl rfl ?_
        refine WL.eqlPn Try.underlying26 rfl rfl rfl rfl ?_
        refine WL.move rfl rfl ?_
        refine WL.take rfl ?_
        refine WL.move rfl rfl ?_
        refine WL.take rfl ?_
        refine WL.move rfl rfl ?_
        refine WL.take rfl ?_
        refine WL.move rfl rfl ?_
        refine WL.take rfl ?_
        refine SL.lit1 (vs := [.slice Avv0 vv0.length kvv0, .slice Avv1 vv1.length kvv1, .slice Avv2 vv2.length kvv2]) hS Try.underlying37 Try.el22 rfl rfl rfl rfl (by simp [Value.oneCell']) rfl ?_
        intro A47 w48 hS
        refine WL.take rfl ?_
        refine SL.call hS (ok_short (ls := ([vv0, vv1, vv2] : List (List Int))) ⟨_, _, (hS.rd (i := 0) rfl), ⟨⟨_, _, _, rfl, (Rd.is_m (hS.ro hvv0))⟩, ⟨_, _, _, rfl, (Rd.is_m (hS.ro hvv1))⟩, ⟨_, _, _, rfl, (Rd.is_m (hS.ro hvv2))⟩, trivial⟩⟩ hv) Try.func26 rfl Try.nm26 rfl rfl ?_
        rintro _ _ w50 ⟨r51, rfl, rfl, hv⟩ hGw50 hS
        change St _ _ _ _ [.row 22 1 A47 3 3 [.slice Avv0 vv0.length kvv0, .slice Avv1 vv1.length kvv1, .slice Avv2 vv2.length kvv2], .ch lo23 hi24 (fun wz => GFX lo23 hi24 wz ad22 F21), .row 50 3 (some ⟨g13, 0, none⟩) 1 1 [.slice Avv0 vv0.length kvv0, .slice Avv1 vv1.length kvv1, .slice Avv2 vv2.length kvv2], .row 24 3 (some ⟨g11, 0, none⟩) 1 1 [.int .i64 Pf, .int .i64 Mf, .slice Af mf.length kf]] at hS
        refine WL.take rfl ?_
        refine WL.not rfl rfl ?_
        refine WL.pick rfl rfl rfl ?_
        refine WL.done ?_
        refine W.cond2 rfl (fun c52 => ?_) (fun c52 => ?_)
        · have hv := hv.1 (c52)
          refine W.seq ?_
          refine W.region ?_
          refine WL.assign rfl rfl ?_
          refine WL.done ?_
          refine W.ret ?_
          refine ⟨_, rfl, Fin.nil ?_⟩
          exact ⟨_, hS.ext, (hS.pick [] rfl).rows, News.of (hS.pick [] rfl).rows rfl, ⟨true, rfl, rfl, hv⟩⟩
        · have hv := hv.2 (c52)
          refine W.skip ?_
          refine W.seq ?_
          refine W.region ?_
          refine WL.move rfl rfl ?_
          refine WL.move rfl rfl ?_
          refine WL.move rfl rfl ?_
          refine SL.call hS (ok_pgcd (GFX.gfr (hS.chunk (i := 1) rfl)) (hS.ro hvv0) (hS.ro hvv1) hv) Try.func39 rfl Try.nm39 rfl rfl ?_
          rintro _ _ w53 ⟨x54, A55, k56, rfl, rfl, hv⟩ hGw53 hS
          change St _ _ _ _ [.row 3 1 A55 x54.length k56 (is x54), .row 22 1 A47 3 3 [.slice Avv0 vv0.length kvv0, .slice Avv1 vv1.length kvv1, .slice Avv2 vv2.length kvv2], .ch lo23 hi24 (fun wz => GFX lo23 hi24 wz ad22 F21), .row 50 3 (some ⟨g13, 0, none⟩) 1 1 [.slice Avv0 vv0.length kvv0, .slice Avv1 vv1.length kvv1, .slice Avv2 vv2.length kvv2], .row 24 3 (some ⟨g11, 0, none⟩) 1 1 [.int .i64 Pf, .int .i64 Mf, .slice Af mf.length kf]] at hS
          refine WL.assign rfl rfl ?_
          refine WL.done ?_
          refine W.seq ?_
          refine W.seq ?_
          refine W.region ?_
          refine WL.loadV (cs := [.int .i64 Pf, .int .i64 Mf, .slice Af mf.length kf]) Try.el24 Try.agg24 rfl rfl (Own.vcells (hS.own (i := 4) rfl)) rfl ?_
          refine WL.move rfl rfl ?_
          refine SL.call hS (ok_rdeg (hS.ro hf) (hS.ro hvv0) hv) Try.func38 rfl Try.nm38 rfl rfl ?_
          rintro _ _ w58 ⟨r59, rfl, rfl, hv⟩ hGw58 hS
          change St _ _ _ _ [.row 3 1 A55 x54.length k56 (is x54), .row 22 1 A47 3 3 [.slice Avv0 vv0.length kvv0, .slice Avv1 vv1.length kvv1, .slice Avv2 vv2.length kvv2], .ch lo23 hi24 (fun wz => GFX lo23 hi24 wz ad22 F21), .row 50 3 (some ⟨g13, 0, none⟩) 1 1 [.slice Avv0 vv0.length kvv0, .slice Avv1 vv1.length kvv1, .slice Avv2 vv2.length kvv2], .row 24 3 (some ⟨g11, 0, none⟩) 1 1 [.int .i64 Pf, .int .i64 Mf, .slice Af mf.length kf]] at hS
          refine WL.lssD rfl rfl rfl ?_
          refine WL.move rfl rfl ?_
          by_cases g60 : r59 < (0 : Int)
          · have hv := hv.1 g60
            rw [decide_eq_true g60]
            refine WL.take rfl ?_
            refine WL.loadV (cs := [.int .i64 Pf, .int .i64 Mf, .slice Af mf.length kf]) Try.el24 Try.agg24 rfl rfl (Own.vcells (hS.own (i := 4) rfl)) rfl ?_
            refine WL.take rfl ?_
            refine WL.move rfl rfl ?_
            refine WL.take rfl ?_
            refine SL.call hS (ok_rdeg (hS.ro hf) (hS.ro hvv1) hv) Try.func38 rfl Try.nm38 rfl rfl ?_
            rintro _ _ w61 ⟨r62, rfl, rfl, hv⟩ hGw61 hS
            change St _ _ _ _ [.row 3 1 A55 x54.length k56 (is x54), .row 22 1 A47 3 3 [.slice Avv0 vv0.length kvv0, .slice Avv1 vv1.length kvv1, .slice Avv2 vv2.length kvv2], .ch lo23 hi24 (fun wz => GFX lo23 hi24 wz ad22 F21), .row 50 3 (some ⟨g13, 0, none⟩) 1 1 [.slice Avv0 vv0.length kvv0, .slice Avv1 vv1.length kvv1, .slice Avv2 vv2.length kvv2], .row 24 3 (some ⟨g11, 0, none⟩) 1 1 [.int .i64 Pf, .int .i64 Mf, .slice Af mf.length kf]] at hS
            refine WL.take rfl ?_
            refine WL.lssD rfl rfl rfl ?_
            refine WL.pick rfl rfl rfl ?_
            refine WL.done ?_
            refine W.cond2 rfl (fun c63 => ?_) (fun c63 => ?_)
            · have hv := hv.1 (of_decide_eq_true c63)
              refine W.seq ?_
              refine W.region ?_
              refine WL.move rfl rfl ?_
              refine WL.len Try.underlying22 rfl rfl ?_
              refine WL.eqlD rfl rfl rfl ?_
              refine WL.assign rfl rfl ?_
              refine WL.done ?_
              refine W.ret ?_
              refine ⟨_, rfl, Fin.nil ?_⟩
              exact ⟨_, hS.ext, (hS.pick [] rfl).rows, News.of (hS.pick [] rfl).rows rfl, ⟨(decide (((x54.length : Nat) : Int) = (0 : Int))), rfl, rfl, hv⟩⟩
            · have hv := hv.2 (of_decide_eq_false c63)
              refine W.skip ?_
              refine W.seq ?_
              refine W.seq ?_
              refine W.region ?_
              refine WL.move rfl rfl ?_
              refine WL.len Try.underlying22 rfl rfl ?_
              refine WL.eqlD rfl rfl rfl ?_
              refine WL.move rfl rfl ?_
              by_cases g64 : ((x54.length : Nat) : Int) = (0 : Int)
              · have hv := hv.1 g64
                rw [decide_eq_true g64]
                refine WL.pass rfl rfl rfl ?_
                refine WL.pass rfl rfl rfl ?_
                refine WL.pass rfl rfl rfl ?_
                refine WL.pass rfl rfl rfl ?_
                refine WL.pass rfl rfl rfl ?_
                refine WL.pass rfl rfl rfl ?_
                refine WL.pick rfl rfl rfl ?_
                refine WL.move rfl rfl ?_
                refine WL.pass rfl rfl rfl ?_
                refine WL.pass rfl rfl rfl ?_
                refine WL.pass rfl rfl rfl ?_
                refine WL.pass rfl rfl rfl ?_
                refine WL.pass rfl rfl rfl ?_
                refine WL.pass rfl rfl rfl ?_
                refine WL.pick rfl rfl rfl ?_
                refine WL.move rfl rfl ?_
                refine WL.pass rfl rfl rfl ?_
                refine WL.pass rfl rfl rfl ?_
                refine WL.pass rfl rfl rfl ?_
                refine WL.pass rfl rfl rfl ?_
                refine WL.pass rfl rfl rfl ?_
                refine WL.pass rfl rfl rfl ?_
                refine WL.pick rfl rfl rfl ?_
                refine WL.done ?_
                refine W.condT rfl ?_
                refine W.seq ?_
                refine W.region ?_
                refine WL.assign rfl rfl ?_
                refine WL.done ?_
                refine W.ret ?_
                refine ⟨_, rfl, Fin.nil ?_⟩
                exact ⟨_, hS.ext, (hS.pick [] rfl).rows, News.of (hS.pick [] rfl).rows rfl, ⟨false, rfl, rfl, hv⟩⟩
              · have hv := hv.2 g64
                rw [decide_eq_false g64]
                refine WL.take rfl ?_
                refine WL.move rfl rfl ?_
                refine WL.take rfl ?_
                refine WL.loadV (cs := [.int .i64 Pf, .int .i64 Mf, .slice Af mf.length kf]) Try.el24 Try.agg24 rfl rfl (Own.vcells (hS.own (i := 4) rfl)) rfl ?_
                refine WL.take rfl ?_
                refine WL.move rfl rfl ?_
                refine WL.take rfl ?_
                refine SL.call hS (ok_rmonic (hS.ro hf) (hS.rd (i := 0) rfl) hv) Try.func40 rfl Try.nm40 rfl rfl ?_
                rintro _ _ w65 ⟨x66, A67, k68, rfl, rfl, hv⟩ hGw65 hS
                change St _ _ _ _ [.row 3 1 A67 x66.length k68 (is x66), .row 3 1 A55 x54.length k56 (is x54), .row 22 1 A47 3 3 [.slice Avv0 vv0.length kvv0, .slice Avv1 vv1.length kvv1, .slice Avv2 vv2.length kvv2], .ch lo23 hi24 (fun wz => GFX lo23 hi24 wz ad22 F21), .row 50 3 (some ⟨g13, 0, none⟩) 1 1 [.slice Avv0 vv0.length kvv0, .slice Avv1 vv1.length kvv1, .slice Avv2 vv2.length kvv2], .row 24 3 (some ⟨g11, 0, none⟩) 1 1 [.int .i64 Pf, .int .i64 Mf, .slice Af mf.length kf]] at hS
                refine WL.take rfl ?_
                refine SL.call hS (ok_lsame (hS.rd (i := 1) rfl) (hS.rd (i := 0) rfl) hv) Try.func23 rfl Try.nm23 rfl rfl ?_
                rintro _ _ w70 ⟨r71, rfl, rfl, hv⟩ hGw70 hS
                change St _ _ _ _ [.row 3 1 A67 x66.length k68 (is x66), .row 3 1 A55 x54.length k56 (is x54), .row 22 1 A47 3 3 [.slice Avv0 vv0.length kvv0, .slice Avv1 vv1.length kvv1, .slice Avv2 vv2.length kvv2], .ch lo23 hi24 (fun wz => GFX lo23 hi24 wz ad22 F21), .row 50 3 (some ⟨g13, 0, none⟩) 1 1 [.slice Avv0 vv0.length kvv0, .slice Avv1 vv1.length kvv1, .slice Avv2 vv2.length kvv2], .row 24 3 (some ⟨g11, 0, none⟩) 1 1 [.int .i64 Pf, .int .i64 Mf, .slice Af mf.length kf]] at hS
                refine WL.take rfl ?_
                refine WL.not rfl rfl ?_
                refine WL.pick rfl rfl rfl ?_
                refine WL.move rfl rfl ?_
                rcases g72 : (!r71) with _ | _
                · have hv := hv.2 g72
                  refine WL.take rfl ?_
                  refine WL.loadV (cs := [.int .i64 Pf, .int .i64 Mf, .slice Af mf.length kf]) Try.el24 Try.agg24 rfl rfl (Own.vcells (hS.own (i := 5) rfl)) rfl ?_
                  refine WL.take rfl ?_
                  refine WL.move rfl rfl ?_
                  refine WL.take rfl ?_
                  refine WL.move rfl rfl ?_
                  refine WL.take rfl ?_
                  refine SL.call hS (ok_rrem (hS.ro hf) (hS.ro hvv0) (hS.rd (i := 1) rfl) hv) Try.func41 rfl Try.nm41 rfl rfl ?_
                  rintro _ _ w73 ⟨x74, A75, k76, rfl, rfl, hv⟩ hGw73 hS
                  change St _ _ _ _ [.row 3 1 A75 x74.length k76 (is x74), .row 3 1 A67 x66.length k68 (is x66), .row 3 1 A55 x54.length k56 (is x54), .row 22 1 A47 3 3 [.slice Avv0 vv0.length kvv0, .slice Avv1 vv1.length kvv1, .slice Avv2 vv2.length kvv2], .ch lo23 hi24 (fun wz => GFX lo23 hi24 wz ad22 F21), .row 50 3 (some ⟨g13, 0, none⟩) 1 1 [.slice Avv0 vv0.length kvv0, .slice Avv1 vv1.length kvv1, .slice Avv2 vv2.length kvv2], .row 24 3 (some ⟨g11, 0, none⟩) 1 1 [.int .i64 Pf, .int .i64 Mf, .slice Af mf.length kf]] at hS
                  refine WL.take rfl ?_
                  refine WL.len Try.underlying22 rfl rfl ?_
                  refine WL.take rfl ?_
                  refine WL.gtrD rfl rfl rfl ?_
                  refine WL.pick rfl rfl rfl ?_
                  refine WL.move rfl rfl ?_
                  by_cases g78 : (0 : Int) < ((x74.length : Nat) : Int)
                  · have hv := hv.1 g78
                    rw [decide_eq_true g78]
                    refine WL.pass rfl rfl rfl ?_
                    refine WL.pass rfl rfl rfl ?_
                    refine WL.pass rfl rfl rfl ?_
                    refine WL.pass rfl rfl rfl ?_
                    refine WL.pass rfl rfl rfl ?_
                    refine WL.pass rfl rfl rfl ?_
                    refine WL.pick rfl rfl rfl ?_
                    refine WL.done ?_
                    refine W.condT rfl ?_
                    refine W.seq ?_
                    refine W.region ?_
                    refine WL.assign rfl rfl ?_
                    refine WL.done ?_
                    refine W.ret ?_
                    refine ⟨_, rfl, Fin.nil ?_⟩
                    exact ⟨_, hS.ext, (hS.pick [] rfl).rows, News.of (hS.pick [] rfl).rows rfl, ⟨false, rfl, rfl, hv⟩⟩
                  · have hv := hv.2 g78
                    rw [decide_eq_false g78]
                    refine WL.take rfl ?_
                    refine WL.loadV (cs := [.int .i64 Pf, .int .i64 Mf, .slice Af mf.length kf]) Try.el24 Try.agg24 rfl rfl (Own.vcells (hS.own (i := 6) rfl)) rfl ?_
                    refine WL.take rfl ?_
                    refine WL.move rfl rfl ?_
                    refine WL.take rfl ?_
                    refine WL.move rfl rfl ?_
                    refine WL.take rfl ?_
                    refine SL.call hS (ok_rrem (hS.ro hf) (hS.ro hvv1) (hS.rd (i := 2) rfl) hv) Try.func41 rfl Try.nm41 rfl rfl ?_
                    rintro _ _ w79 ⟨x80, A81, k82, rfl, rfl, hv⟩ hGw79 hS
                    change St _ _ _ _ [.row 3 1 A81 x80.length k82 (is x80), .row 3 1 A75 x74.length k76 (is x74), .row 3 1 A67 x66.length k68 (is x66), .row 3 1 A55 x54.length k56 (is x54), .row 22 1 A47 3 3 [.slice Avv0 vv0.length kvv0, .slice Avv1 vv1.length kvv1, .slice Avv2 vv2.length kvv2], .ch lo23 hi24 (fun wz => GFX lo23 hi24 wz ad22 F21), .row 50 3 (some ⟨g13, 0, none⟩) 1 1 [.slice Avv0 vv0.length kvv0, .slice Avv1 vv1.length kvv1, .slice Avv2 vv2.length kvv2], .row 24 3 (some ⟨g11, 0, none⟩) 1 1 [.int .i64 Pf, .int .i64 Mf, .slice Af mf.length kf]] at hS
                    refine WL.take rfl ?_
                    refine WL.len Try.underlying22 rfl rfl ?_
                    refine WL.take rfl ?_
                    refine WL.gtrD rfl rfl rfl ?_
                    refine WL.pick rfl rfl rfl ?_
                    refine WL.done ?_
                    refine W.cond2 rfl (fun c84 => ?_) (fun c84 => ?_)
                    · have hv := hv.1 (of_decide_eq_true c84)
                      refine W.seq ?_
                      refine W.region ?_
                      refine WL.assign rfl rfl ?_
                      refine WL.done ?_
                      refine W.ret ?_
                      refine ⟨_, rfl, Fin.nil ?_⟩
                      exact ⟨_, hS.ext, (hS.pick [] rfl).rows, News.of (hS.pick [] rfl).rows rfl, ⟨false, rfl, rfl, hv⟩⟩
                    · have hv := hv.2 (of_decide_eq_false c84)
                      refine W.skip ?_
                      refine W.seq ?_
                      refine W.seq ?_
                      refine W.region ?_
                      refine WL.loadV (cs := [.int .i64 Pf, .int .i64 Mf, .slice Af mf.length kf]) Try.el24 Try.agg24 rfl rfl (Own.vcells (hS.own (i := 7) rfl)) rfl ?_
                      refine WL.move rfl rfl ?_
                      refine SL.call hS (ok_rdeg (hS.ro hf) (hS.ro hvv2) hv) Try.func38 rfl Try.nm38 rfl rfl ?_
                      rintro _ _ w85 ⟨r86, rfl, rfl, hv⟩ hGw85 hS
                      change St _ _ _ _ [.row 3 1 A81 x80.length k82 (is x80), .row 3 1 A75 x74.length k76 (is x74), .row 3 1 A67 x66.length k68 (is x66), .row 3 1 A55 x54.length k56 (is x54), .row 22 1 A47 3 3 [.slice Avv0 vv0.length kvv0, .slice Avv1 vv1.length kvv1, .slice Avv2 vv2.length kvv2], .ch lo23 hi24 (fun wz => GFX lo23 hi24 wz ad22 F21), .row 50 3 (some ⟨g13, 0, none⟩) 1 1 [.slice Avv0 vv0.length kvv0, .slice Avv1 vv1.length kvv1, .slice Avv2 vv2.length kvv2], .row 24 3 (some ⟨g11, 0, none⟩) 1 1 [.int .i64 Pf, .int .i64 Mf, .slice Af mf.length kf]] at hS
                      refine WL.lssD rfl rfl rfl ?_
                      refine WL.move rfl rfl ?_
                      by_cases g87 : r86 < (0 : Int)
                      · have hv := hv.1 g87
                        rw [decide_eq_true g87]
                        refine WL.pass rfl rfl rfl ?_
                        refine WL.pass rfl rfl rfl ?_
                        refine WL.pass rfl rfl rfl ?_
                        refine WL.pass rfl rfl rfl ?_
                        refine WL.pass rfl rfl rfl ?_
                        refine WL.pass rfl rfl rfl ?_
                        refine WL.pick rfl rfl rfl ?_
                        refine WL.move rfl rfl ?_
                        refine WL.pass rfl rfl rfl ?_
                        refine WL.pass rfl rfl rfl ?_
                        refine WL.pass rfl rfl rfl ?_
                        refine WL.pass rfl rfl rfl ?_
                        refine WL.pass rfl rfl rfl ?_
                        refine WL.pass rfl rfl rfl ?_
                        refine WL.pick rfl rfl rfl ?_
                        refine WL.done ?_
                        refine W.condT rfl ?_
                        refine W.seq ?_
                        refine W.region ?_
                        refine WL.assign rfl rfl ?_
                        refine WL.done ?_
                        refine W.ret ?_
                        refine ⟨_, rfl, Fin.nil ?_⟩
                        exact ⟨_, hS.ext, (hS.pick [] rfl).rows, News.of (hS.pick [] rfl).rows rfl, ⟨true, rfl, rfl, hv⟩⟩
                      · have hv := hv.2 g87
                        rw [decide_eq_false g87]
                        refine WL.take rfl ?_
                        refine WL.loadV (cs := [.int .i64 Pf, .int .i64 Mf, .slice Af mf.length kf]) Try.el24 Try.agg24 rfl rfl (Own.vcells (hS.own (i := 7) rfl)) rfl ?_
                        refine WL.take rfl ?_
                        refine WL.move rfl rfl ?_
                        refine WL.take rfl ?_
                        refine WL.move rfl rfl ?_
                        refine WL.take rfl ?_
                        refine SL.call hS (ok_rrem (hS.ro hf) (hS.ro hvv0) (hS.ro hvv2) hv) Try.func41 rfl Try.nm41 rfl rfl ?_
                        rintro _ _ w88 ⟨x89, A90, k91, rfl, rfl, hv⟩ hGw88 hS
                        change St _ _ _ _ [.row 3 1 A90 x89.length k91 (is x89), .row 3 1 A81 x80.length k82 (is x80), .row 3 1 A75 x74.length k76 (is x74), .row 3 1 A67 x66.length k68 (is x66), .row 3 1 A55 x54.length k56 (is x54), .row 22 1 A47 3 3 [.slice Avv0 vv0.length kvv0, .slice Avv1 vv1.length kvv1, .slice Avv2 vv2.length kvv2], .ch lo23 hi24 (fun wz => GFX lo23 hi24 wz ad22 F21), .row 50 3 (some ⟨g13, 0, none⟩) 1 1 [.slice Avv0 vv0.length kvv0, .slice Avv1 vv1.length kvv1, .slice Avv2 vv2.length kvv2], .row 24 3 (some ⟨g11, 0, none⟩) 1 1 [.int .i64 Pf, .int .i64 Mf, .slice Af mf.length kf]] at hS
                        refine WL.take rfl ?_
                        refine WL.len Try.underlying22 rfl rfl ?_
                        refine WL.take rfl ?_
                        refine WL.gtrD rfl rfl rfl ?_
                        refine WL.pick rfl rfl rfl ?_
                        refine WL.move rfl rfl ?_
                        by_cases g93 : (0 : Int) < ((x89.length : Nat) : Int)
                        · have hv := hv.1 g93
                          rw [decide_eq_true g93]
                          refine WL.pass rfl rfl rfl ?_
                          refine WL.pass rfl rfl rfl ?_
                          refine WL.pass rfl rfl rfl ?_
                          refine WL.pass rfl rfl rfl ?_
                          refine WL.pass rfl rfl rfl ?_
                          refine WL.pass rfl rfl rfl ?_
                          refine WL.pick rfl rfl rfl ?_
                          refine WL.done ?_
                          refine W.condT rfl ?_
                          refine W.seq ?_
                          refine W.region ?_
                          refine WL.assign rfl rfl ?_
                          refine WL.done ?_
                          refine W.ret ?_
                          refine ⟨_, rfl, Fin.nil ?_⟩
                          exact ⟨_, hS.ext, (hS.pick [] rfl).rows, News.of (hS.pick [] rfl).rows rfl, ⟨true, rfl, rfl, hv⟩⟩
                        · have hv := hv.2 g93
                          rw [decide_eq_false g93]
                          refine WL.take rfl ?_
                          refine WL.loadV (cs := [.int .i64 Pf, .int .i64 Mf, .slice Af mf.length kf]) Try.el24 Try.agg24 rfl rfl (Own.vcells (hS.own (i := 8) rfl)) rfl ?_
                          refine WL.take rfl ?_
                          refine WL.move rfl rfl ?_
                          refine WL.take rfl ?_
                          refine WL.move rfl rfl ?_
                          refine WL.take rfl ?_
                          refine SL.call hS (ok_rrem (hS.ro hf) (hS.ro hvv1) (hS.ro hvv2) hv) Try.func41 rfl Try.nm41 rfl rfl ?_
                          rintro _ _ w94 ⟨x95, A96, k97, rfl, rfl, hv⟩ hGw94 hS
                          change St _ _ _ _ [.row 3 1 A96 x95.length k97 (is x95), .row 3 1 A90 x89.length k91 (is x89), .row 3 1 A81 x80.length k82 (is x80), .row 3 1 A75 x74.length k76 (is x74), .row 3 1 A67 x66.length k68 (is x66), .row 3 1 A55 x54.length k56 (is x54), .row 22 1 A47 3 3 [.slice Avv0 vv0.length kvv0, .slice Avv1 vv1.length kvv1, .slice Avv2 vv2.length kvv2], .ch lo23 hi24 (fun wz => GFX lo23 hi24 wz ad22 F21), .row 50 3 (some ⟨g13, 0, none⟩) 1 1 [.slice Avv0 vv0.length kvv0, .slice Avv1 vv1.length kvv1, .slice Avv2 vv2.length kvv2], .row 24 3 (some ⟨g11, 0, none⟩) 1 1 [.int .i64 Pf, .int .i64 Mf, .slice Af mf.length kf]] at hS
                          refine WL.take rfl ?_
                          refine WL.len Try.underlying22 rfl rfl ?_
                          refine WL.take rfl ?_
                          refine WL.gtrD rfl rfl rfl ?_
                          refine WL.pick rfl rfl rfl ?_
                          refine WL.done ?_
                          refine W.cond2 rfl (fun c99 => ?_) (fun c99 => ?_)
                          · have hv := hv.1 (of_decide_eq_true c99)
                            refine W.seq ?_
                            refine W.region ?_
                            refine WL.assign rfl rfl ?_
                            refine WL.done ?_
                            refine W.ret ?_
                            refine ⟨_, rfl, Fin.nil ?_⟩
                            exact ⟨_, hS.ext, (hS.pick [] rfl).rows, News.of (hS.pick [] rfl).rows rfl, ⟨true, rfl, rfl, hv⟩⟩
                          · have hv := hv.2 (of_decide_eq_false c99)
                            refine W.skip ?_
                            refine W.seq ?_
                            refine W.region ?_
                            refine WL.loadV (cs := [.int .i64 Pf, .int .i64 Mf, .slice Af mf.length kf]) Try.el24 Try.agg24 rfl rfl (Own.vcells (hS.own (i := 9) rfl)) rfl ?_
                            refine WL.move rfl rfl ?_
                            refine WL.move rfl rfl ?_
                            refine SL.call hS (ok_rrem (hS.ro hf) (hS.rd (i := 5) rfl) (hS.ro hvv2) hv) Try.func41 rfl Try.nm41 rfl rfl ?_
                            rintro _ _ w100 ⟨x101, A102, k103, rfl, rfl, hv⟩ hGw100 hS
                            change St _ _ _ _ [.row 3 1 A102 x101.length k103 (is x101), .row 3 1 A96 x95.length k97 (is x95), .row 3 1 A90 x89.length k91 (is x89), .row 3 1 A81 x80.length k82 (is x80), .row 3 1 A75 x74.length k76 (is x74), .row 3 1 A67 x66.length k68 (is x66), .row 3 1 A55 x54.length k56 (is x54), .row 22 1 A47 3 3 [.slice Avv0 vv0.length kvv0, .slice Avv1 vv1.length kvv1, .slice Avv2 vv2.length kvv2], .ch lo23 hi24 (fun wz => GFX lo23 hi24 wz ad22 F21), .row 50 3 (some ⟨g13, 0, none⟩) 1 1 [.slice Avv0 vv0.length kvv0, .slice Avv1 vv1.length kvv1, .slice Avv2 vv2.length kvv2], .row 24 3 (some ⟨g11, 0, none⟩) 1 1 [.int .i64 Pf, .int .i64 Mf, .slice Af mf.length kf]] at hS
                            refine WL.len Try.underlying22 rfl rfl ?_
                            refine WL.eqlD rfl rfl rfl ?_
                            refine WL.assign rfl rfl ?_
                            refine WL.done ?_
                            refine W.ret ?_
                            refine ⟨_, rfl, Fin.nil ?_⟩
                            exact ⟨_, hS.ext, (hS.pick [] rfl).rows, News.of (hS.pick [] rfl).rows rfl, ⟨(decide (((x101.length : Nat) : Int) = (0 : Int))), rfl, rfl, hv⟩⟩
                · have hv := hv.1 g72
                  refine WL.pass rfl rfl rfl ?_
                  refine WL.pass rfl rfl rfl ?_
                  refine WL.pass rfl rfl rfl ?_
                  refine WL.pass rfl rfl rfl ?_
                  refine WL.pass rfl rfl rfl ?_
                  refine WL.pass rfl rfl rfl ?_
                  refine WL.pick rfl rfl rfl ?_
                  refine WL.move rfl rfl ?_
                  refine WL.pass rfl rfl rfl ?_
                  refine WL.pass rfl rfl rfl ?_
                  refine WL.pass rfl rfl rfl ?_
                  refine WL.pass rfl rfl rfl ?_
                  refine WL.pass rfl rfl rfl ?_
                  refine WL.pass rfl rfl rfl ?_
                  refine WL.pick rfl rfl rfl ?_
                  refine WL.done ?_
                  refine W.condT rfl ?_
                  refine W.seq ?_
                  refine W.region ?_
                  refine WL.assign rfl rfl ?_
                  refine WL.done ?_
                  refine W.ret ?_
                  refine ⟨_, rfl, Fin.nil ?_⟩
                  exact ⟨_, hS.ext, (hS.pick [] rfl).rows, News.of (hS.pick [] rfl).rows rfl, ⟨false, rfl, rfl, hv⟩⟩
          · have hv := hv.2 g60
            rw [decide_eq_false g60]
            refine WL.pass rfl rfl rfl ?_
            refine WL.pass rfl rfl rfl ?_
            refine WL.pass rfl rfl rfl ?_
            refine WL.pass rfl rfl rfl ?_
            refine WL.pick rfl rfl rfl ?_
            refine WL.done ?_
            refine W.condF rfl ?_
            refine W.skip ?_
            refine W.seq ?_
            refine W.seq ?_
            refine W.region ?_
            refine WL.move rfl rfl ?_
            refine WL.len Try.underlying22 rfl rfl ?_
            refine WL.eqlD rfl rfl rfl ?_
            refine WL.move rfl rfl ?_
            by_cases g105 : ((x54.length : Nat) : Int) = (0 : Int)
            · have hv := hv.1 g105
              rw [decide_eq_true g105]
              refine WL.pass rfl rfl rfl ?_
              refine WL.pass rfl rfl rfl ?_
              refine WL.pass rfl rfl rfl ?_
              refine WL.pass rfl rfl rfl ?_
              refine WL.pass rfl rfl rfl ?_
              refine WL.pass rfl rfl rfl ?_
              refine WL.pick rfl rfl rfl ?_
              refine WL.move rfl rfl ?_
              refine WL.pass rfl rfl rfl ?_
              refine WL.pass rfl rfl rfl ?_
              refine WL.pass rfl rfl rfl ?_
              refine WL.pass rfl rfl rfl ?_
              refine WL.pass rfl rfl rfl ?_
              refine WL.pass rfl rfl rfl ?_
              refine WL.pick rfl rfl rfl ?_
              refine WL.move rfl rfl ?_
              refine WL.pass rfl rfl rfl ?_
              refine WL.pass rfl rfl rfl ?_
              refine WL.pass rfl rfl rfl ?_
              refine WL.pass rfl rfl rfl ?_
              refine WL.pass rfl rfl rfl ?_
              refine WL.pass rfl rfl rfl ?_
              refine WL.pick rfl rfl rfl ?_
              refine WL.done ?_
              refine W.condT rfl ?_
              refine W.seq ?_
              refine W.region ?_
              refine WL.assign rfl rfl ?_
              refine WL.done ?_
              refine W.ret ?_
              refine ⟨_, rfl, Fin.nil ?_⟩
              exact ⟨_, hS.ext, (hS.pick [] rfl).rows, News.of (hS.pick [] rfl).rows rfl, ⟨false, rfl, rfl, hv⟩⟩
            · have hv := hv.2 g105
              rw [decide_eq_false g105]
              refine WL.take rfl ?_
              refine WL.move rfl rfl ?_
              refine WL.take rfl ?_
              refine WL.loadV (cs := [.int .i64 Pf, .int .i64 Mf, .slice Af mf.length kf]) Try.el24 Try.agg24 rfl rfl (Own.vcells (hS.own (i := 4) rfl)) rfl ?_
              refine WL.take rfl ?_
              refine WL.move rfl rfl ?_
              refine WL.take rfl ?_
              refine SL.call hS (ok_rmonic (hS.ro hf) (hS.rd (i := 0) rfl) hv) Try.func40 rfl Try.nm40 rfl rfl ?_
              rintro _ _ w106 ⟨x107, A108, k109, rfl, rfl, hv⟩ hGw106 hS
              change St _ _ _ _ [.row 3 1 A108 x107.length k109 (is x107), .row 3 1 A55 x54.length k56 (is x54), .row 22 1 A47 3 3 [.slice Avv0 vv0.length kvv0, .slice Avv1 vv1.length kvv1, .slice Avv2 vv2.length kvv2], .ch lo23 hi24 (fun wz => GFX lo23 hi24 wz ad22 F21), .row 50 3 (some ⟨g13, 0, none⟩) 1 1 [.slice Avv0 vv0.length kvv0, .slice Avv1 vv1.length kvv1, .slice Avv2 vv2.length kvv2], .row 24 3 (some ⟨g11, 0, none⟩) 1 1 [.int .i64 Pf, .int .i64 Mf, .slice Af mf.length kf]] at hS
              refine WL.take rfl ?_
              refine SL.call hS (ok_lsame (hS.rd (i := 1) rfl) (hS.rd (i := 0) rfl) hv) Try.func23 rfl Try.nm23 rfl rfl ?_
              rintro _ _ w111 ⟨r112, rfl, rfl, hv⟩ hGw111 hS
              change St _ _ _ _ [.row 3 1 A108 x107.length k109 (is x107), .row 3 1 A55 x54.length k56 (is x54), .row 22 1 A47 3 3 [.slice Avv0 vv0.length kvv0, .slice Avv1 vv1.length kvv1, .slice Avv2 vv2.length kvv2], .ch lo23 hi24 (fun wz => GFX lo23 hi24 wz ad22 F21), .row 50 3 (some ⟨g13, 0, none⟩) 1 1 [.slice Avv0 vv0.length kvv0, .slice Avv1 vv1.length kvv1, .slice Avv2 vv2.length kvv2], .row 24 3 (some ⟨g11, 0, none⟩) 1 1 [.int .i64 Pf, .int .i64 Mf, .slice Af mf.length kf]] at hS
              refine WL.take rfl ?_
              refine WL.not rfl rfl ?_
              refine WL.pick rfl rfl rfl ?_
              refine WL.move rfl rfl ?_
              rcases g113 : (!r112) with _ | _
              · have hv := hv.2 g113
                refine WL.take rfl ?_
                refine WL.loadV (cs := [.int .i64 Pf, .int .i64 Mf, .slice Af mf.length kf]) Try.el24 Try.agg24 rfl rfl (Own.vcells (hS.own (i := 5) rfl)) rfl ?_
                refine WL.take rfl ?_
                refine WL.move rfl rfl ?_
                refine WL.take rfl ?_
                refine WL.move rfl rfl ?_
                refine WL.take rfl ?_
                refine SL.call hS (ok_rrem (hS.ro hf) (hS.ro hvv0) (hS.rd (i := 1) rfl) hv) Try.func41 rfl Try.nm41 rfl rfl ?_
                rintro _ _ w114 ⟨x115, A116, k117, rfl, rfl, hv⟩ hGw114 hS
                change St _ _ _ _ [.row 3 1 A116 x115.length k117 (is x115), .row 3 1 A108 x107.length k109 (is x107), .row 3 1 A55 x54.length k56 (is x54), .row 22 1 A47 3 3 [.slice Avv0 vv0.length kvv0, .slice Avv1 vv1.length kvv1, .slice Avv2 vv2.length kvv2], .ch lo23 hi24 (fun wz => GFX lo23 hi24 wz ad22 F21), .row 50 3 (some ⟨g13, 0, none⟩) 1 1 [.slice Avv0 vv0.length kvv0, .slice Avv1 vv1.length kvv1, .slice Avv2 vv2.length kvv2], .row 24 3 (some ⟨g11, 0, none⟩) 1 1 [.int .i64 Pf, .int .i64 Mf, .slice Af mf.length kf]] at hS
                refine WL.take rfl ?_
                refine WL.len Try.underlying22 rfl rfl ?_
                refine WL.take rfl ?_
                refine WL.gtrD rfl rfl rfl ?_
                refine WL.pick rfl rfl rfl ?_
                refine WL.move rfl rfl ?_
                by_cases g119 : (0 : Int) < ((x115.length : Nat) : Int)
                · have hv := hv.1 g119
                  rw [decide_eq_true g119]
                  refine WL.pass rfl rfl rfl ?_
                  refine WL.pass rfl rfl rfl ?_
                  refine WL.pass rfl rfl rfl ?_
                  refine WL.pass rfl rfl rfl ?_
                  refine WL.pass rfl rfl rfl ?_
                  refine WL.pass rfl rfl rfl ?_
                  refine WL.pick rfl rfl rfl ?_
                  refine WL.done ?_
                  refine W.condT rfl ?_
                  refine W.seq ?_
                  refine W.region ?_
                  refine WL.assign rfl rfl ?_
                  refine WL.done ?_
                  refine W.ret ?_
                  refine ⟨_, rfl, Fin.nil ?_⟩
                  exact ⟨_, hS.ext, (hS.pick [] rfl).rows, News.of (hS.pick [] rfl).rows rfl, ⟨false, rfl, rfl, hv⟩⟩
                · have hv := hv.2 g119
                  rw [decide_eq_false g119]
                  refine WL.take rfl ?_
                  refine WL.loadV (cs := [.int .i64 Pf, .int .i64 Mf, .slice Af mf.length kf]) Try.el24 Try.agg24 rfl rfl (Own.vcells (hS.own (i := 6) rfl)) rfl ?_
                  refine WL.take rfl ?_
                  refine WL.move rfl rfl ?_
                  refine WL.take rfl ?_
                  refine WL.move rfl rfl ?_
                  refine WL.take rfl ?_
                  refine SL.call hS (ok_rrem (hS.ro hf) (hS.ro hvv1) (hS.rd (i := 2) rfl) hv) Try.func41 rfl Try.nm41 rfl rfl ?_
                  rintro _ _ w120 ⟨x121, A122, k123, rfl, rfl, hv⟩ hGw120 hS
                  change St _ _ _ _ [.row 3 1 A122 x121.length k123 (is x121), .row 3 1 A116 x115.length k117 (is x115), .row 3 1 A108 x107.length k109 (is x107), .row 3 1 A55 x54.length k56 (is x54), .row 22 1 A47 3 3 [.slice Avv0 vv0.length kvv0, .slice Avv1 vv1.length kvv1, .slice Avv2 vv2.length kvv2], .ch lo23 hi24 (fun wz => GFX lo23 hi24 wz ad22 F21), .row 50 3 (some ⟨g13, 0, none⟩) 1 1 [.slice Avv0 vv0.length kvv0, .slice Avv1 vv1.length kvv1, .slice Avv2 vv2.length kvv2], .row 24 3 (some ⟨g11, 0, none⟩) 1 1 [.int .i64 Pf, .int .i64 Mf, .slice Af mf.length kf]] at hS
                  refine WL.take rfl ?_
                  refine WL.len Try.underlying22 rfl rfl ?_
                  refine WL.take rfl ?_
                  refine WL.gtrD rfl rfl rfl ?_
                  refine WL.pick rfl rfl rfl ?_
                  refine WL.done ?_
                  refine W.cond2 rfl (fun c125 => ?_) (fun c125 => ?_)
                  · have hv := hv.1 (of_decide_eq_true c125)
                    refine W.seq ?_
                    refine W.region ?_
                    refine WL.assign rfl rfl ?_
                    refine WL.done ?_
                    refine W.ret ?_
                    refine ⟨_, rfl, Fin.nil ?_⟩
                    exact ⟨_, hS.ext, (hS.pick [] rfl).rows, News.of (hS.pick [] rfl).rows rfl, ⟨false, rfl, rfl, hv⟩⟩
                  · have hv := hv.2 (of_decide_eq_false c125)
                    refine W.skip ?_
                    refine W.seq ?_
                    refine W.seq ?_
                    refine W.region ?_
                    refine WL.loadV (cs := [.int .i64 Pf, .int .i64 Mf, .slice Af mf.length kf]) Try.el24 Try.agg24 rfl rfl (Own.vcells (hS.own (i := 7) rfl)) rfl ?_
                    refine WL.move rfl rfl ?_
                    refine SL.call hS (ok_rdeg (hS.ro hf) (hS.ro hvv2) hv) Try.func38 rfl Try.nm38 rfl rfl ?_
                    rintro _ _ w126 ⟨r127, rfl, rfl, hv⟩ hGw126 hS
                    change St _ _ _ _ [.row 3 1 A122 x121.length k123 (is x121), .row 3 1 A116 x115.length k117 (is x115), .row 3 1 A108 x107.length k109 (is x107), .row 3 1 A55 x54.length k56 (is x54), .row 22 1 A47 3 3 [.slice Avv0 vv0.length kvv0, .slice Avv1 vv1.length kvv1, .slice Avv2 vv2.length kvv2], .ch lo23 hi24 (fun wz => GFX lo23 hi24 wz ad22 F21), .row 50 3 (some ⟨g13, 0, none⟩) 1 1 [.slice Avv0 vv0.length kvv0, .slice Avv1 vv1.length kvv1, .slice Avv2 vv2.length kvv2], .row 24 3 (some ⟨g11, 0, none⟩) 1 1 [.int .i64 Pf, .int .i64 Mf, .slice Af mf.length kf]] at hS
                    refine WL.lssD rfl rfl rfl ?_
                    refine WL.move rfl rfl ?_
                    by_cases g128 : r127 < (0 : Int)
                    · have hv := hv.1 g128
                      rw [decide_eq_true g128]
                      refine WL.pass rfl rfl rfl ?_
                      refine WL.pass rfl rfl rfl ?_
                      refine WL.pass rfl rfl rfl ?_
                      refine WL.pass rfl rfl rfl ?_
                      refine WL.pass rfl rfl rfl ?_
                      refine WL.pass rfl rfl rfl ?_
                      refine WL.pick rfl rfl rfl ?_
                      refine WL.move rfl rfl ?_
                      refine WL.pass rfl rfl rfl ?_
                      refine WL.pass rfl rfl rfl ?_
                      refine WL.pass rfl rfl rfl ?_
                      refine WL.pass rfl rfl rfl ?_
                      refine WL.pass rfl rfl rfl ?_
                      refine WL.pass rfl rfl rfl ?_
                      refine WL.pick rfl rfl rfl ?_
                      refine WL.done ?_
                      refine W.condT rfl ?_
                      refine W.seq ?_
                      refine W.region ?_
                      refine WL.assign rfl rfl ?_
                      refine WL.done ?_
                      refine W.ret ?_
                      refine ⟨_, rfl, Fin.nil ?_⟩
                      exact ⟨_, hS.ext, (hS.pick [] rfl).rows, News.of (hS.pick [] rfl).rows rfl, ⟨true, rfl, rfl, hv⟩⟩
                    · have hv := hv.2 g128
                      rw [decide_eq_false g128]
                      refine WL.take rfl ?_
                      refine WL.loadV (cs := [.int .i64 Pf, .int .i64 Mf, .slice Af mf.length kf]) Try.el24 Try.agg24 rfl rfl (Own.vcells (hS.own (i := 7) rfl)) rfl ?_
                      refine WL.take rfl ?_
                      refine WL.move rfl rfl ?_
                      refine WL.take rfl ?_
                      refine WL.move rfl rfl ?_
                      refine WL.take rfl ?_
                      refine SL.call hS (ok_rrem (hS.ro hf) (hS.ro hvv0) (hS.ro hvv2) hv) Try.func41 rfl Try.nm41 rfl rfl ?_
                      rintro _ _ w129 ⟨x130, A131, k132, rfl, rfl, hv⟩ hGw129 hS
                      change St _ _ _ _ [.row 3 1 A131 x130.length k132 (is x130), .row 3 1 A122 x121.length k123 (is x121), .row 3 1 A116 x115.length k117 (is x115), .row 3 1 A108 x107.length k109 (is x107), .row 3 1 A55 x54.length k56 (is x54), .row 22 1 A47 3 3 [.slice Avv0 vv0.length kvv0, .slice Avv1 vv1.length kvv1, .slice Avv2 vv2.length kvv2], .ch lo23 hi24 (fun wz => GFX lo23 hi24 wz ad22 F21), .row 50 3 (some ⟨g13, 0, none⟩) 1 1 [.slice Avv0 vv0.length kvv0, .slice Avv1 vv1.length kvv1, .slice Avv2 vv2.length kvv2], .row 24 3 (some ⟨g11, 0, none⟩) 1 1 [.int .i64 Pf, .int .i64 Mf, .slice Af mf.length kf]] at hS
                      refine WL.take rfl ?_
                      refine WL.len Try.underlying22 rfl rfl ?_
                      refine WL.take rfl ?_
                      refine WL.gtrD rfl rfl rfl ?_
                      refine WL.pick rfl rfl rfl ?_
                      refine WL.move rfl rfl ?_
                      by_cases g134 : (0 : Int) < ((x130.length : Nat) : Int)
                      · have hv := hv.1 g134
                        rw [decide_eq_true g134]
                        refine WL.pass rfl rfl rfl ?_
                        refine WL.pass rfl rfl rfl ?_
                        refine WL.pass rfl rfl rfl ?_
                        refine WL.pass rfl rfl rfl ?_
                        refine WL.pass rfl rfl rfl ?_
                        refine WL.pass rfl rfl rfl ?_
                        refine WL.pick rfl rfl rfl ?_
                        refine WL.done ?_
                        refine W.condT rfl ?_
                        refine W.seq ?_
                        refine W.region ?_
                        refine WL.assign rfl rfl ?_
                        refine WL.done ?_
                        refine W.ret ?_
                        refine ⟨_, rfl, Fin.nil ?_⟩
                        exact ⟨_, hS.ext, (hS.pick [] rfl).rows, News.of (hS.pick [] rfl).rows rfl, ⟨true, rfl, rfl, hv⟩⟩
                      · have hv := hv.2 g134
                        rw [decide_eq_false g134]
                        refine WL.take rfl ?_
                        refine WL.loadV (cs := [.int .i64 Pf, .int .i64 Mf, .slice Af mf.length kf]) Try.el24 Try.agg24 rfl rfl (Own.vcells (hS.own (i := 8) rfl)) rfl ?_
                        refine WL.take rfl ?_
                        refine WL.move rfl rfl ?_
                        refine WL.take rfl ?_
                        refine WL.move rfl rfl ?_
                        refine WL.take rfl ?_
                        refine SL.call hS (ok_rrem (hS.ro hf) (hS.ro hvv1) (hS.ro hvv2) hv) Try.func41 rfl Try.nm41 rfl rfl ?_
                        rintro _ _ w135 ⟨x136, A137, k138, rfl, rfl, hv⟩ hGw135 hS
                        change St _ _ _ _ [.row 3 1 A137 x136.length k138 (is x136), .row 3 1 A131 x130.length k132 (is x130), .row 3 1 A122 x121.length k123 (is x121), .row 3 1 A116 x115.length k117 (is x115), .row 3 1 A108 x107.length k109 (is x107), .row 3 1 A55 x54.length k56 (is x54), .row 22 1 A47 3 3 [.slice Avv0 vv0.length kvv0, .slice Avv1 vv1.length kvv1, .slice Avv2 vv2.length kvv2], .ch lo23 hi24 (fun wz => GFX lo23 hi24 wz ad22 F21), .row 50 3 (some ⟨g13, 0, none⟩) 1 1 [.slice Avv0 vv0.length kvv0, .slice Avv1 vv1.length kvv1, .slice Avv2 vv2.length kvv2], .row 24 3 (some ⟨g11, 0, none⟩) 1 1 [.int .i64 Pf, .int .i64 Mf, .slice Af mf.length kf]] at hS
                        refine WL.take rfl ?_
                        refine WL.len Try.underlying22 rfl rfl ?_
                        refine WL.take rfl ?_
                        refine WL.gtrD rfl rfl rfl ?_
                        refine WL.pick rfl rfl rfl ?_
                        refine WL.done ?_
                        refine W.cond2 rfl (fun c140 => ?_) (fun c140 => ?_)
                        · have hv := hv.1 (of_decide_eq_true c140)
                          refine W.seq ?_
                          refine W.region ?_
                          refine WL.assign rfl rfl ?_
                          refine WL.done ?_
                          refine W.ret ?_
                          refine ⟨_, rfl, Fin.nil ?_⟩
                          exact ⟨_, hS.ext, (hS.pick [] rfl).rows, News.of (hS.pick [] rfl).rows rfl, ⟨true, rfl, rfl, hv⟩⟩
                        · have hv := hv.2 (of_decide_eq_false c140)
                          refine W.skip ?_
                          refine W.seq ?_
                          refine W.region ?_
                          refine WL.loadV (cs := [.int .i64 Pf, .int .i64 Mf, .slice Af mf.length kf]) Try.el24 Try.agg24 rfl rfl (Own.vcells (hS.own (i := 9) rfl)) rfl ?_
                          refine WL.move rfl rfl ?_
                          refine WL.move rfl rfl ?_
                          refine SL.call hS (ok_rrem (hS.ro hf) (hS.rd (i := 5) rfl) (hS.ro hvv2) hv) Try.func41 rfl Try.nm41 rfl rfl ?_
                          rintro _ _ w141 ⟨x142, A143, k144, rfl, rfl, hv⟩ hGw141 hS
                          change St _ _ _ _ [.row 3 1 A143 x142.length k144 (is x142), .row 3 1 A137 x136.length k138 (is x136), .row 3 1 A131 x130.length k132 (is x130), .row 3 1 A122 x121.length k123 (is x121), .row 3 1 A116 x115.length k117 (is x115), .row 3 1 A108 x107.length k109 (is x107), .row 3 1 A55 x54.length k56 (is x54), .row 22 1 A47 3 3 [.slice Avv0 vv0.length kvv0, .slice Avv1 vv1.length kvv1, .slice Avv2 vv2.length kvv2], .ch lo23 hi24 (fun wz => GFX lo23 hi24 wz ad22 F21), .row 50 3 (some ⟨g13, 0, none⟩) 1 1 [.slice Avv0 vv0.length kvv0, .slice Avv1 vv1.length kvv1, .slice Avv2 vv2.length kvv2], .row 24 3 (some ⟨g11, 0, none⟩) 1 1 [.int .i64 Pf, .int .i64 Mf, .slice Af mf.length kf]] at hS
                          refine WL.len Try.underlying22 rfl rfl ?_
                          refine WL.eqlD rfl rfl rfl ?_
                          refine WL.assign rfl rfl ?_
                          refine WL.done ?_
                          refine W.ret ?_
                          refine ⟨_, rfl, Fin.nil ?_⟩
                          exact ⟨_, hS.ext, (hS.pick [] rfl).rows, News.of (hS.pick [] rfl).rows rfl, ⟨(decide (((x142.length : Nat) : Int) = (0 : Int))), rfl, rfl, hv⟩⟩
              · have hv := hv.1 g113
                refine WL.pass rfl rfl rfl ?_
                refine WL.pass rfl rfl rfl ?_
                refine WL.pass rfl rfl rfl ?_
                refine WL.pass rfl rfl rfl ?_
                refine WL.pass rfl rfl rfl ?_
                refine WL.pass rfl rfl rfl ?_
                refine WL.pick rfl rfl rfl ?_
                refine WL.move rfl rfl ?_
                refine WL.pass rfl rfl rfl ?_
                refine WL.pass rfl rfl rfl ?_
                refine WL.pass rfl rfl rfl ?_
                refine WL.pass rfl rfl rfl ?_
                refine WL.pass rfl rfl rfl ?_
                refine WL.pass rfl rfl rfl ?_
                refine WL.pick rfl rfl rfl ?_
                refine WL.done ?_
                refine W.condT rfl ?_
                refine W.seq ?_
                refine W.region ?_
                refine WL.assign rfl rfl ?_
                refine WL.done ?_
                refine W.ret ?_
                refine ⟨_, rfl, Fin.nil ?_⟩
                exact ⟨_, hS.ext, (hS.pick [] rfl).rows, News.of (hS.pick [] rfl).rows rfl, ⟨false, rfl, rfl, hv⟩⟩

end Go.Proofs.Ytmdigamgojfjdaa
set_option linter.unusedVariables false
set_option linter.unusedSimpArgs false
namespace Go.Proofs.Ytmdigamgojfjdaa
open Ks
/-! ### greatest common divisors, values, derivatives, roots -/
section
variable {k : Ks} {F : GFv} {P M : Int} {mf : List Int}
theorem w_pgcd {p t : List Int} {Q : List Int → Prop} (K : GFk F k.p k.m k.v k.g) (hp : p.length ≤ 1000) (ht : t.length ≤ 1000) (h : Q (k.L (gc (k.pol p) (k.pol t)))) : V_pgcd F p t Q := by
  refine ⟨fun x y => x.length ≤ 1000 ∧ y.length ≤ 1000 ∧ ∀ d, Gd (k.pol x) (k.pol y) d → Gd (k.pol p) (k.pol t) d, fun x y => (k.L (k.pol y)).length, ⟨hp, ht, fun d h => h⟩, ?_⟩
  rintro x y ⟨hx, hy, hd⟩
  dsimp only
  refine w_deg K fun r hr hlt => ⟨fun h0 => ?_, fun h0 => ?_⟩
  · rcases hr with ⟨h1, _⟩ | ⟨d, h1, h2⟩
    · omega
    · refine w_pdivmod K (by omega) (by omega) (fun e => absurd e h2.ne) fun d' h3 => ?_
      obtain rfl := h2.uniq h3
      obtain ⟨q1, q2, q3⟩ := qt_spec (pol_su x) h2
      have hl := L_len (k := k) q3
      dsimp only
      refine ⟨⟨hy, by omega, fun e he => hd e (Gd.step ⟨_, q1⟩ q2 ?_)⟩, by rw [pol_L ⟨_, q3⟩, L_dg h2]; omega⟩
      rwa [pol_L ⟨_, q3⟩] at he
  · have hy0 : k.pol y = 0 := by
      rcases hr with ⟨_, h2⟩ | ⟨d, h1, h2⟩
      · exact h2
      · omega
    rw [hy0] at hd
    refine w_pmonic K hx (fun hx0 => ?_) fun d h3 => ?_
    · have := gc_uniq (pol_fs p) (pol_fs t) (hd _ (Gd.zero _)) (.inr hx0)
      rw [hx0] at this
      rw [← this, L_zero] at h; exact h
    · have := gc_uniq (pol_fs p) (pol_fs t) ((hd _ (Gd.zero _)).monic h3) (.inl (monic_ct h3))
      rw [this]; exact h
end
end Go.Proofs.Ytmdigamgojfjdaa
set_option linter.unusedVariables false
set_option linter.unusedSimpArgs false
namespace Go.Proofs.Ytmdigamgojfjdaa
open Ks
/-! ### the laws -/
section
variable {k : Ks} {F : GFv} {P M : Int} {mf : List Int}
theorem w_short3 {p t u : List Int} {A B : Prop} (h : A) (h1 : p.length ≤ 24 → t.length ≤ 24 → u.length ≤ 24 → B) : V_short [p, t, u] (fun r => ((!r) = true → A) ∧ ((!r) = false → B)) :=
  w_short (by simp) ⟨fun _ => h, fun e => absurd e (by decide)⟩ fun hs => nb (h1 (hs 0 (by simp)) (hs 1 (by simp)) (hs 2 (by simp)))
theorem law_PolyGcds (p t u : List Int) : V_PolyGcds P M mf p t u (fun b => b = true) := by
  refine w_alive ⟨fun h => absurd h (by decide), fun _ => w_made (fun _ => rfl) fun F k K hF => w_short3 rfl fun hp ht hu => ?_⟩
  have hpf := pol_fs (k := k) p
  have htf := pol_fs (k := k) t
  have huf := pol_fs (k := k) u
  obtain ⟨hg, hgf, hgm⟩ := gc_spec hpf htf
  refine w_pgcd K (by omega) (by omega) (w_rdeg hF (by omega) ⟨fun h1 => w_rdeg hF (by omega) ⟨fun h2 => ?_, fun h2 => ?_⟩, fun h1 => ?_⟩)
  · have z1 := (deg_neg hpf).1 h1
    have z2 := (deg_neg htf).1 h2
    have := gc_uniq hpf htf (d := 0) (by rw [z1, z2]; exact Gd.zero 0) (.inr rfl)
    rw [← this, L_zero]; rfl
  all_goals
    have hne : gc (k.pol p) (k.pol t) ≠ 0 := fun e => by
      rw [e] at hg
      obtain ⟨z1, z2⟩ := hg.zero0
      first | exact h2 ((deg_neg htf).2 z2) | exact h1 ((deg_neg hpf).2 z1)
    obtain ⟨d, hd, hd1⟩ := hgm.resolve_right hne
    have ld := L_dg (k := k) hd
    have hle : d < 24 := by
      rcases dg_ex (pol_su (k := k) p) with z | ⟨a, ha, h3⟩
      · rcases dg_ex (pol_su (k := k) t) with z2 | ⟨a, ha, h3⟩
        · exact absurd (dvd_zero0 (hg.2.2 0 (by rw [z]; exact Dv.zero 0) (by rw [z2]; exact Dv.zero 0))) hne
        · have := hg.2.1.dg hd h3; omega
      · have := hg.1.dg hd h3; omega
    have hpn : k.pol (k.L (gc (k.pol p) (k.pol t))) = gc (k.pol p) (k.pol t) := pol_L hgf
    refine ⟨fun h => by omega, fun _ => w_rmonic (k := k) hF (by omega) (fun z => absurd (by rw [hpn] at z; exact z) hne) fun d' hd' => ?_⟩
    rw [hpn] at hd' ⊢
    obtain rfl := hd.uniq hd'
    have e1 : ct (inv_ (gc (k.pol p) (k.pol t) d)) * gc (k.pol p) (k.pol t) = gc (k.pol p) (k.pol t) := by
      have : inv_ (gc (k.pol p) (k.pol t) d) = 1 := by rw [hd1]; exact (inv_uniq (Cr.one_mul 1)).symm
      rw [this]; exact Cr.one_mul _
    refine w_same (by omega) (by rw [e1]) (nb (w_rrem (k := k) hF (by omega) (by omega) (by rw [hpn]; exact hne) ?_))
    rw [hpn, (rm_zero hpf hd).1 hg.1, L_zero]
    refine ⟨fun h => absurd h (by decide), fun _ => w_rrem (k := k) hF (by omega) (by omega) (by rw [hpn]; exact hne) ?_⟩
    rw [hpn, (rm_zero htf hd).1 hg.2.1, L_zero]
    refine ⟨fun h => absurd h (by decide), fun _ => w_rdeg hF (by omega) ⟨fun _ => rfl, fun h3 => ?_⟩⟩
    have hu0 : k.pol u ≠ 0 := fun e => h3 ((deg_neg huf).2 e)
    obtain ⟨c, hc⟩ : ∃ c, Dg (k.pol u) c := ⟨_, (L_rp (k := k) huf).dg (Nat.pos_of_ne_zero fun e => hu0 ((L_len0 huf).1 e))⟩
    have key : ∀ {f : Pl k.E}, Fs f → ¬ (0 < ((((k.L (rm f (k.pol u))).length : Nat) : Int))) → Dv (k.pol u) f := fun {f} hf h4 => by
      obtain ⟨n, hn⟩ := hf
      obtain ⟨_, _, q3⟩ := qt_spec hn hc
      exact (rm_zero ⟨n, hn⟩ hc).2 ((L_len0 ⟨_, q3⟩).1 (by omega))
    refine w_rrem (k := k) hF (by omega) (by omega) hu0 ⟨fun _ => rfl, fun h4 => w_rrem (k := k) hF (by omega) (by omega) hu0 ⟨fun _ => rfl, fun h5 => w_rrem (k := k) hF (by omega) (by omega) hu0 ?_⟩⟩
    rw [hpn, (rm_zero hgf hc).1 (hg.2.2 _ (key hpf h4) (key htf h5)), L_zero]; rfl
end
end Go.Proofs.Ytmdigamgojfjdaa
