/- What only this law leans on. -/
import Derived.Test.YtmdigamgojfjdaaPolyAddsG12
set_option linter.unusedSimpArgs false
set_option linter.unusedVariables false
namespace Go.Proofs.Ytmdigamgojfjdaa
open Go.RowKit
def V_PolyAdds (Pf : Int) (Mf : Int) (mf : List Int) (p : List Int) (t : List Int) (Q : Bool → Prop) : Prop :=
  V_alive  (fun r14 => (((!r14) = true) → Q false) ∧ ((!r14) = false → (V_made Pf Mf mf (fun q => match q with | none => Q true | some F19 => V_short ([p, t] : List (List Int)) (fun r29 => (((!r29) = true) → Q true) ∧ ((!r29) = false → (V_padd F19 p t (fun x32 => ∃ (x41 : List Int), V_rpadd Pf Mf mf p t (fun q => q = x41) ∧ ((V_lsame x32 x41 (fun q => q = true)) ∧ (∃ (x58 : List Int), V_psub F19 p t (fun q => q = x58) ∧ (∃ (x70 : List Int), V_rpsub Pf Mf mf p t (fun q => q = x70) ∧ ((V_lsame x58 x70 (fun q => q = true)) ∧ (∃ (x88 : List Int), V_psub F19 x32 t (fun q => q = x88) ∧ (∃ (x99 : List Int), V_rcanon Pf Mf mf p (fun q => q = x99) ∧ (∃ (r108 : Bool), V_lsame x88 x99 (fun q => q = r108) ∧ Q r108)))))))))))))))
theorem ok_PolyAdds {w : World} {Q : Bool → Prop} {Pf : Int} {Mf : Int} {mf : List Int} {p : List Int} {t : List Int} {Bf : Nat} {Af : Option Addr} {nf kf : Nat} (hf : Rd Bf w 1 Af nf kf (is mf)) {Bp : Nat} {Ap : Option Addr} {np kp : Nat} (hp : Rd Bp w 1 Ap np kp (is p)) {Bt : Nat} {At : Option Addr} {nt kt : Nat} (ht : Rd Bt w 1 At nt kt (is t)) (hv : V_PolyAdds Pf Mf mf p t Q) :
    Calls Try.prog 4 #[.agg #[.int .i64 Pf, .int .i64 Mf, .slice Af nf kf], .slice Ap np kp, .slice At nt kt] w fun e w' => ∃ v Qr, e = .returned v ∧ w.grownBy w' none ∧ Rows w.heap.size none w' Qr ∧ News w.heap.size Qr ∧ ∃ (r0 : Bool), v = .bool r0 ∧ Qr = [] ∧ Q r0 := by
  have hnf := hf.ilen
  subst hnf
  have hnp := hp.ilen
  subst hnp
  have hnt := ht.ilen
  subst hnt
  refine calls_swap ?_
  refine calls_of_W (vs := [.agg #[.int .i64 Pf, .int .i64 Mf, .slice Af mf.length kf], .slice Ap p.length kp, .slice At t.length kt]) [6] Try.func4 rfl rfl rfl rfl ?_
  have hS := St.start w
  unfold V_PolyAdds at hv
  refine W.seq ?_
  refine W.region ?_
  refine SL.box (z := 3) (cs := [.int .i64 Pf, .int .i64 Mf, .slice Af mf.length kf]) hS rfl rfl rfl rfl ?_
  intro g11 w12 hS
  refine WL.assign rfl rfl ?_
  refine WL.done ?_
  refine W.seq ?_
  refine W.seq ?_
  refine W.region ?_
  refine SL.call hS (ok_alive  hv) Try.func20 rfl Try.nm20 rfl rfl ?_
  rintro _ _ w13 ⟨r14, rfl, rfl, hv⟩ hGw13 hS
  change St _ _ _ _ [.row 24 3 (some ⟨g11, 0, none⟩) 1 1 [.int .i64 Pf, .int .i64 Mf, .slice Af mf.length kf]] at hS
  refine WL.not rfl rfl ?_
  refine WL.done ?_
  refine W.cond2 rfl (fun c15 => ?_) (fun c15 => ?_)
  · have hv := hv.1 (c15)
    refine W.seq ?_
    refine W.region ?_
    refine WL.assign rfl rfl ?_
    refine WL.done ?_
    refine W.ret ?_
    refine ⟨_, rfl, Fin.nil ?_⟩
    exact ⟨_, hS.ext, (hS.pick [] rfl).rows, News.of (hS.pick [] rfl).rows rfl, ⟨false, rfl, rfl, hv⟩⟩
  · have hv := hv.2 (c15)
    refine W.skip ?_
    refine W.seq ?_
    refine W.region ?_
    refine WL.loadV (cs := [.int .i64 Pf, .int .i64 Mf, .slice Af mf.length kf]) Try.el24 Try.agg24 rfl rfl (Own.vcells (hS.own (i := 0) rfl)) rfl ?_
    refine SL.call hS (ok_made (hS.ro hf) hv) Try.func21 rfl Try.nm21 rfl rfl ?_
    rintro _ _ w17 ⟨o, hv, hK⟩ hGw17 hS
    cases o with
    | none =>
      obtain ⟨rfl, rfl⟩ := hK
      change St _ _ _ _ [.row 24 3 (some ⟨g11, 0, none⟩) 1 1 [.int .i64 Pf, .int .i64 Mf, .slice Af mf.length kf]] at hS
      refine WL.assign rfl rfl ?_
      refine WL.done ?_
      refine W.seq ?_
      refine W.seq ?_
      refine W.region ?_
      refine WL.move rfl rfl ?_
      refine WL.eqlPn Try.underlying26 rfl rfl rfl rfl ?_
      refine WL.move rfl rfl ?_
      refine WL.pass rfl rfl rfl ?_
      refine WL.pass rfl rfl rfl ?_
      refine WL.pass rfl rfl rfl ?_
      refine WL.pass rfl rfl rfl ?_
      refine WL.pass rfl rfl rfl ?_
      refine WL.pick rfl rfl rfl ?_
      refine WL.done ?_
      refine W.condT rfl ?_
      refine W.seq ?_
      refine W.region ?_
      refine WL.assign rfl rfl ?_
      refine WL.done ?_
      refine W.ret ?_
      refine ⟨_, rfl, Fin.nil ?_⟩
      exact ⟨_, hS.ext, (hS.pick [] rfl).rows, News.of (hS.pick [] rfl).rows rfl, ⟨true, rfl, rfl, hv⟩⟩
    | some F19 =>
      obtain ⟨ad20, lo21, hi22, rfl, rfl⟩ := hK
      change St _ _ _ _ [.ch lo21 hi22 (fun wz => GFX lo21 hi22 wz ad20 F19), .row 24 3 (some ⟨g11, 0, none⟩) 1 1 [.int .i64 Pf, .int .i64 Mf, .slice Af mf.length kf]] at hS
      refine WL.assign rfl rfl ?_
      refine WL.done ?_
      refine W.seq ?_
      refine W.seq ?_
      refine W.region ?_
      refine WL.move rfl rfl ?_
      refine WL.eqlPn Try.underlying26 rfl rfl rfl rfl ?_
      refine WL.move rfl rfl ?_
      refine WL.take rfl ?_
      refine WL.move rfl rfl ?_
      refine WL.take rfl ?_
      refine WL.move rfl rfl ?_
      refine WL.take rfl ?_
      refine SL.lit1 (vs := [.slice Ap p.length kp, .slice At t.length kt]) hS Try.underlying37 Try.el22 rfl rfl rfl rfl (by simp [Value.oneCell']) rfl ?_
      intro A25 w26 hS
      refine WL.take rfl ?_
      refine SL.call hS (ok_short (ls := ([p, t] : List (List Int))) ⟨_, _, (hS.rd (i := 0) rfl), ⟨⟨_, _, _, rfl, (Rd.is_m (hS.ro hp))⟩, ⟨_, _, _, rfl, (Rd.is_m (hS.ro ht))⟩, trivial⟩⟩ hv) Try.func26 rfl Try.nm26 rfl rfl ?_
      rintro _ _ w28 ⟨r29, rfl, rfl, hv⟩ hGw28 hS
      change St _ _ _ _ [.row 22 1 A25 2 2 [.slice Ap p.length kp, .slice At t.length kt], .ch lo21 hi22 (fun wz => GFX lo21 hi22 wz ad20 F19), .row 24 3 (some ⟨g11, 0, none⟩) 1 1 [.int .i64 Pf, .int .i64 Mf, .slice Af mf.length kf]] at hS
      refine WL.take rfl ?_
      refine WL.not rfl rfl ?_
      refine WL.pick rfl rfl rfl ?_
      refine WL.done ?_
      refine W.cond2 rfl (fun c30 => ?_) (fun c30 => ?_)
      · have hv := hv.1 (c30)
        refine W.seq ?_
        refine W.region ?_
        refine WL.assign rfl rfl ?_
        refine WL.done ?_
        refine W.ret ?_
        refine ⟨_, rfl, Fin.nil ?_⟩
        exact ⟨_, hS.ext, (hS.pick [] rfl).rows, News.of (hS.pick [] rfl).rows rfl, ⟨true, rfl, rfl, hv⟩⟩
      · have hv := hv.2 (c30)
        refine W.skip ?_
        refine W.seq ?_
        refine W.region ?_
        refine WL.move rfl rfl ?_
        refine WL.move rfl rfl ?_
        refine WL.move rfl rfl ?_
        refine SL.call hS (ok_padd (GFX.gfr (hS.chunk (i := 1) rfl)) (hS.ro hp) (hS.ro ht) hv) Try.func27 rfl Try.nm27 rfl rfl ?_
        rintro _ _ w31 ⟨x32, A33, k34, rfl, rfl, hv⟩ hGw31 hS
        change St _ _ _ _ [.row 3 1 A33 x32.length k34 (is x32), .row 22 1 A25 2 2 [.slice Ap p.length kp, .slice At t.length kt], .ch lo21 hi22 (fun wz => GFX lo21 hi22 wz ad20 F19), .row 24 3 (some ⟨g11, 0, none⟩) 1 1 [.int .i64 Pf, .int .i64 Mf, .slice Af mf.length kf]] at hS
        refine WL.assign rfl rfl ?_
        refine WL.done ?_
        refine W.seq ?_
        obtain ⟨x41, o48, hv⟩ := hv
        obtain ⟨o52, hv⟩ := hv
        obtain ⟨x58, o65, hv⟩ := hv
        obtain ⟨x70, o77, hv⟩ := hv
        obtain ⟨o81, hv⟩ := hv
        obtain ⟨x88, o95, hv⟩ := hv
        obtain ⟨x99, o106, hv⟩ := hv
        obtain ⟨r108, o110, hv⟩ := hv
        have hS0 := hS
        refine W.drawX 28 (fun iA => [false, false, false, false, true, false, false, false, false, false, true, false, false, false, true, false, false, false, false, false, false, true, false, false, true, false, false, false].getD iA false) (fun _ => none) [⟨[], [8], true⟩, ⟨[], [3], false⟩, ⟨[], [1], true⟩, ⟨[], [2], true⟩, ⟨[1, 2, 3], [], false⟩, ⟨[0, 4], [], false⟩, ⟨[5], [], true⟩, ⟨[6], [7], true⟩, ⟨[6], [1], true⟩, ⟨[6], [2], true⟩, ⟨[6, 7, 8, 9], [], false⟩, ⟨[6], [3], false⟩, ⟨[6], [1], true⟩, ⟨[6], [2], true⟩, ⟨[6, 11, 12, 13], [], false⟩, ⟨[6, 10, 14], [], false⟩, ⟨[6, 15], [], true⟩, ⟨[16], [], true⟩, ⟨[17], [7], true⟩, ⟨[17], [8], true⟩, ⟨[17], [2], true⟩, ⟨[17, 18, 19, 20], [], false⟩, ⟨[17], [3], false⟩, ⟨[17], [1], true⟩, ⟨[17, 22, 23], [], false⟩, ⟨[17, 21, 24], [], false⟩, ⟨[17, 25], [], true⟩, ⟨[26], [], true⟩] [[(8, .slice A33 x32.length k34)], [(3, .pointer (some ⟨g11, 0, none⟩))], [(1, .slice Ap p.length kp)], [(2, .slice At t.length kt)], [], [], [], [(7, .pointer (some ad20))], [(1, .slice Ap p.length kp)], [(2, .slice At t.length kt)], [], [(3, .pointer (some ⟨g11, 0, none⟩))], [(1, .slice Ap p.length kp)], [(2, .slice At t.length kt)], [], [], [], [], [(7, .pointer (some ad20))], [(8, .slice A33 x32.length k34)], [(2, .slice At t.length kt)], [], [(3, .pointer (some ⟨g11, 0, none⟩))], [(1, .slice Ap p.length kp)], [], [], [], []] (fun iQ => [fun v _ => v = .slice A33 x32.length k34, fun v _ => v = .agg #[.int .i64 Pf, .int .i64 Mf, .slice Af mf.length kf], fun v _ => v = .slice Ap p.length kp, fun v _ => v = .slice At t.length kt, fun v wQ => ∃ A42_4 k43_4, v = .slice A42_4 x41.length k43_4 ∧ Own 0 wQ 3 1 A42_4 x41.length k43_4 (is x41) ∧ (∀ g, bl A42_4 = some g → w31.heap.size ≤ g), fun v _ => v = .bool true, fun v _ => v = .bool true, fun v _ => v = .pointer (some ad20), fun v _ => v = .slice Ap p.length kp, fun v _ => v = .slice At t.length kt, fun v wQ => ∃ A59_10 k60_10, v = .slice A59_10 x58.length k60_10 ∧ Own 0 wQ 3 1 A59_10 x58.length k60_10 (is x58) ∧ (∀ g, bl A59_10 = some g → w31.heap.size ≤ g), fun v _ => v = .agg #[.int .i64 Pf, .int .i64 Mf, .slice Af mf.length kf], fun v _ => v = .slice Ap p.length kp, fun v _ => v = .slice At t.length kt, fun v wQ => ∃ A71_14 k72_14, v = .slice A71_14 x70.length k72_14 ∧ Own 0 wQ 3 1 A71_14 x70.length k72_14 (is x70) ∧ (∀ g, bl A71_14 = some g → w31.heap.size ≤ g), fun v _ => v = .bool true, fun v _ => v = .bool true, fun v _ => v = .bool true, fun v _ => v = .pointer (some ad20), fun v _ => v = .slice A33 x32.length k34, fun v _ => v = .slice At t.length kt, fun v wQ => ∃ A89_21 k90_21, v = .slice A89_21 x88.length k90_21 ∧ Own 0 wQ 3 1 A89_21 x88.length k90_21 (is x88) ∧ (∀ g, bl A89_21 = some g → w31.heap.size ≤ g), fun v _ => v = .agg #[.int .i64 Pf, .int .i64 Mf, .slice Af mf.length kf], fun v _ => v = .slice Ap p.length kp, fun v wQ => ∃ A100_24 k101_24, v = .slice A100_24 x99.length k101_24 ∧ Own 0 wQ 3 1 A100_24 x99.length k101_24 (is x99) ∧ (∀ g, bl A100_24 = some g → w31.heap.size ≤ g), fun v _ => v = .bool r108, fun v _ => v = .bool r108, fun v _ => v = .bool r108].getD iQ (fun _ _ => True)) Try.mixed (by kernel_rfl) ?_ (by kernel_rfl) ?_ ?_
        · refine Vs_monoT _ ?_
          intro VQ hVQ vQ wQ1 wQ2 hQ1 hQ2
          simp only [List.mem_cons, List.not_mem_nil, or_false] at hVQ
          rcases hVQ with rfl | rfl | rfl | rfl | rfl | rfl | rfl | rfl | rfl | rfl | rfl | rfl | rfl | rfl | rfl | rfl | rfl | rfl | rfl | rfl | rfl | rfl | rfl | rfl | rfl | rfl | rfl | rfl
          · exact hQ1
          · exact hQ1
          · exact hQ1
          · exact hQ1
          · obtain ⟨A42_4, k43_4, hQe, hO46_4, hN47_4⟩ := hQ1
            exact ⟨A42_4, k43_4, hQe, hO46_4.ext hQ2, hN47_4⟩
          · exact hQ1
          · exact hQ1
          · exact hQ1
          · exact hQ1
          · exact hQ1
          · obtain ⟨A59_10, k60_10, hQe, hO63_10, hN64_10⟩ := hQ1
            exact ⟨A59_10, k60_10, hQe, hO63_10.ext hQ2, hN64_10⟩
          · exact hQ1
          · exact hQ1
          · exact hQ1
          · obtain ⟨A71_14, k72_14, hQe, hO75_14, hN76_14⟩ := hQ1
            exact ⟨A71_14, k72_14, hQe, hO75_14.ext hQ2, hN76_14⟩
          · exact hQ1
          · exact hQ1
          · exact hQ1
          · exact hQ1
          · exact hQ1
          · exact hQ1
          · obtain ⟨A89_21, k90_21, hQe, hO93_21, hN94_21⟩ := hQ1
            exact ⟨A89_21, k90_21, hQe, hO93_21.ext hQ2, hN94_21⟩
          · exact hQ1
          · exact hQ1
          · obtain ⟨A100_24, k101_24, hQe, hO104_24, hN105_24⟩ := hQ1
            exact ⟨A100_24, k101_24, hQe, hO104_24.ext hQ2, hN105_24⟩
          · exact hQ1
          · exact hQ1
          · exact hQ1
        · refine ⟨⟨rfl, ⟨rfl, trivial⟩, ?_⟩, ⟨rfl, ⟨rfl, trivial⟩, ?_⟩, ⟨rfl, ⟨rfl, trivial⟩, ?_⟩, ⟨rfl, ⟨rfl, trivial⟩, ?_⟩, ⟨rfl, trivial, ?_⟩, ⟨rfl, trivial, ?_⟩, ⟨rfl, trivial, ?_⟩, ⟨rfl, ⟨rfl, trivial⟩, ?_⟩, ⟨rfl, ⟨rfl, trivial⟩, ?_⟩, ⟨rfl, ⟨rfl, trivial⟩, ?_⟩, ⟨rfl, trivial, ?_⟩, ⟨rfl, ⟨rfl, trivial⟩, ?_⟩, ⟨rfl, ⟨rfl, trivial⟩, ?_⟩, ⟨rfl, ⟨rfl, trivial⟩, ?_⟩, ⟨rfl, trivial, ?_⟩, ⟨rfl, trivial, ?_⟩, ⟨rfl, trivial, ?_⟩, ⟨rfl, trivial, ?_⟩, ⟨rfl, ⟨rfl, trivial⟩, ?_⟩, ⟨rfl, ⟨rfl, trivial⟩, ?_⟩, ⟨rfl, ⟨rfl, trivial⟩, ?_⟩, ⟨rfl, trivial, ?_⟩, ⟨rfl, ⟨rfl, trivial⟩, ?_⟩, ⟨rfl, ⟨rfl, trivial⟩, ?_⟩, ⟨rfl, trivial, ?_⟩, ⟨rfl, trivial, ?_⟩, ⟨rfl, trivial, ?_⟩, ⟨rfl, trivial, ?_⟩, trivial⟩
          · intro w36 hE
            intro RR
            refine WL.move rfl rfl ?_
            exact WL.done ⟨_, rfl, rfl, rfl, (fun h => absurd h (by decide)), (fun j h => by cases h)⟩
          · intro w37 hE
            have hE := hE rfl
            have hS := hS.grow hE
            intro RR
            refine WL.loadV (cs := [.int .i64 Pf, .int .i64 Mf, .slice Af mf.length kf]) Try.el24 Try.agg24 rfl rfl (Own.vcells (hS.own (i := 3) rfl)) rfl ?_
            exact WL.done ⟨_, rfl, ext_refl _, rfl, (fun h => absurd h (by decide)), (fun j h => by cases h)⟩
          · intro w38 hE
            intro RR
            refine WL.move rfl rfl ?_
            exact WL.done ⟨_, rfl, rfl, rfl, (fun h => absurd h (by decide)), (fun j h => by cases h)⟩
          · intro w39 hE
            intro RR
            refine WL.move rfl rfl ?_
            exact WL.done ⟨_, rfl, rfl, rfl, (fun h => absurd h (by decide)), (fun j h => by cases h)⟩
          · intro w40 hE
            have hE := hE rfl
            have hS := hS.grow hE
            rintro _ rfl
            rintro _ rfl
            rintro _ rfl
            intro RR
            refine WL.call Try.func28 rfl Try.nm28 rfl rfl (calls_un (ok_rpadd (hS.ro hf) (hS.ro hp) (hS.ro ht) o48)) ?_
            rintro _ w45 ⟨_, hGw45, hRww45, hNww45, x41q, A42, k43, rfl, rfl, he⟩
            subst he
            have hO46 := (hRww45.get (i := 0) rfl).1
            have hN47 : ∀ g, bl A42 = some g → _ ≤ g := fun g hg => Nat.le_trans hE.size (hNww45.1 g hg)
            exact WL.done ⟨_, rfl, hGw45, ⟨A42, k43, rfl, hO46, hN47⟩, (fun _ => fun g hg => ⟨hNww45.1 g hg, (hO46.bl_ge g hg).2⟩), (fun j h => by cases h)⟩
          · intro w49 hE
            have hE := hE rfl
            have hS := hS.grow hE
            rintro _ rfl
            rintro _ ⟨A42_4, k43_4, rfl, hO46_4, hN47_4⟩
            intro RR
            refine WL.call Try.func23 rfl Try.nm23 rfl rfl (calls_un (ok_lsame (hS.rd (i := 0) rfl) hO46_4.rd o52)) ?_
            rintro _ w51 ⟨_, hGw51, hRww51, hNww51, r50, rfl, rfl, he⟩
            subst he
            exact WL.done ⟨_, rfl, hGw51, rfl, (fun h => absurd h (by decide)), (fun j h => by cases h)⟩
          · intro w53 hE
            rintro _ rfl
            intro RR
            refine WL.move rfl rfl ?_
            exact WL.done ⟨_, rfl, rfl, rfl, (fun h => absurd h (by decide)), (fun j h => by cases h)⟩
          · intro w54 hE
            rintro _ rfl
            intro RR
            refine WL.take rfl ?_
            refine WL.move rfl rfl ?_
            exact WL.done ⟨_, rfl, rfl, rfl, (fun h => absurd h (by decide)), (fun j h => by cases h)⟩
          · intro w55 hE
            rintro _ rfl
            intro RR
            refine WL.take rfl ?_
            refine WL.move rfl rfl ?_
            exact WL.done ⟨_, rfl, rfl, rfl, (fun h => absurd h (by decide)), (fun j h => by cases h)⟩
          · intro w56 hE
            rintro _ rfl
            intro RR
            refine WL.take rfl ?_
            refine WL.move rfl rfl ?_
            exact WL.done ⟨_, rfl, rfl, rfl, (fun h => absurd h (by decide)), (fun j h => by cases h)⟩
          · intro w57 hE
            have hE := hE rfl
            have hS := hS.grow hE
            rintro _ rfl
            rintro _ rfl
            rintro _ rfl
            rintro _ rfl
            intro RR
            refine WL.take rfl ?_
            refine WL.call Try.func29 rfl Try.nm29 rfl rfl (calls_un (ok_psub (GFX.gfr (hS.chunk (i := 2) rfl)) (hS.ro hp) (hS.ro ht) o65)) ?_
            rintro _ w62 ⟨_, hGw62, hRww62, hNww62, x58q, A59, k60, rfl, rfl, he⟩
            subst he
            have hO63 := (hRww62.get (i := 0) rfl).1
            have hN64 : ∀ g, bl A59 = some g → _ ≤ g := fun g hg => Nat.le_trans hE.size (hNww62.1 g hg)
            exact WL.done ⟨_, rfl, hGw62, ⟨A59, k60, rfl, hO63, hN64⟩, (fun _ => fun g hg => ⟨hNww62.1 g hg, (hO63.bl_ge g hg).2⟩), (fun j h => by cases h)⟩
          · intro w66 hE
            have hE := hE rfl
            have hS := hS.grow hE
            rintro _ rfl
            intro RR
            refine WL.take rfl ?_
            refine WL.loadV (cs := [.int .i64 Pf, .int .i64 Mf, .slice Af mf.length kf]) Try.el24 Try.agg24 rfl rfl (Own.vcells (hS.own (i := 3) rfl)) rfl ?_
            exact WL.done ⟨_, rfl, ext_refl _, rfl, (fun h => absurd h (by decide)), (fun j h => by cases h)⟩
          · intro w67 hE
            rintro _ rfl
            intro RR
            refine WL.take rfl ?_
            refine WL.move rfl rfl ?_
            exact WL.done ⟨_, rfl, rfl, rfl, (fun h => absurd h (by decide)), (fun j h => by cases h)⟩
          · intro w68 hE
            rintro _ rfl
            intro RR
            refine WL.take rfl ?_
            refine WL.move rfl rfl ?_
            exact WL.done ⟨_, rfl, rfl, rfl, (fun h => absurd h (by decide)), (fun j h => by cases h)⟩
          · intro w69 hE
            have hE := hE rfl
            have hS := hS.grow hE
            rintro _ rfl
            rintro _ rfl
            rintro _ rfl
            rintro _ rfl
            intro RR
            refine WL.take rfl ?_
            refine WL.call Try.func30 rfl Try.nm30 rfl rfl (calls_un (ok_rpsub (hS.ro hf) (hS.ro hp) (hS.ro ht) o77)) ?_
            rintro _ w74 ⟨_, hGw74, hRww74, hNww74, x70q, A71, k72, rfl, rfl, he⟩
            subst he
            have hO75 := (hRww74.get (i := 0) rfl).1
            have hN76 : ∀ g, bl A71 = some g → _ ≤ g := fun g hg => Nat.le_trans hE.size (hNww74.1 g hg)
            exact WL.done ⟨_, rfl, hGw74, ⟨A71, k72, rfl, hO75, hN76⟩, (fun _ => fun g hg => ⟨hNww74.1 g hg, (hO75.bl_ge g hg).2⟩), (fun j h => by cases h)⟩
          · intro w78 hE
            have hE := hE rfl
            have hS := hS.grow hE
            rintro _ rfl
            rintro _ ⟨A59_10, k60_10, rfl, hO63_10, hN64_10⟩
            rintro _ ⟨A71_14, k72_14, rfl, hO75_14, hN76_14⟩
            intro RR
            refine WL.take rfl ?_
            refine WL.call Try.func23 rfl Try.nm23 rfl rfl (calls_un (ok_lsame hO63_10.rd hO75_14.rd o81)) ?_
            rintro _ w80 ⟨_, hGw80, hRww80, hNww80, r79, rfl, rfl, he⟩
            subst he
            exact WL.done ⟨_, rfl, hGw80, rfl, (fun h => absurd h (by decide)), (fun j h => by cases h)⟩
          · intro w82 hE
            rintro _ rfl
            rintro _ rfl
            intro RR
            refine WL.pick rfl rfl rfl ?_
            exact WL.done ⟨_, rfl, rfl, rfl, (fun h => absurd h (by decide)), (fun j h => by cases h)⟩
          · intro w83 hE
            rintro _ rfl
            intro RR
            refine WL.move rfl rfl ?_
            exact WL.done ⟨_, rfl, rfl, rfl, (fun h => absurd h (by decide)), (fun j h => by cases h)⟩
          · intro w84 hE
            rintro _ rfl
            intro RR
            refine WL.take rfl ?_
            refine WL.move rfl rfl ?_
            exact WL.done ⟨_, rfl, rfl, rfl, (fun h => absurd h (by decide)), (fun j h => by cases h)⟩
          · intro w85 hE
            rintro _ rfl
            intro RR
            refine WL.take rfl ?_
            refine WL.move rfl rfl ?_
            exact WL.done ⟨_, rfl, rfl, rfl, (fun h => absurd h (by decide)), (fun j h => by cases h)⟩
          · intro w86 hE
            rintro _ rfl
            intro RR
            refine WL.take rfl ?_
            refine WL.move rfl rfl ?_
            exact WL.done ⟨_, rfl, rfl, rfl, (fun h => absurd h (by decide)), (fun j h => by cases h)⟩
          · intro w87 hE
            have hE := hE rfl
            have hS := hS.grow hE
            rintro _ rfl
            rintro _ rfl
            rintro _ rfl
            rintro _ rfl
            intro RR
            refine WL.take rfl ?_
            refine WL.call Try.func29 rfl Try.nm29 rfl rfl (calls_un (ok_psub (GFX.gfr (hS.chunk (i := 2) rfl)) (hS.rd (i := 0) rfl) (hS.ro ht) o95)) ?_
            rintro _ w92 ⟨_, hGw92, hRww92, hNww92, x88q, A89, k90, rfl, rfl, he⟩
            subst he
            have hO93 := (hRww92.get (i := 0) rfl).1
            have hN94 : ∀ g, bl A89 = some g → _ ≤ g := fun g hg => Nat.le_trans hE.size (hNww92.1 g hg)
            exact WL.done ⟨_, rfl, hGw92, ⟨A89, k90, rfl, hO93, hN94⟩, (fun _ => fun g hg => ⟨hNww92.1 g hg, (hO93.bl_ge g hg).2⟩), (fun j h => by cases h)⟩
          · intro w96 hE
            have hE := hE rfl
            have hS := hS.grow hE
            rintro _ rfl
            intro RR
            refine WL.take rfl ?_
            refine WL.loadV (cs := [.int .i64 Pf, .int .i64 Mf, .slice Af mf.length kf]) Try.el24 Try.agg24 rfl rfl (Own.vcells (hS.own (i := 3) rfl)) rfl ?_
            exact WL.done ⟨_, rfl, ext_refl _, rfl, (fun h => absurd h (by decide)), (fun j h => by cases h)⟩
          · intro w97 hE
            rintro _ rfl
            intro RR
            refine WL.take rfl ?_
            refine WL.move rfl rfl ?_
            exact WL.done ⟨_, rfl, rfl, rfl, (fun h => absurd h (by decide)), (fun j h => by cases h)⟩
          · intro w98 hE
            have hE := hE rfl
            have hS := hS.grow hE
            rintro _ rfl
            rintro _ rfl
            rintro _ rfl
            intro RR
            refine WL.take rfl ?_
            refine WL.call Try.func24 rfl Try.nm24 rfl rfl (calls_un (ok_rcanon (hS.ro hf) (hS.ro hp) o106)) ?_
            rintro _ w103 ⟨_, hGw103, hRww103, hNww103, x99q, A100, k101, rfl, rfl, he⟩
            subst he
            have hO104 := (hRww103.get (i := 0) rfl).1
            have hN105 : ∀ g, bl A100 = some g → _ ≤ g := fun g hg => Nat.le_trans hE.size (hNww103.1 g hg)
            exact WL.done ⟨_, rfl, hGw103, ⟨A100, k101, rfl, hO104, hN105⟩, (fun _ => fun g hg => ⟨hNww103.1 g hg, (hO104.bl_ge g hg).2⟩), (fun j h => by cases h)⟩
          · intro w107 hE
            have hE := hE rfl
            have hS := hS.grow hE
            rintro _ rfl
            rintro _ ⟨A89_21, k90_21, rfl, hO93_21, hN94_21⟩
            rintro _ ⟨A100_24, k101_24, rfl, hO104_24, hN105_24⟩
            intro RR
            refine WL.take rfl ?_
            refine WL.call Try.func23 rfl Try.nm23 rfl rfl (calls_un (ok_lsame hO93_21.rd hO104_24.rd o110)) ?_
            rintro _ w109 ⟨_, hGw109, hRww109, hNww109, r108q, rfl, rfl, he⟩
            subst he
            exact WL.done ⟨_, rfl, hGw109, rfl, (fun h => absurd h (by decide)), (fun j h => by cases h)⟩
          · intro w111 hE
            rintro _ rfl
            rintro _ rfl
            intro RR
            refine WL.pick rfl rfl rfl ?_
            exact WL.done ⟨_, rfl, rfl, rfl, (fun h => absurd h (by decide)), (fun j h => by cases h)⟩
          · intro w112 hE
            rintro _ rfl
            intro RR
            refine WL.assign rfl rfl ?_
            exact WL.done ⟨_, rfl, rfl, rfl, (fun h => absurd h (by decide)), (fun j h => by cases h)⟩
        · intro vals w113 hT hVs hAp hCp
          have hS := hS.grow hT
          have hv0 : vals 0 = _ := hVs 0 (by decide)
          have hv1 : vals 1 = _ := hVs 1 (by decide)
          have hv2 : vals 2 = _ := hVs 2 (by decide)
          have hv3 : vals 3 = _ := hVs 3 (by decide)
          obtain ⟨A42_4, k43_4, hv4, hO46_4, hN47_4⟩ := hVs 4 (by decide)
          have hv5 : vals 5 = _ := hVs 5 (by decide)
          have hv6 : vals 6 = _ := hVs 6 (by decide)
          have hv7 : vals 7 = _ := hVs 7 (by decide)
          have hv8 : vals 8 = _ := hVs 8 (by decide)
          have hv9 : vals 9 = _ := hVs 9 (by decide)
          obtain ⟨A59_10, k60_10, hv10, hO63_10, hN64_10⟩ := hVs 10 (by decide)
          have hv11 : vals 11 = _ := hVs 11 (by decide)
          have hv12 : vals 12 = _ := hVs 12 (by decide)
          have hv13 : vals 13 = _ := hVs 13 (by decide)
          obtain ⟨A71_14, k72_14, hv14, hO75_14, hN76_14⟩ := hVs 14 (by decide)
          have hv15 : vals 15 = _ := hVs 15 (by decide)
          have hv16 : vals 16 = _ := hVs 16 (by decide)
          have hv17 : vals 17 = _ := hVs 17 (by decide)
          have hv18 : vals 18 = _ := hVs 18 (by decide)
          have hv19 : vals 19 = _ := hVs 19 (by decide)
          have hv20 : vals 20 = _ := hVs 20 (by decide)
          obtain ⟨A89_21, k90_21, hv21, hO93_21, hN94_21⟩ := hVs 21 (by decide)
          have hv22 : vals 22 = _ := hVs 22 (by decide)
          have hv23 : vals 23 = _ := hVs 23 (by decide)
          obtain ⟨A100_24, k101_24, hv24, hO104_24, hN105_24⟩ := hVs 24 (by decide)
          have hv25 : vals 25 = _ := hVs 25 (by decide)
          have hv26 : vals 26 = _ := hVs 26 (by decide)
          have hv27 : vals 27 = _ := hVs 27 (by decide)
          rw [show (List.filterMap (fun i => Option.map (fun t => (t, vals i)) (dstAt _ i)) (List.range _)) = [(26, .slice A33 x32.length k34), (27, .agg #[.int .i64 Pf, .int .i64 Mf, .slice Af mf.length kf]), (28, .slice Ap p.length kp), (29, .slice At t.length kt), (30, .slice A42_4 x41.length k43_4), (31, .bool true), (32, .bool true), (33, .pointer (some ad20)), (34, .slice Ap p.length kp), (35, .slice At t.length kt), (36, .slice A59_10 x58.length k60_10), (37, .agg #[.int .i64 Pf, .int .i64 Mf, .slice Af mf.length kf]), (38, .slice Ap p.length kp), (39, .slice At t.length kt), (40, .slice A71_14 x70.length k72_14), (41, .bool true), (42, .bool true), (43, .bool true), (44, .pointer (some ad20)), (45, .slice A33 x32.length k34), (46, .slice At t.length kt), (47, .slice A89_21 x88.length k90_21), (48, .agg #[.int .i64 Pf, .int .i64 Mf, .slice Af mf.length kf]), (49, .slice Ap p.length kp), (50, .slice A100_24 x99.length k101_24), (51, .bool r108), (52, .bool r108), (6, .bool r108)] from by
            show [(26, vals 0), (27, vals 1), (28, vals 2), (29, vals 3), (30, vals 4), (31, vals 5), (32, vals 6), (33, vals 7), (34, vals 8), (35, vals 9), (36, vals 10), (37, vals 11), (38, vals 12), (39, vals 13), (40, vals 14), (41, vals 15), (42, vals 16), (43, vals 17), (44, vals 18), (45, vals 19), (46, vals 20), (47, vals 21), (48, vals 22), (49, vals 23), (50, vals 24), (51, vals 25), (52, vals 26), (6, vals 27)] = _
            rw [hv0, hv1, hv2, hv3, hv4, hv5, hv6, hv7, hv8, hv9, hv10, hv11, hv12, hv13, hv14, hv15, hv16, hv17, hv18, hv19, hv20, hv21, hv22, hv23, hv24, hv25, hv26, hv27]]
          refine WA.done (by decide +kernel) ?_
          refine W.ret ?_
          refine ⟨_, rfl, Fin.nil ?_⟩
          exact ⟨_, hS.ext, (hS.pick [] rfl).rows, News.of (hS.pick [] rfl).rows rfl, ⟨r108, rfl, rfl, hv⟩⟩

end Go.Proofs.Ytmdigamgojfjdaa
set_option linter.unusedVariables false
set_option linter.unusedSimpArgs false
namespace Go.Proofs.Ytmdigamgojfjdaa
open Ks
/-! ### the laws -/
section
variable {k : Ks} {F : GFv} {P M : Int} {mf : List Int}
theorem law_PolyAdds (p t : List Int) : V_PolyAdds P M mf p t (fun b => b = true) := by
  refine w_alive ⟨fun h => absurd h (by decide), fun _ => w_made (fun _ => rfl) fun F k K hF => w_short2 rfl fun hp ht => ?_⟩
  have h1 := L_len (k := k) ((pol_max p t).1.add (pol_max p t).2)
  have h2 := L_len (k := k) ((pol_max p t).1.sub (pol_max p t).2)
  have h3 := L_len (pol_su (k := k) p)
  refine w_padd K (by omega) (by omega) ⟨_, w_rpadd hF (by omega) (by omega) rfl, w_same (by omega) rfl rfl, _, w_psub K (by omega) (by omega) rfl, _, w_rpsub hF (by omega) (by omega) rfl, w_same (by omega) rfl rfl, _, w_psub K (by omega) (by omega) rfl, _, w_rcanon hF (by omega) rfl, _, w_same ?_ ?_ rfl, rfl⟩
  all_goals rw [pol_L ((pol_fs p).add (pol_fs t)), Cr.add_sub]
  omega
end
end Go.Proofs.Ytmdigamgojfjdaa
