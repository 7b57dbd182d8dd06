/- What only this law leans on. -/
import Derived.Test.YtmdigamgojfjdaaPolyAddsG12
set_option linter.unusedSimpArgs false
set_option linter.unusedVariables false
namespace Go.Proofs.Ytmdigamgojfjdaa
open Go.ChangeShapes Go.WideShapes Go.ChangeAt Go.RowKit
/-! ### arguments that came in: arrays of three lists, lists of lists -/
theorem al_of {W : World} : ∀ (n : Nat) (V : Nat → Value) (X : Nat → List Int), (∀ i, i < n → ∃ A k B, V i = .slice A (X i).length k ∧ Rd B W 1 A (X i).length k (is (X i))) → Al W ((List.range n).map V) ((List.range n).map X)
  | 0, _, _, _ => trivial
  | n + 1, V, X, h => by
    rw [List.range_succ_eq_map, List.map_cons, List.map_cons, List.map_map, List.map_map]
    exact ⟨h 0 (Nat.succ_pos n), al_of n _ _ fun i hi => h (i + 1) (Nat.succ_lt_succ hi)⟩
section
variable {H : Type} {enc : TypeId × Value → H} {P : Program} {W : World} {base : Nat} {spare : Nat → Bool} {held : Bool}
theorem sls_arg {t e u : TypeId} {A : Option Addr} {m c : Nat} {d : DataW H} {p : List MemPlace} (ht : P.underlying t = some (.slice e)) (he : P.underlying e = some (.slice u)) (hu : P.underlying u = some (.int .i64)) (hc : P.cellsOf e = 1) (hcu : P.cellsOf u = 1) (h : DataW.Trod enc P W base spare held t (.slice A m c) d p) :
    ∃ ls, Rl W A m c ls := by
  obtain ⟨fuel, hf⟩ := h
  rcases Go.Deep.open_slice1 ht hc hf with ⟨hcs, hx⟩ | ⟨a, len, cap, k, n, V, D, Pl, hcs, _, hl, hm, hk, hx, hcell⟩
  · simp [Value.cells] at hcs
    obtain ⟨rfl, rfl, rfl⟩ := hcs
    exact ⟨[], Rl.nil W⟩
  · simp [Value.cells] at hcs
    obtain ⟨rfl, rfl, rfl⟩ := hcs
    have hmk : m ≤ k := by rw [hk]; split <;> omega
    have key : ∀ i, i < m → ∃ xs : List Int, ∃ A' k' B', V i = .slice A' xs.length k' ∧ Rd B' W 1 A' xs.length k' (is xs) := fun i hi => by
      obtain ⟨_, h2⟩ := hcell i (by omega)
      obtain ⟨A', m', c', xs, hv, hR⟩ := ints_cell he hu hcu h2
      have hlen := hR.ilen
      subst hlen
      exact ⟨xs, A', c', _, hv, hR⟩
    obtain ⟨X, hX⟩ := Go.Deep.choose_lt key
    refine ⟨(List.range m).map X, ⟨_, (List.range m).map V, Rd.norm (B := a.block + 1) ⟨by simp, hl, hm, fun _ => ⟨a, rfl, Nat.lt_succ_self _, fun j u hu => ?_⟩⟩, al_of m V X hX⟩⟩
    rw [List.getElem?_map] at hu
    have hj : j < m := by
      rcases Nat.lt_or_ge j m with h | h
      · exact h
      · rw [List.getElem?_eq_none (by simpa using h)] at hu; cases hu
    rw [List.getElem?_range hj] at hu
    simp only [Option.map_some, Option.some.injEq] at hu
    rw [← hu]
    exact (hcell j (by omega)).1
end
end Go.Proofs.Ytmdigamgojfjdaa
set_option linter.unusedSimpArgs false
set_option linter.unusedVariables false
namespace Go.Proofs.Ytmdigamgojfjdaa
open Go.RowKit
def V_PolyMultiplies (Pf : Int) (Mf : Int) (mf : List Int) (a : Int) (fs : List (List Int)) (Q : Bool → Prop) : Prop :=
  V_alive  (fun r14 => (((!r14) = true) → Q false) ∧ ((!r14) = false → (V_made Pf Mf mf (fun q => match q with | none => Q true | some F19 => (((4 : Int) < ((fs.length : Nat) : Int)) → Q true) ∧ (¬ ((4 : Int) < ((fs.length : Nat) : Int)) → (V_short fs (fun r27 => (((!r27) = true) → Q true) ∧ ((!r27) = false → (∃ (I47 : List Int → Int → Prop) (μ48 : List Int → Int → Nat), I47 ([(1 : Int)] : List Int) (0 : Int) ∧ ∀ (x42 : List Int) (z46 : Int), (I47 x42 z46 → (((z46 < ((fs.length : Nat) : Int)) → ((0 ≤ z46 ∧ z46 < (fs.length : Nat)) ∧ (V_rpmul Pf Mf mf x42 (gl fs z46) (fun x58 => (I64 (z46 + (1 : Int))) ∧ (I47 x58 (z46 + (1 : Int)) ∧ μ48 x58 (z46 + (1 : Int)) < μ48 x42 z46))))) ∧ (¬ (z46 < ((fs.length : Nat) : Int)) → (V_pmul F19 fs (fun x64 => (V_lsame x64 x42 (fun q => q = true)) ∧ (∃ (x79 : List Int), V_pscale F19 a x64 (fun q => q = x79) ∧ (∃ (x91 : List Int), V_rpscale Pf Mf mf a x42 (fun q => q = x91) ∧ (∃ (r100 : Bool), V_lsame x79 x91 (fun q => q = r100) ∧ Q r100)))))))))))))))))
theorem ok_PolyMultiplies {w : World} {Q : Bool → Prop} {Pf : Int} {Mf : Int} {mf : List Int} {a : Int} {fs : List (List Int)} {Bf : Nat} {Af : Option Addr} {nf kf : Nat} (hf : Rd Bf w 1 Af nf kf (is mf)) {Afs : Option Addr} {nfs kfs : Nat} (hfs : Rl w Afs nfs kfs fs) (hv : V_PolyMultiplies Pf Mf mf a fs Q) :
    Calls Try.prog 5 #[.agg #[.int .i64 Pf, .int .i64 Mf, .slice Af nf kf], .int .i64 a, .slice Afs nfs kfs] w fun e w' => ∃ v Qr, e = .returned v ∧ w.grownBy w' none ∧ Rows w.heap.size none w' Qr ∧ News w.heap.size Qr ∧ ∃ (r0 : Bool), v = .bool r0 ∧ Qr = [] ∧ Q r0 := by
  have hnf := hf.ilen
  subst hnf
  have hnfs := hfs.len
  subst hnfs
  refine calls_swap ?_
  refine calls_of_W (vs := [.agg #[.int .i64 Pf, .int .i64 Mf, .slice Af mf.length kf], .int .i64 a, .slice Afs fs.length kfs]) [6] Try.func5 rfl rfl rfl rfl ?_
  have hS := St.start w
  unfold V_PolyMultiplies at hv
  refine W.seq ?_
  refine W.region ?_
  refine SL.box (z := 3) (cs := [.int .i64 Pf, .int .i64 Mf, .slice Af mf.length kf]) hS rfl rfl rfl rfl ?_
  intro g11 w12 hS
  refine WL.assign rfl rfl ?_
  refine WL.done ?_
  refine W.seq ?_
  refine W.seq ?_
  refine W.region ?_
  refine SL.call hS (ok_alive  hv) Try.func20 rfl Try.nm20 rfl rfl ?_
  rintro _ _ w13 ⟨r14, rfl, rfl, hv⟩ hGw13 hS
  change St _ _ _ _ [.row 24 3 (some ⟨g11, 0, none⟩) 1 1 [.int .i64 Pf, .int .i64 Mf, .slice Af mf.length kf]] at hS
  refine WL.not rfl rfl ?_
  refine WL.done ?_
  refine W.cond2 rfl (fun c15 => ?_) (fun c15 => ?_)
  · have hv := hv.1 (c15)
    refine W.seq ?_
    refine W.region ?_
    refine WL.assign rfl rfl ?_
    refine WL.done ?_
    refine W.ret ?_
    refine ⟨_, rfl, Fin.nil ?_⟩
    exact ⟨_, hS.ext, (hS.pick [] rfl).rows, News.of (hS.pick [] rfl).rows rfl, ⟨false, rfl, rfl, hv⟩⟩
  · have hv := hv.2 (c15)
    refine W.skip ?_
    refine W.seq ?_
    refine W.region ?_
    refine WL.loadV (cs := [.int .i64 Pf, .int .i64 Mf, .slice Af mf.length kf]) Try.el24 Try.agg24 rfl rfl (Own.vcells (hS.own (i := 0) rfl)) rfl ?_
    refine SL.call hS (ok_made (hS.ro hf) hv) Try.func21 rfl Try.nm21 rfl rfl ?_
    rintro _ _ w17 ⟨o, hv, hK⟩ hGw17 hS
    cases o with
    | none =>
      obtain ⟨rfl, rfl⟩ := hK
      change St _ _ _ _ [.row 24 3 (some ⟨g11, 0, none⟩) 1 1 [.int .i64 Pf, .int .i64 Mf, .slice Af mf.length kf]] at hS
      refine WL.assign rfl rfl ?_
      refine WL.done ?_
      refine W.seq ?_
      refine W.seq ?_
      refine W.region ?_
      refine WL.move rfl rfl ?_
      refine WL.eqlPn Try.underlying26 rfl rfl rfl rfl ?_
      refine WL.move rfl rfl ?_
      refine WL.pass rfl rfl rfl ?_
      refine WL.pass rfl rfl rfl ?_
      refine WL.pass rfl rfl rfl ?_
      refine WL.pick rfl rfl rfl ?_
      refine WL.move rfl rfl ?_
      refine WL.pass rfl rfl rfl ?_
      refine WL.pass rfl rfl rfl ?_
      refine WL.pass rfl rfl rfl ?_
      refine WL.pick rfl rfl rfl ?_
      refine WL.done ?_
      refine W.condT rfl ?_
      refine W.seq ?_
      refine W.region ?_
      refine WL.assign rfl rfl ?_
      refine WL.done ?_
      refine W.ret ?_
      refine ⟨_, rfl, Fin.nil ?_⟩
      exact ⟨_, hS.ext, (hS.pick [] rfl).rows, News.of (hS.pick [] rfl).rows rfl, ⟨true, rfl, rfl, hv⟩⟩
    | some F19 =>
      obtain ⟨ad20, lo21, hi22, rfl, rfl⟩ := hK
      change St _ _ _ _ [.ch lo21 hi22 (fun wz => GFX lo21 hi22 wz ad20 F19), .row 24 3 (some ⟨g11, 0, none⟩) 1 1 [.int .i64 Pf, .int .i64 Mf, .slice Af mf.length kf]] at hS
      refine WL.assign rfl rfl ?_
      refine WL.done ?_
      refine W.seq ?_
      refine W.seq ?_
      refine W.region ?_
      refine WL.move rfl rfl ?_
      refine WL.eqlPn Try.underlying26 rfl rfl rfl rfl ?_
      refine WL.move rfl rfl ?_
      refine WL.take rfl ?_
      refine WL.move rfl rfl ?_
      refine WL.take rfl ?_
      refine WL.len Try.underlying37 rfl rfl ?_
      refine WL.take rfl ?_
      refine WL.gtrD rfl rfl rfl ?_
      refine WL.pick rfl rfl rfl ?_
      refine WL.move rfl rfl ?_
      by_cases g25 : (4 : Int) < ((fs.length : Nat) : Int)
      · have hv := hv.1 g25
        rw [decide_eq_true g25]
        refine WL.pass rfl rfl rfl ?_
        refine WL.pass rfl rfl rfl ?_
        refine WL.pass rfl rfl rfl ?_
        refine WL.pick rfl rfl rfl ?_
        refine WL.done ?_
        refine W.condT rfl ?_
        refine W.seq ?_
        refine W.region ?_
        refine WL.assign rfl rfl ?_
        refine WL.done ?_
        refine W.ret ?_
        refine ⟨_, rfl, Fin.nil ?_⟩
        exact ⟨_, hS.ext, (hS.pick [] rfl).rows, News.of (hS.pick [] rfl).rows rfl, ⟨true, rfl, rfl, hv⟩⟩
      · have hv := hv.2 g25
        rw [decide_eq_false g25]
        refine WL.take rfl ?_
        refine WL.move rfl rfl ?_
        refine WL.take rfl ?_
        refine SL.call hS (ok_short (hfs.ext hS.ext) hv) Try.func26 rfl Try.nm26 rfl rfl ?_
        rintro _ _ w26 ⟨r27, rfl, rfl, hv⟩ hGw26 hS
        change St _ _ _ _ [.ch lo21 hi22 (fun wz => GFX lo21 hi22 wz ad20 F19), .row 24 3 (some ⟨g11, 0, none⟩) 1 1 [.int .i64 Pf, .int .i64 Mf, .slice Af mf.length kf]] at hS
        refine WL.take rfl ?_
        refine WL.not rfl rfl ?_
        refine WL.pick rfl rfl rfl ?_
        refine WL.done ?_
        refine W.cond2 rfl (fun c28 => ?_) (fun c28 => ?_)
        · have hv := hv.1 (c28)
          refine W.seq ?_
          refine W.region ?_
          refine WL.assign rfl rfl ?_
          refine WL.done ?_
          refine W.ret ?_
          refine ⟨_, rfl, Fin.nil ?_⟩
          exact ⟨_, hS.ext, (hS.pick [] rfl).rows, News.of (hS.pick [] rfl).rows rfl, ⟨true, rfl, rfl, hv⟩⟩
        · have hv := hv.2 (c28)
          refine W.skip ?_
          refine W.seq ?_
          refine W.region ?_
          refine SL.lit1 (vs := is ([(1 : Int)] : List Int)) hS Try.underlying22 Try.el3 rfl rfl rfl rfl (is_one _) rfl ?_
          intro A29 w30 hS
          refine WL.assign rfl rfl ?_
          refine WL.done ?_
          refine W.seq ?_
          refine W.seq ?_
          refine W.region ?_
          refine WL.move rfl rfl ?_
          refine WL.len Try.underlying37 rfl rfl ?_
          refine WL.move rfl rfl ?_
          refine WL.done ?_
          refine W.block ?_
          obtain ⟨I47, μ48, hv, hk106⟩ := hv
          have hm0 : 1 = ([(1 : Int)] : List Int).length := (hS.rd (i := 0) rfl).ilen.symm
          have hS := hS.relen (i := 0) rfl hm0
          change St _ _ _ _ [.row 3 1 A29 ([(1 : Int)] : List Int).length 1 (is ([(1 : Int)] : List Int)), .ch lo21 hi22 (fun wz => GFX lo21 hi22 wz ad20 F19), .row 24 3 (some ⟨g11, 0, none⟩) 1 1 [.int .i64 Pf, .int .i64 Mf, .slice Af mf.length kf]] at hS
          refine W.loop (σ := List Int × Int × Option Addr × Nat) (fun q w1 => match q with | (x42, z46, A43, k44) => I47 x42 z46 ∧ St TT w none w1 [.row 3 1 A43 x42.length k44 (is x42), .ch lo21 hi22 (fun wz => GFX lo21 hi22 wz ad20 F19), .row 24 3 (some ⟨g11, 0, none⟩) 1 1 [.int .i64 Pf, .int .i64 Mf, .slice Af mf.length kf]]) (fun q => match q with | (x42, z46, A43, k44) => [(1, .int .i64 a), (2, .slice Afs fs.length kfs), (3, .pointer (some ⟨g11, 0, none⟩)), (6, .bool false), (7, .pointer (some ad20)), (8, .slice A43 x42.length k44), (29, .slice Afs fs.length kfs), (30, .int .i64 ((fs.length : Nat) : Int)), (31, .int .i64 z46)]) (fun q => match q with | (x42, z46, A43, k44) => μ48 x42 z46) (([(1 : Int)] : List Int), (0 : Int), A29, 1) ⟨hv, hS⟩ ⟨rfl, rfl, rfl, rfl, rfl, (sm (by first | rfl | assumption | omega)), rfl, rfl, rfl, trivial⟩ ?_
          rintro ⟨x42, z46, A43, k44⟩ w49 ⟨hv, hS⟩
          have hv := hk106 x42 z46 hv
          refine W.seq ?_
          refine W.region ?_
          refine WL.lssD rfl rfl rfl ?_
          refine WL.done ?_
          refine W.seq ?_
          refine W.cond2 rfl (fun c50 => ?_) (fun c50 => ?_)
          · have hv := hv.1 (of_decide_eq_true c50)
            refine W.skip ?_
            refine W.seq ?_
            refine W.block ?_
            refine W.seq ?_
            refine W.region ?_
            obtain ⟨o51, hv⟩ := hv
            refine SL.indexL Try.underlying37 Try.el22 hfs rfl rfl o51 rfl ?_
            obtain ⟨A52, k53, B54, hc55, hr56⟩ := Rl.at_ hfs o51
            have hc55 := hS.cell hc55
            refine WL.load Try.underlying22 rfl rfl hc55 rfl ?_
            refine WL.assign rfl rfl ?_
            refine WL.done ?_
            refine W.region ?_
            refine WL.loadV (cs := [.int .i64 Pf, .int .i64 Mf, .slice Af mf.length kf]) Try.el24 Try.agg24 rfl rfl (Own.vcells (hS.own (i := 2) rfl)) rfl ?_
            refine WL.move rfl rfl ?_
            refine WL.move rfl rfl ?_
            refine SL.call hS (ok_rpmul (hS.ro hf) (hS.rd (i := 0) rfl) (hS.ro hr56) hv) Try.func31 rfl Try.nm31 rfl rfl ?_
            rintro _ _ w57 ⟨x58, A59, k60, rfl, rfl, hv⟩ hGw57 hS
            change St _ _ _ _ [.row 3 1 A59 x58.length k60 (is x58), .row 3 1 A43 x42.length k44 (is x42), .ch lo21 hi22 (fun wz => GFX lo21 hi22 wz ad20 F19), .row 24 3 (some ⟨g11, 0, none⟩) 1 1 [.int .i64 Pf, .int .i64 Mf, .slice Af mf.length kf]] at hS
            refine WL.assign rfl rfl ?_
            refine WL.done ?_
            refine W.region ?_
            obtain ⟨o62, hv⟩ := hv
            refine WL.add (r := (z46 + (1 : Int))) rfl rfl (wr o62) rfl ?_
            refine WL.move rfl rfl ?_
            refine WL.done ?_
            have hS := hS.pick [0, 2, 3] rfl
            change St _ _ _ _ [.row 3 1 A59 x58.length k60 (is x58), .ch lo21 hi22 (fun wz => GFX lo21 hi22 wz ad20 F19), .row 24 3 (some ⟨g11, 0, none⟩) 1 1 [.int .i64 Pf, .int .i64 Mf, .slice Af mf.length kf]] at hS
            exact ⟨(x58, (z46 + (1 : Int)), A59, k60), ⟨rfl, rfl, rfl, rfl, rfl, rfl, rfl, rfl, rfl, trivial⟩, hv.2, rfl, hv.1, hS⟩
          · have hv := hv.2 (of_decide_eq_false c50)
            refine W.exit ?_
            refine W.seq ?_
            refine W.region ?_
            refine WL.move rfl rfl ?_
            refine WL.move rfl rfl ?_
            refine SL.call hS (ok_pmul (GFX.gfr (hS.chunk (i := 1) rfl)) (hfs.ext hS.ext) hv) Try.func32 rfl Try.nm32 rfl rfl ?_
            rintro _ _ w63 ⟨x64, A65, k66, rfl, rfl, hv⟩ hGw63 hS
            change St _ _ _ _ [.row 3 1 A65 x64.length k66 (is x64), .row 3 1 A43 x42.length k44 (is x42), .ch lo21 hi22 (fun wz => GFX lo21 hi22 wz ad20 F19), .row 24 3 (some ⟨g11, 0, none⟩) 1 1 [.int .i64 Pf, .int .i64 Mf, .slice Af mf.length kf]] at hS
            refine WL.assign rfl rfl ?_
            refine WL.done ?_
            refine W.seq ?_
            obtain ⟨o73, hv⟩ := hv
            obtain ⟨x79, o86, hv⟩ := hv
            obtain ⟨x91, o98, hv⟩ := hv
            obtain ⟨r100, o102, hv⟩ := hv
            have hS0 := hS
            refine W.drawX 15 (fun iA => [false, false, false, false, false, false, false, true, false, false, false, true, false, false, false].getD iA false) (fun _ => none) [⟨[], [11], true⟩, ⟨[], [8], true⟩, ⟨[0, 1], [], false⟩, ⟨[2], [], true⟩, ⟨[3], [7], true⟩, ⟨[3], [1], true⟩, ⟨[3], [11], true⟩, ⟨[3, 4, 5, 6], [], false⟩, ⟨[3], [3], false⟩, ⟨[3], [1], true⟩, ⟨[3], [8], true⟩, ⟨[3, 8, 9, 10], [], false⟩, ⟨[3, 7, 11], [], false⟩, ⟨[3, 12], [], true⟩, ⟨[13], [], true⟩] [[(11, .slice A65 x64.length k66)], [(8, .slice A43 x42.length k44)], [], [], [(7, .pointer (some ad20))], [(1, .int .i64 a)], [(11, .slice A65 x64.length k66)], [], [(3, .pointer (some ⟨g11, 0, none⟩))], [(1, .int .i64 a)], [(8, .slice A43 x42.length k44)], [], [], [], []] (fun iQ => [fun v _ => v = .slice A65 x64.length k66, fun v _ => v = .slice A43 x42.length k44, fun v _ => v = .bool true, fun v _ => v = .bool true, fun v _ => v = .pointer (some ad20), fun v _ => v = .int .i64 a, fun v _ => v = .slice A65 x64.length k66, fun v wQ => ∃ A80_7 k81_7, v = .slice A80_7 x79.length k81_7 ∧ Own 0 wQ 3 1 A80_7 x79.length k81_7 (is x79) ∧ (∀ g, bl A80_7 = some g → w63.heap.size ≤ g), fun v _ => v = .agg #[.int .i64 Pf, .int .i64 Mf, .slice Af mf.length kf], fun v _ => v = .int .i64 a, fun v _ => v = .slice A43 x42.length k44, fun v wQ => ∃ A92_11 k93_11, v = .slice A92_11 x91.length k93_11 ∧ Own 0 wQ 3 1 A92_11 x91.length k93_11 (is x91) ∧ (∀ g, bl A92_11 = some g → w63.heap.size ≤ g), fun v _ => v = .bool r100, fun v _ => v = .bool r100, fun v _ => v = .bool r100].getD iQ (fun _ _ => True)) Try.mixed (by kernel_rfl) ?_ (by kernel_rfl) ?_ ?_
            · refine Vs_monoT _ ?_
              intro VQ hVQ vQ wQ1 wQ2 hQ1 hQ2
              simp only [List.mem_cons, List.not_mem_nil, or_false] at hVQ
              rcases hVQ with rfl | rfl | rfl | rfl | rfl | rfl | rfl | rfl | rfl | rfl | rfl | rfl | rfl | rfl | rfl
              · exact hQ1
              · exact hQ1
              · exact hQ1
              · exact hQ1
              · exact hQ1
              · exact hQ1
              · exact hQ1
              · obtain ⟨A80_7, k81_7, hQe, hO84_7, hN85_7⟩ := hQ1
                exact ⟨A80_7, k81_7, hQe, hO84_7.ext hQ2, hN85_7⟩
              · exact hQ1
              · exact hQ1
              · exact hQ1
              · obtain ⟨A92_11, k93_11, hQe, hO96_11, hN97_11⟩ := hQ1
                exact ⟨A92_11, k93_11, hQe, hO96_11.ext hQ2, hN97_11⟩
              · exact hQ1
              · exact hQ1
              · exact hQ1
            · refine ⟨⟨rfl, ⟨rfl, trivial⟩, ?_⟩, ⟨rfl, ⟨rfl, trivial⟩, ?_⟩, ⟨rfl, trivial, ?_⟩, ⟨rfl, trivial, ?_⟩, ⟨rfl, ⟨rfl, trivial⟩, ?_⟩, ⟨rfl, ⟨rfl, trivial⟩, ?_⟩, ⟨rfl, ⟨rfl, trivial⟩, ?_⟩, ⟨rfl, trivial, ?_⟩, ⟨rfl, ⟨rfl, trivial⟩, ?_⟩, ⟨rfl, ⟨rfl, trivial⟩, ?_⟩, ⟨rfl, ⟨rfl, trivial⟩, ?_⟩, ⟨rfl, trivial, ?_⟩, ⟨rfl, trivial, ?_⟩, ⟨rfl, trivial, ?_⟩, ⟨rfl, trivial, ?_⟩, trivial⟩
              · intro w68 hE
                intro RR
                refine WL.move rfl rfl ?_
                exact WL.done ⟨_, rfl, rfl, rfl, (fun h => absurd h (by decide)), (fun j h => by cases h)⟩
              · intro w69 hE
                intro RR
                refine WL.move rfl rfl ?_
                exact WL.done ⟨_, rfl, rfl, rfl, (fun h => absurd h (by decide)), (fun j h => by cases h)⟩
              · intro w70 hE
                have hE := hE rfl
                have hS := hS.grow hE
                rintro _ rfl
                rintro _ rfl
                intro RR
                refine WL.call Try.func23 rfl Try.nm23 rfl rfl (calls_un (ok_lsame (hS.rd (i := 0) rfl) (hS.rd (i := 1) rfl) o73)) ?_
                rintro _ w72 ⟨_, hGw72, hRww72, hNww72, r71, rfl, rfl, he⟩
                subst he
                exact WL.done ⟨_, rfl, hGw72, rfl, (fun h => absurd h (by decide)), (fun j h => by cases h)⟩
              · intro w74 hE
                rintro _ rfl
                intro RR
                refine WL.move rfl rfl ?_
                exact WL.done ⟨_, rfl, rfl, rfl, (fun h => absurd h (by decide)), (fun j h => by cases h)⟩
              · intro w75 hE
                rintro _ rfl
                intro RR
                refine WL.take rfl ?_
                refine WL.move rfl rfl ?_
                exact WL.done ⟨_, rfl, rfl, rfl, (fun h => absurd h (by decide)), (fun j h => by cases h)⟩
              · intro w76 hE
                rintro _ rfl
                intro RR
                refine WL.take rfl ?_
                refine WL.move rfl rfl ?_
                exact WL.done ⟨_, rfl, rfl, rfl, (fun h => absurd h (by decide)), (fun j h => by cases h)⟩
              · intro w77 hE
                rintro _ rfl
                intro RR
                refine WL.take rfl ?_
                refine WL.move rfl rfl ?_
                exact WL.done ⟨_, rfl, rfl, rfl, (fun h => absurd h (by decide)), (fun j h => by cases h)⟩
              · intro w78 hE
                have hE := hE rfl
                have hS := hS.grow hE
                rintro _ rfl
                rintro _ rfl
                rintro _ rfl
                rintro _ rfl
                intro RR
                refine WL.take rfl ?_
                refine WL.call Try.func33 rfl Try.nm33 rfl rfl (calls_un (ok_pscale (GFX.gfr (hS.chunk (i := 2) rfl)) (hS.rd (i := 0) rfl) o86)) ?_
                rintro _ w83 ⟨_, hGw83, hRww83, hNww83, x79q, A80, k81, rfl, rfl, he⟩
                subst he
                have hO84 := (hRww83.get (i := 0) rfl).1
                have hN85 : ∀ g, bl A80 = some g → _ ≤ g := fun g hg => Nat.le_trans hE.size (hNww83.1 g hg)
                exact WL.done ⟨_, rfl, hGw83, ⟨A80, k81, rfl, hO84, hN85⟩, (fun _ => fun g hg => ⟨hNww83.1 g hg, (hO84.bl_ge g hg).2⟩), (fun j h => by cases h)⟩
              · intro w87 hE
                have hE := hE rfl
                have hS := hS.grow hE
                rintro _ rfl
                intro RR
                refine WL.take rfl ?_
                refine WL.loadV (cs := [.int .i64 Pf, .int .i64 Mf, .slice Af mf.length kf]) Try.el24 Try.agg24 rfl rfl (Own.vcells (hS.own (i := 3) rfl)) rfl ?_
                exact WL.done ⟨_, rfl, ext_refl _, rfl, (fun h => absurd h (by decide)), (fun j h => by cases h)⟩
              · intro w88 hE
                rintro _ rfl
                intro RR
                refine WL.take rfl ?_
                refine WL.move rfl rfl ?_
                exact WL.done ⟨_, rfl, rfl, rfl, (fun h => absurd h (by decide)), (fun j h => by cases h)⟩
              · intro w89 hE
                rintro _ rfl
                intro RR
                refine WL.take rfl ?_
                refine WL.move rfl rfl ?_
                exact WL.done ⟨_, rfl, rfl, rfl, (fun h => absurd h (by decide)), (fun j h => by cases h)⟩
              · intro w90 hE
                have hE := hE rfl
                have hS := hS.grow hE
                rintro _ rfl
                rintro _ rfl
                rintro _ rfl
                rintro _ rfl
                intro RR
                refine WL.take rfl ?_
                refine WL.call Try.func34 rfl Try.nm34 rfl rfl (calls_un (ok_rpscale (hS.ro hf) (hS.rd (i := 1) rfl) o98)) ?_
                rintro _ w95 ⟨_, hGw95, hRww95, hNww95, x91q, A92, k93, rfl, rfl, he⟩
                subst he
                have hO96 := (hRww95.get (i := 0) rfl).1
                have hN97 : ∀ g, bl A92 = some g → _ ≤ g := fun g hg => Nat.le_trans hE.size (hNww95.1 g hg)
                exact WL.done ⟨_, rfl, hGw95, ⟨A92, k93, rfl, hO96, hN97⟩, (fun _ => fun g hg => ⟨hNww95.1 g hg, (hO96.bl_ge g hg).2⟩), (fun j h => by cases h)⟩
              · intro w99 hE
                have hE := hE rfl
                have hS := hS.grow hE
                rintro _ rfl
                rintro _ ⟨A80_7, k81_7, rfl, hO84_7, hN85_7⟩
                rintro _ ⟨A92_11, k93_11, rfl, hO96_11, hN97_11⟩
                intro RR
                refine WL.take rfl ?_
                refine WL.call Try.func23 rfl Try.nm23 rfl rfl (calls_un (ok_lsame hO84_7.rd hO96_11.rd o102)) ?_
                rintro _ w101 ⟨_, hGw101, hRww101, hNww101, r100q, rfl, rfl, he⟩
                subst he
                exact WL.done ⟨_, rfl, hGw101, rfl, (fun h => absurd h (by decide)), (fun j h => by cases h)⟩
              · intro w103 hE
                rintro _ rfl
                rintro _ rfl
                intro RR
                refine WL.pick rfl rfl rfl ?_
                exact WL.done ⟨_, rfl, rfl, rfl, (fun h => absurd h (by decide)), (fun j h => by cases h)⟩
              · intro w104 hE
                rintro _ rfl
                intro RR
                refine WL.assign rfl rfl ?_
                exact WL.done ⟨_, rfl, rfl, rfl, (fun h => absurd h (by decide)), (fun j h => by cases h)⟩
            · intro vals w105 hT hVs hAp hCp
              have hS := hS.grow hT
              have hv0 : vals 0 = _ := hVs 0 (by decide)
              have hv1 : vals 1 = _ := hVs 1 (by decide)
              have hv2 : vals 2 = _ := hVs 2 (by decide)
              have hv3 : vals 3 = _ := hVs 3 (by decide)
              have hv4 : vals 4 = _ := hVs 4 (by decide)
              have hv5 : vals 5 = _ := hVs 5 (by decide)
              have hv6 : vals 6 = _ := hVs 6 (by decide)
              obtain ⟨A80_7, k81_7, hv7, hO84_7, hN85_7⟩ := hVs 7 (by decide)
              have hv8 : vals 8 = _ := hVs 8 (by decide)
              have hv9 : vals 9 = _ := hVs 9 (by decide)
              have hv10 : vals 10 = _ := hVs 10 (by decide)
              obtain ⟨A92_11, k93_11, hv11, hO96_11, hN97_11⟩ := hVs 11 (by decide)
              have hv12 : vals 12 = _ := hVs 12 (by decide)
              have hv13 : vals 13 = _ := hVs 13 (by decide)
              have hv14 : vals 14 = _ := hVs 14 (by decide)
              rw [show (List.filterMap (fun i => Option.map (fun t => (t, vals i)) (dstAt _ i)) (List.range _)) = [(43, .slice A65 x64.length k66), (44, .slice A43 x42.length k44), (45, .bool true), (46, .bool true), (47, .pointer (some ad20)), (48, .int .i64 a), (49, .slice A65 x64.length k66), (50, .slice A80_7 x79.length k81_7), (51, .agg #[.int .i64 Pf, .int .i64 Mf, .slice Af mf.length kf]), (52, .int .i64 a), (53, .slice A43 x42.length k44), (54, .slice A92_11 x91.length k93_11), (55, .bool r100), (56, .bool r100), (6, .bool r100)] from by
                show [(43, vals 0), (44, vals 1), (45, vals 2), (46, vals 3), (47, vals 4), (48, vals 5), (49, vals 6), (50, vals 7), (51, vals 8), (52, vals 9), (53, vals 10), (54, vals 11), (55, vals 12), (56, vals 13), (6, vals 14)] = _
                rw [hv0, hv1, hv2, hv3, hv4, hv5, hv6, hv7, hv8, hv9, hv10, hv11, hv12, hv13, hv14]]
              refine WA.done (by decide +kernel) ?_
              refine W.ret ?_
              refine ⟨_, rfl, Fin.nil ?_⟩
              exact ⟨_, hS.ext, (hS.pick [] rfl).rows, News.of (hS.pick [] rfl).rows rfl, ⟨r100, rfl, rfl, hv⟩⟩

end Go.Proofs.Ytmdigamgojfjdaa
set_option linter.unusedVariables false
set_option linter.unusedSimpArgs false
namespace Go.Proofs.Ytmdigamgojfjdaa
open Ks
/-! ### the laws -/
section
variable {k : Ks} {F : GFv} {P M : Int} {mf : List Int}
theorem law_PolyMultiplies (a : Int) (fs : List (List Int)) : V_PolyMultiplies P M mf a fs (fun b => b = true) := by
  refine w_alive ⟨fun h => absurd h (by decide), fun _ => w_made (fun _ => rfl) fun F k K hF => ⟨fun _ => rfl, fun hn => w_short (by omega) ⟨fun _ => rfl, fun e => absurd e (by decide)⟩ fun hs => nb ?_⟩⟩
  have hb : ∀ i : Nat, i < fs.length → (gl fs i).length ≤ 1000 := fun i hi => by have := hs i hi; omega
  refine ⟨fun x z => ∃ j : Nat, z = j ∧ j ≤ fs.length ∧ x = k.L (lpm k fs j), fun x z => (fs.length - z).toNat, ⟨0, rfl, Nat.zero_le _, L_one.symm⟩, ?_⟩
  rintro _ _ ⟨j, rfl, hj, rfl⟩
  dsimp only
  have hsu : ∀ n, n ≤ fs.length → Su (lpm k fs n) (1 + n * 24) := fun n => by
    induction n with
    | zero => intro _; exact Su.one
    | succ n ih => intro h; exact ((ih (by omega)).mul ((pol_su _).mono (hs n (by omega)))).mono (by omega)
  have hl := L_len (k := k) (hsu j hj)
  refine ⟨fun hz => ⟨⟨by omega, by omega⟩, w_rpmul (k := k) hF (by omega) (by have := hs j (by omega); omega) ⟨small (by omega) (by omega), ⟨j + 1, by push_cast; rfl, by omega, ?_⟩, by omega⟩⟩, fun hz => ?_⟩
  · rw [pol_L ⟨_, hsu j hj⟩]; rfl
  · have hjn : j = fs.length := by omega
    subst hjn
    refine w_pmul K (by omega) hb ⟨w_same (by omega) rfl rfl, _, w_pscale K (by omega) rfl, _, w_rpscale hF (by omega) rfl, _, w_same ?_ rfl rfl, rfl⟩
    rw [pol_L ⟨_, hsu _ hj⟩]
    exact Nat.le_trans (L_len ((hsu _ hj).ct _)) (by omega)
end
end Go.Proofs.Ytmdigamgojfjdaa
