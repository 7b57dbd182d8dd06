/- What only this law leans on. -/
import Derived.Test.YtmdigamgojfjdaaPolyMonicG11
set_option linter.unusedSimpArgs false
set_option linter.unusedVariables false
namespace Go.Proofs.Ytmdigamgojfjdaa
open Go.RowKit
section
variable {X : World → Prop} {w0 w w' : World} {mr : Option Nat} {R : List Rw}
end
section
variable {P : Program} {n : Nat} {ro : Option Nat} {df : List Deferred} {N : Post} {L : Fr} {w w0 : World} {ops : Array Oper} {rest : List Oper}
variable {d : Nat} {ty : TypeId} {pos : String} {af : Array Edge} {X : World → Prop} {mr : Option Nat} {R : List Rw}
/-- A literal of a slice of one-cell elements, in a region that draws its order. -/
theorem SL.litL {t e : TypeId} {by_ : Nat} {zero : Value} {k : Nat} {parts : List (Nat × Operand)} {vs : List Value} (ht : P.underlying t = some (.slice e)) (he : Elem P e 1 by_ zero)
    (hx : evs L (parts.map (·.2)) = some vs) (hk : Nat.ble k 1000 = true) (hp : parts.map (·.1) = List.range' 0 k) (hl : vs.length = k) (h1 : ∀ v ∈ vs, v.oneCell' = true) (hn : Nat.blt d n = true)
    (h : ∀ A c w', Own 0 w' e 1 A k c vs → (∀ g, bl A = some g → w.heap.size ≤ g) → w.grownBy w' none → WL P n ro df ops rest N ((d, .slice A k c) :: L) w') :
    WL P n ro df ops (⟨some d, .buildSlice t k parts.toArray, ty, pos, af, none⟩ :: rest) N L w :=
  WL.lit1 (b := w.heap.size) ht he hk hx hp hl h1 (Nat.le_refl _) hn fun A w' hA hO hG => h A k w' (hO.low (Nat.zero_le _)) (fun g hg => (hO.bl_ge g hg).1) hG
end
end Go.Proofs.Ytmdigamgojfjdaa
set_option linter.unusedVariables false
namespace Go.Proofs.Ytmdigamgojfjdaa
open Go.RowKit
theorem Try.nm51 : (Try.f51.name == "runtime.NumGoroutine") = false := by kernel_rfl
theorem Try.nm52 : (Try.f52.name == "runtime.NumGoroutine") = false := by kernel_rfl
end Go.Proofs.Ytmdigamgojfjdaa
set_option linter.unusedVariables false
set_option linter.unusedSimpArgs false
set_option linter.unusedSectionVars false
namespace Go.Proofs.Ytmdigamgojfjdaa
section
variable {α : Type} [Cr α]
theorem vl_zero (x : α) : vl_ (0 : Pl α) x = 0 := vl_eq (Su.zero 0) x
/-! composition -/
def cmp (p : Pl α) (n : Nat) (q : Pl α) : Pl α := sgm (fun i => ct (p i) * pwr q i) n
theorem fs_pwr {q : Pl α} (hq : Fs q) : ∀ n, Fs (pwr q n)
  | 0 => Fs.one
  | n + 1 => (fs_pwr hq n).mul hq
theorem fs_sgm {f : Nat → Pl α} : ∀ {n : Nat}, (∀ i, i < n → Fs (f i)) → Fs (sgm f n)
  | 0, _ => Fs.zero
  | n + 1, h => (fs_sgm (n := n) fun i hi => h i (by omega)).add (h n (by omega))
theorem fs_cmp (p : Pl α) (n : Nat) {q : Pl α} (hq : Fs q) : Fs (cmp p n q) := fs_sgm fun i _ => (Fs.ct _).mul (fs_pwr hq i)
theorem vl_pwr {q : Pl α} (hq : Fs q) (x : α) : ∀ n, vl_ (pwr q n) x = pwr (vl_ q x) n
  | 0 => vl_one x
  | n + 1 => by rw [pwr, vl_mul (fs_pwr hq n) hq, vl_pwr hq x n]; rfl
theorem vl_cmp (p : Pl α) {q : Pl α} (hq : Fs q) (x : α) : ∀ n, vl_ (cmp p n q) x = evp p n (vl_ q x)
  | 0 => vl_zero x
  | n + 1 => by
    show vl_ (cmp p n q + ct (p n) * pwr q n) x = evp p n (vl_ q x) + p n * pwr (vl_ q x) n
    rw [vl_add (fs_cmp p n hq) ((Fs.ct _).mul (fs_pwr hq n)), vl_cmp p hq x n, vl_mul (Fs.ct _) (fs_pwr hq n), vl_ct, vl_pwr hq]
theorem cmp_horner (p : Pl α) (q : Pl α) (n : Nat) : cmp p (n + 1) q = cmp (fun i => p (i + 1)) n q * q + ct (p 0) := by
  unfold cmp
  rw [sgm_front, Cr.add_comm, ← sgm_mulr]
  congr 1
  · exact sgm_congr fun i _ => by rw [pwr, Cr.mul_assoc]
  · exact Cr.mul_one _
end
section
variable {α : Type} [Cr α] [Fd α]
end
end Go.Proofs.Ytmdigamgojfjdaa
set_option linter.unusedSimpArgs false
set_option linter.unusedVariables false
namespace Go.Proofs.Ytmdigamgojfjdaa
open Go.RowKit
def V_compose (Fg : GFv) (p : List Int) (t : List Int) (Q : List Int × Int → Prop) : Prop :=
  ∃ (x18 : List Int), V_canon Fg p (fun q => q = x18) ∧ (V_canon Fg t (fun x31 => (I64 (((x18.length : Nat) : Int) - (1 : Int))) ∧ ((I64 (((x31.length : Nat) : Int) - (1 : Int))) ∧ ((I64 ((max (0 : Int) (((x18.length : Nat) : Int) - (1 : Int))) * (max (0 : Int) (((x31.length : Nat) : Int) - (1 : Int))))) ∧ ((((256 : Int) < ((max (0 : Int) (((x18.length : Nat) : Int) - (1 : Int))) * (max (0 : Int) (((x31.length : Nat) : Int) - (1 : Int))))) → (Q (([] : List Int), (8 : Int)))) ∧ (¬ ((256 : Int) < ((max (0 : Int) (((x18.length : Nat) : Int) - (1 : Int))) * (max (0 : Int) (((x31.length : Nat) : Int) - (1 : Int))))) → (V_backward x18 (fun _ => ∃ (I57 : Nat → List Int → Prop), I57 0 ([] : List Int) ∧ (∀ i44 : Nat, i44 < x18.length → ∀ (x53 : List Int), I57 i44 x53 → (∃ (x71 : List Int), V_pmul Fg ([x53, x31] : List (List Int)) (fun q => q = x71) ∧ (V_padd Fg x71 ([(gi x18 ((x18.length - 1 - i44 : Nat) : Int))] : List Int) (fun x91 => I57 (i44 + 1) x91)))) ∧ (∀ (x53 : List Int), I57 x18.length x53 → (Q (x53, (0 : Int))))))))))))
theorem ok_compose {w : World} {Q : List Int × Int → Prop} {Fg : GFv} {p : List Int} {t : List Int} {ag : Addr} {Bg : Nat} (hgg : GFR Bg w ag Fg) {Bp : Nat} {Ap : Option Addr} {np kp : Nat} (hp : Rd Bp w 1 Ap np kp (is p)) {Bt : Nat} {At : Option Addr} {nt kt : Nat} (ht : Rd Bt w 1 At nt kt (is t)) (hv : V_compose Fg p t Q) :
    Calls Try.prog 51 #[.pointer (some ag), .slice Ap np kp, .slice At nt kt] w fun e w' => ∃ v Qr, e = .returned v ∧ w.grownBy w' none ∧ Rows w.heap.size none w' Qr ∧ News w.heap.size Qr ∧ ∃ (r0 : List Int) (r1 : Int) (Ar0 : Option Addr) (cr0 : Nat), v = .tuple #[.slice Ar0 r0.length cr0, .int .i64 r1] ∧ Qr = [.row 3 1 Ar0 r0.length cr0 (is r0)] ∧ Q (r0, r1) := by
  have hgg_ := hgg
  obtain ⟨Ag_mod, kg_mod, Ag_exp, kg_exp, Ag_log, kg_log, Ag_above, kg_above, hg_c, hg_mod, hg_exp, hg_log, hg_above⟩ := hgg_
  have hnp := hp.ilen
  subst hnp
  have hnt := ht.ilen
  subst hnt
  refine calls_swap ?_
  refine calls_of_W (vs := [.pointer (some ag), .slice Ap p.length kp, .slice At t.length kt]) [6, 7] Try.func51 rfl rfl rfl rfl ?_
  have hS := St.start w
  unfold V_compose at hv
  refine W.seq ?_
  refine W.region ?_
  refine SL.box (z := 1) (cs := [.pointer (some ag)]) hS rfl rfl rfl rfl ?_
  intro g11 w12 hS
  refine SL.box (z := 1) (cs := [.slice At t.length kt]) hS rfl rfl rfl rfl ?_
  intro g13 w14 hS
  refine WL.assign rfl rfl ?_
  refine WL.assign rfl rfl ?_
  refine WL.done ?_
  refine W.seq ?_
  obtain ⟨x18, o25, hv⟩ := hv
  have hS0 := hS
  refine W.drawX 5 (fun iA => [false, false, true, false, false].getD iA false) (fun _ => none) [⟨[], [3], false⟩, ⟨[], [1], true⟩, ⟨[0, 1], [], false⟩, ⟨[], [3], false⟩, ⟨[], [5], false⟩] [[(3, .pointer (some ⟨g11, 0, none⟩))], [(1, .slice Ap p.length kp)], [], [(3, .pointer (some ⟨g11, 0, none⟩))], [(5, .pointer (some ⟨g13, 0, none⟩))]] (fun iQ => [fun v _ => v = .pointer (some ag), fun v _ => v = .slice Ap p.length kp, fun v wQ => ∃ A19_2 k20_2, v = .slice A19_2 x18.length k20_2 ∧ Own 0 wQ 3 1 A19_2 x18.length k20_2 (is x18) ∧ (∀ g, bl A19_2 = some g → w14.heap.size ≤ g), fun v _ => v = .pointer (some ag), fun v _ => v = .slice At t.length kt].getD iQ (fun _ _ => True)) Try.mixed (by kernel_rfl) ?_ (by kernel_rfl) ?_ ?_
  · refine Vs_monoT _ ?_
    intro VQ hVQ vQ wQ1 wQ2 hQ1 hQ2
    simp only [List.mem_cons, List.not_mem_nil, or_false] at hVQ
    rcases hVQ with rfl | rfl | rfl | rfl | rfl
    · exact hQ1
    · exact hQ1
    · obtain ⟨A19_2, k20_2, hQe, hO23_2, hN24_2⟩ := hQ1
      exact ⟨A19_2, k20_2, hQe, hO23_2.ext hQ2, hN24_2⟩
    · exact hQ1
    · exact hQ1
  · refine ⟨⟨rfl, ⟨rfl, trivial⟩, ?_⟩, ⟨rfl, ⟨rfl, trivial⟩, ?_⟩, ⟨rfl, trivial, ?_⟩, ⟨rfl, ⟨rfl, trivial⟩, ?_⟩, ⟨rfl, ⟨rfl, trivial⟩, ?_⟩, trivial⟩
    · intro w15 hE
      have hE := hE rfl
      have hS := hS.grow hE
      intro RR
      refine WL.load Try.underlying26 rfl rfl (Own.vcells (hS.own (i := 1) rfl) 0 _ rfl) rfl ?_
      exact WL.done ⟨_, rfl, ext_refl _, rfl, (fun h => absurd h (by decide)), (fun j h => by cases h)⟩
    · intro w16 hE
      intro RR
      refine WL.move rfl rfl ?_
      exact WL.done ⟨_, rfl, rfl, rfl, (fun h => absurd h (by decide)), (fun j h => by cases h)⟩
    · intro w17 hE
      have hE := hE rfl
      have hS := hS.grow hE
      rintro _ rfl
      rintro _ rfl
      intro RR
      refine WL.call Try.func22 rfl Try.nm22 rfl rfl (calls_un (ok_canon (GFR.ext (GFR.norm hgg) hS.ext) (hS.ro hp) o25)) ?_
      rintro _ w22 ⟨_, hGw22, hRww22, hNww22, x18q, A19, k20, rfl, rfl, he⟩
      subst he
      have hO23 := (hRww22.get (i := 0) rfl).1
      have hN24 : ∀ g, bl A19 = some g → _ ≤ g := fun g hg => Nat.le_trans hE.size (hNww22.1 g hg)
      exact WL.done ⟨_, rfl, hGw22, ⟨A19, k20, rfl, hO23, hN24⟩, (fun _ => fun g hg => ⟨hNww22.1 g hg, (hO23.bl_ge g hg).2⟩), (fun j h => by cases h)⟩
    · intro w26 hE
      have hE := hE rfl
      have hS := hS.grow hE
      intro RR
      refine WL.load Try.underlying26 rfl rfl (Own.vcells (hS.own (i := 1) rfl) 0 _ rfl) rfl ?_
      exact WL.done ⟨_, rfl, ext_refl _, rfl, (fun h => absurd h (by decide)), (fun j h => by cases h)⟩
    · intro w27 hE
      have hE := hE rfl
      have hS := hS.grow hE
      intro RR
      refine WL.load Try.underlying22 rfl rfl (Own.vcells (hS.own (i := 0) rfl) 0 _ rfl) rfl ?_
      exact WL.done ⟨_, rfl, ext_refl _, rfl, (fun h => absurd h (by decide)), (fun j h => by cases h)⟩
  · intro vals w28 hT hVs hAp hCp
    have hS := hS.grow hT
    have hv0 : vals 0 = _ := hVs 0 (by decide)
    have hv1 : vals 1 = _ := hVs 1 (by decide)
    obtain ⟨A19_2, k20_2, hv2, hO23_2, hN24_2⟩ := hVs 2 (by decide)
    have hv3 : vals 3 = _ := hVs 3 (by decide)
    have hv4 : vals 4 = _ := hVs 4 (by decide)
    have hS := St.addOwn [] hS0 hS hO23_2 hN24_2 (fun s hs => by cases hs)
    change St _ _ _ _ [.row 3 1 A19_2 x18.length k20_2 (is x18), .row 22 1 (some ⟨g13, 0, none⟩) 1 1 [.slice At t.length kt], .row 26 1 (some ⟨g11, 0, none⟩) 1 1 [.pointer (some ag)]] at hS
    rw [show (List.filterMap (fun i => Option.map (fun t => (t, vals i)) (dstAt _ i)) (List.range _)) = [(11, .pointer (some ag)), (12, .slice Ap p.length kp), (13, .slice A19_2 x18.length k20_2), (14, .pointer (some ag)), (15, .slice At t.length kt)] from by
      show [(11, vals 0), (12, vals 1), (13, vals 2), (14, vals 3), (15, vals 4)] = _
      rw [hv0, hv1, hv2, hv3, hv4]]
    refine WA.step [5] (by decide +kernel) rfl ?_
    intro iQ hQ
    simp only [List.mem_cons, List.not_mem_nil, or_false] at hQ
    obtain rfl := hQ
    refine ⟨_, rfl, ?_⟩
    refine SL.call hS (ok_canon (GFR.ext (GFR.norm hgg) hS.ext) (hS.ro ht) hv) Try.func22 rfl Try.nm22 rfl rfl ?_
    rintro _ _ w30 ⟨x31, A32, k33, rfl, rfl, hv⟩ hGw30 hS
    change St _ _ _ _ [.row 3 1 A32 x31.length k33 (is x31), .row 3 1 A19_2 x18.length k20_2 (is x18), .row 22 1 (some ⟨g13, 0, none⟩) 1 1 [.slice At t.length kt], .row 26 1 (some ⟨g11, 0, none⟩) 1 1 [.pointer (some ag)]] at hS
    refine WL.done ?_
    refine WA.step [6] (by decide +kernel) rfl ?_
    intro iQ hQ
    simp only [List.mem_cons, List.not_mem_nil, or_false] at hQ
    obtain rfl := hQ
    refine ⟨_, rfl, ?_⟩
    refine WL.assign rfl rfl ?_
    refine WL.done ?_
    refine WA.step [7] (by decide +kernel) rfl ?_
    intro iQ hQ
    simp only [List.mem_cons, List.not_mem_nil, or_false] at hQ
    obtain rfl := hQ
    refine ⟨_, rfl, ?_⟩
    refine SL.store (cs' := [.slice A32 x31.length k33]) 2 0 hS rfl Try.el22 rfl rfl rfl (of_ble rfl) rfl ?_
    intro w35 hS
    refine WL.done ?_
    refine WA.done (by decide +kernel) ?_
    refine W.seq ?_
    refine W.seq ?_
    refine W.region ?_
    refine WL.move rfl rfl ?_
    refine WL.len Try.underlying22 rfl rfl ?_
    obtain ⟨o36, hv⟩ := hv
    refine WL.sub (r := (((x18.length : Nat) : Int) - (1 : Int))) rfl rfl (wr o36) rfl ?_
    refine WL.max2 (r := (max (0 : Int) (((x18.length : Nat) : Int) - (1 : Int)))) rfl rfl rfl rfl ?_
    refine WL.load Try.underlying22 rfl rfl (Own.vcells (hS.own (i := 2) rfl) 0 _ rfl) rfl ?_
    refine WL.len Try.underlying22 rfl rfl ?_
    obtain ⟨o37, hv⟩ := hv
    refine WL.sub (r := (((x31.length : Nat) : Int) - (1 : Int))) rfl rfl (wr o37) rfl ?_
    refine WL.max2 (r := (max (0 : Int) (((x31.length : Nat) : Int) - (1 : Int)))) rfl rfl rfl rfl ?_
    obtain ⟨o38, hv⟩ := hv
    refine WL.mul (r := ((max (0 : Int) (((x18.length : Nat) : Int) - (1 : Int))) * (max (0 : Int) (((x31.length : Nat) : Int) - (1 : Int))))) rfl rfl (wr o38) rfl ?_
    refine WL.gtrD rfl rfl rfl ?_
    refine WL.done ?_
    refine W.cond2 rfl (fun c39 => ?_) (fun c39 => ?_)
    · have hv := hv.1 (of_decide_eq_true c39)
      refine W.seq ?_
      refine W.region ?_
      refine WL.assign rfl rfl ?_
      refine WL.assign rfl rfl ?_
      refine WL.done ?_
      refine W.ret ?_
      have hS := hS.nil (e := 3) (z := 1)
      refine ⟨_, rfl, Fin.nil ?_⟩
      exact ⟨_, hS.ext, (hS.pick [0] rfl).rows, News.of (hS.pick [0] rfl).rows rfl, ⟨([] : List Int), (8 : Int), none, 0, rfl, rfl, hv⟩⟩
    · have hv := hv.2 (of_decide_eq_false c39)
      refine W.skip ?_
      refine W.seq ?_
      refine W.region ?_
      refine SL.alloc (cs := [.slice none 0 0]) hS Try.el22 rfl rfl ?_
      intro g40 w41 hS
      refine WL.done ?_
      refine W.seq ?_
      refine W.seq ?_
      refine W.region ?_
      refine WL.move rfl rfl ?_
      refine SL.call hS (ok_backward (hS.rd (i := 2) rfl) hv) Try.func65 rfl Try.nm65 rfl rfl ?_
      rintro _ _ w42 ⟨g43, rfl, rfl, hv⟩ hGw42 hS
      change St _ _ _ _ [.row 22 1 (some ⟨g43, 0, none⟩) 1 1 [.slice A19_2 x18.length k20_2], .row 22 1 (some ⟨g40, 0, none⟩) 1 1 [.slice none 0 0], .row 3 1 A32 x31.length k33 (is x31), .row 3 1 A19_2 x18.length k20_2 (is x18), .row 22 1 (some ⟨g13, 0, none⟩) 1 1 [.slice A32 x31.length k33], .row 26 1 (some ⟨g11, 0, none⟩) 1 1 [.pointer (some ag)]] at hS
      refine WL.done ?_
      refine W.block ?_
      obtain ⟨I57, hv, hk98, hd99⟩ := hv
      have hS := hS.nil (e := 3) (z := 1)
      have hm0 : 0 = ([] : List Int).length := (hS.rd (i := 0) rfl).ilen.symm
      have hS := hS.relen (i := 0) rfl hm0
      change St _ _ _ _ [.row 3 1 none ([] : List Int).length 0 (is ([] : List Int)), .row 22 1 (some ⟨g43, 0, none⟩) 1 1 [.slice A19_2 x18.length k20_2], .row 22 1 (some ⟨g40, 0, none⟩) 1 1 [.slice none ([] : List Int).length 0], .row 3 1 A32 x31.length k33 (is x31), .row 3 1 A19_2 x18.length k20_2 (is x18), .row 22 1 (some ⟨g13, 0, none⟩) 1 1 [.slice A32 x31.length k33], .row 26 1 (some ⟨g11, 0, none⟩) 1 1 [.pointer (some ag)]] at hS
      refine SR.range (σ := List Int × Option Addr × Nat) (fun i q => match q with | (x53, A54, k55) => I57 i x53) (fun q => match q with | (x53, A54, k55) => [.row 3 1 A54 x53.length k55 (is x53), .row 22 1 (some ⟨g43, 0, none⟩) 1 1 [.slice A19_2 x18.length k20_2], .row 22 1 (some ⟨g40, 0, none⟩) 1 1 [.slice A54 x53.length k55], .row 3 1 A32 x31.length k33 (is x31), .row 3 1 A19_2 x18.length k20_2 (is x18), .row 22 1 (some ⟨g13, 0, none⟩) 1 1 [.slice A32 x31.length k33], .row 26 1 (some ⟨g11, 0, none⟩) 1 1 [.pointer (some ag)]]) (fun _ _ => False) (fun vs => [(3, .pointer (some ⟨g11, 0, none⟩)), (5, .pointer (some ⟨g13, 0, none⟩)), (6, .slice none 0 0), (7, .int .i64 (0 : Int)), (8, .pointer (some ⟨g40, 0, none⟩)), (10, vs.getD 1 undef)]) (([] : List Int), none, 0) hS hv (fun q => by obtain ⟨x53, A54, k55⟩ := q; exact trivial) rfl Try.func97 rfl Try.nm97 (backward_seq (A := A19_2) (m := x18.length) (c := k20_2) (Rd.m64 (hS.rd (i := 4) rfl))) (Below.refl _ _) (fun _ _ _ h => by obtain ⟨_, h, _⟩ := h; rw [h]; rfl) (fun i x => bw_stay) (by decide) (fun _ q _ _ hS => by obtain ⟨x53, A54, k55⟩ := q; exact ⟨Own.vcells (hS.own (i := 1) rfl) 0 _ rfl, _, _, (hS.rd (i := 4) rfl)⟩) ?_ ?_ ?_ ?_
      · intro lq vsq W1q hlq
        match vsq, hlq with
        | [a0, a1], _ =>
          refine W.region ?_
          refine WL.assign rfl rfl ?_
          refine WL.done ?_
          exact ⟨rfl, rfl, ⟨rfl, rfl, rfl, rfl, rfl, rfl, trivial⟩⟩
      · rintro lq i44 _ ⟨x53, A54, k55⟩ w58 hi ⟨vb, rfl, hcell⟩ hI hS
        have hvb : vb = (gi x18 ((x18.length - 1 - i44 : Nat) : Int)) := bw_val (hS.rd (i := 4) rfl) (by omega) hcell
        subst hvb
        have hv := hk98 i44 hi x53 hI
        refine W.block ?_
        obtain ⟨x71, o78, hv⟩ := hv
        have hS0 := hS
        refine W.drawX 8 (fun iA => [false, false, false, false, true, true, false, true].getD iA false) (fun _ => none) [⟨[], [3], false⟩, ⟨[], [3], false⟩, ⟨[], [8], false⟩, ⟨[], [5], false⟩, ⟨[2, 3], [], false⟩, ⟨[1, 4], [], false⟩, ⟨[], [10], true⟩, ⟨[6], [], false⟩] [[(3, .pointer (some ⟨g11, 0, none⟩))], [(3, .pointer (some ⟨g11, 0, none⟩))], [(8, .pointer (some ⟨g40, 0, none⟩))], [(5, .pointer (some ⟨g13, 0, none⟩))], [], [], [(10, .int .i64 (gi x18 ((x18.length - 1 - i44 : Nat) : Int)))], []] (fun iQ => [fun v _ => v = .pointer (some ag), fun v _ => v = .pointer (some ag), fun v _ => v = .slice A54 x53.length k55, fun v _ => v = .slice A32 x31.length k33, fun v wQ => ∃ A64_4 k67_4, v = .slice A64_4 2 k67_4 ∧ Own 0 wQ 22 1 A64_4 2 k67_4 [.slice A54 x53.length k55, .slice A32 x31.length k33] ∧ (∀ g, bl A64_4 = some g → w58.heap.size ≤ g), fun v wQ => ∃ A72_5 k73_5, v = .slice A72_5 x71.length k73_5 ∧ Own 0 wQ 3 1 A72_5 x71.length k73_5 (is x71) ∧ (∀ g, bl A72_5 = some g → w58.heap.size ≤ g), fun v _ => v = .int .i64 (gi x18 ((x18.length - 1 - i44 : Nat) : Int)), fun v wQ => ∃ A81_7 k84_7, v = .slice A81_7 1 k84_7 ∧ Own 0 wQ 3 1 A81_7 1 k84_7 (is ([(gi x18 ((x18.length - 1 - i44 : Nat) : Int))] : List Int)) ∧ (∀ g, bl A81_7 = some g → w58.heap.size ≤ g)].getD iQ (fun _ _ => True)) Try.mixed (by kernel_rfl) ?_ (by kernel_rfl) ?_ ?_
        · refine Vs_monoT _ ?_
          intro VQ hVQ vQ wQ1 wQ2 hQ1 hQ2
          simp only [List.mem_cons, List.not_mem_nil, or_false] at hVQ
          rcases hVQ with rfl | rfl | rfl | rfl | rfl | rfl | rfl | rfl
          · exact hQ1
          · exact hQ1
          · exact hQ1
          · exact hQ1
          · obtain ⟨A64_4, k67_4, hQe, hO68_4, hN69_4⟩ := hQ1
            exact ⟨A64_4, k67_4, hQe, hO68_4.ext hQ2, hN69_4⟩
          · obtain ⟨A72_5, k73_5, hQe, hO76_5, hN77_5⟩ := hQ1
            exact ⟨A72_5, k73_5, hQe, hO76_5.ext hQ2, hN77_5⟩
          · exact hQ1
          · obtain ⟨A81_7, k84_7, hQe, hO85_7, hN86_7⟩ := hQ1
            exact ⟨A81_7, k84_7, hQe, hO85_7.ext hQ2, hN86_7⟩
        · refine ⟨⟨rfl, ⟨rfl, trivial⟩, ?_⟩, ⟨rfl, ⟨rfl, trivial⟩, ?_⟩, ⟨rfl, ⟨rfl, trivial⟩, ?_⟩, ⟨rfl, ⟨rfl, trivial⟩, ?_⟩, ⟨rfl, trivial, ?_⟩, ⟨rfl, trivial, ?_⟩, ⟨rfl, ⟨rfl, trivial⟩, ?_⟩, ⟨rfl, trivial, ?_⟩, trivial⟩
          · intro w59 hE
            have hE := hE rfl
            have hS := hS.grow hE
            intro RR
            refine WL.load Try.underlying26 rfl rfl (Own.vcells (hS.own (i := 6) rfl) 0 _ rfl) rfl ?_
            exact WL.done ⟨_, rfl, ext_refl _, rfl, (fun h => absurd h (by decide)), (fun j h => by cases h)⟩
          · intro w60 hE
            have hE := hE rfl
            have hS := hS.grow hE
            intro RR
            refine WL.load Try.underlying26 rfl rfl (Own.vcells (hS.own (i := 6) rfl) 0 _ rfl) rfl ?_
            exact WL.done ⟨_, rfl, ext_refl _, rfl, (fun h => absurd h (by decide)), (fun j h => by cases h)⟩
          · intro w61 hE
            have hE := hE rfl
            have hS := hS.grow hE
            intro RR
            refine WL.load Try.underlying22 rfl rfl (Own.vcells (hS.own (i := 2) rfl) 0 _ rfl) rfl ?_
            exact WL.done ⟨_, rfl, ext_refl _, rfl, (fun h => absurd h (by decide)), (fun j h => by cases h)⟩
          · intro w62 hE
            have hE := hE rfl
            have hS := hS.grow hE
            intro RR
            refine WL.load Try.underlying22 rfl rfl (Own.vcells (hS.own (i := 5) rfl) 0 _ rfl) rfl ?_
            exact WL.done ⟨_, rfl, ext_refl _, rfl, (fun h => absurd h (by decide)), (fun j h => by cases h)⟩
          · intro w63 hE
            have hE := hE rfl
            have hS := hS.grow hE
            rintro _ rfl
            rintro _ rfl
            intro RR
            refine SL.litL (vs := [.slice A54 x53.length k55, .slice A32 x31.length k33]) Try.underlying37 Try.el22 rfl rfl rfl rfl (by simp [Value.oneCell']) rfl ?_
            intro A64 k67 w65 hO68 hN69g hGw65
            have hN69 : ∀ g, bl A64 = some g → _ ≤ g := fun g hg => Nat.le_trans hE.size (hN69g g hg)
            exact WL.done ⟨_, rfl, hGw65, ⟨A64, k67, rfl, hO68, hN69⟩, (fun _ => fun g hg => ⟨hN69g g hg, (hO68.bl_ge g hg).2⟩), (fun j h => by cases h)⟩
          · intro w70 hE
            have hE := hE rfl
            have hS := hS.grow hE
            rintro _ rfl
            rintro _ ⟨A64_4, k67_4, rfl, hO68_4, hN69_4⟩
            intro RR
            refine WL.call Try.func32 rfl Try.nm32 rfl rfl (calls_un (ok_pmul (GFR.ext (GFR.norm hgg) hS.ext) (fs := ([x53, x31] : List (List Int))) ⟨_, _, hO68_4.rd, ⟨⟨_, _, _, rfl, (Rd.is_m (hS.rd (i := 0) rfl))⟩, ⟨_, _, _, rfl, (Rd.is_m (hS.rd (i := 3) rfl))⟩, trivial⟩⟩ o78)) ?_
            rintro _ w75 ⟨_, hGw75, hRww75, hNww75, x71q, A72, k73, rfl, rfl, he⟩
            subst he
            have hO76 := (hRww75.get (i := 0) rfl).1
            have hN77 : ∀ g, bl A72 = some g → _ ≤ g := fun g hg => Nat.le_trans hE.size (hNww75.1 g hg)
            exact WL.done ⟨_, rfl, hGw75, ⟨A72, k73, rfl, hO76, hN77⟩, (fun _ => fun g hg => ⟨hNww75.1 g hg, (hO76.bl_ge g hg).2⟩), (fun j h => by cases h)⟩
          · intro w79 hE
            intro RR
            refine WL.move rfl rfl ?_
            exact WL.done ⟨_, rfl, rfl, rfl, (fun h => absurd h (by decide)), (fun j h => by cases h)⟩
          · intro w80 hE
            have hE := hE rfl
            have hS := hS.grow hE
            rintro _ rfl
            intro RR
            refine SL.litL (vs := is ([(gi x18 ((x18.length - 1 - i44 : Nat) : Int))] : List Int)) Try.underlying22 Try.el3 rfl rfl rfl rfl (is_one _) rfl ?_
            intro A81 k84 w82 hO85 hN86g hGw82
            have hN86 : ∀ g, bl A81 = some g → _ ≤ g := fun g hg => Nat.le_trans hE.size (hN86g g hg)
            exact WL.done ⟨_, rfl, hGw82, ⟨A81, k84, rfl, hO85, hN86⟩, (fun _ => fun g hg => ⟨hN86g g hg, (hO85.bl_ge g hg).2⟩), (fun j h => by cases h)⟩
        · intro vals w87 hT hVs hAp hCp
          have hS := hS.grow hT
          have hv0 : vals 0 = _ := hVs 0 (by decide)
          have hv1 : vals 1 = _ := hVs 1 (by decide)
          have hv2 : vals 2 = _ := hVs 2 (by decide)
          have hv3 : vals 3 = _ := hVs 3 (by decide)
          obtain ⟨A64_4, k67_4, hv4, hO68_4, hN69_4⟩ := hVs 4 (by decide)
          obtain ⟨A72_5, k73_5, hv5, hO76_5, hN77_5⟩ := hVs 5 (by decide)
          have hv6 : vals 6 = _ := hVs 6 (by decide)
          obtain ⟨A81_7, k84_7, hv7, hO85_7, hN86_7⟩ := hVs 7 (by decide)
          have hS := St.addOwn [] hS0 hS hO76_5 hN77_5 (fun s hs => by cases hs)
          have hap7_5 : ∀ g, bl A81_7 = some g → bl A72_5 ≠ some g := by have := hAp 7 5 (by decide) (by decide) (by decide) rfl rfl; rw [hv7, hv5] at this; exact this
          have hS := St.addOwn [.row 3 1 A72_5 x71.length k73_5 (is x71)] hS0 hS hO85_7 hN86_7 (by intro s hs g hg; simp only [List.mem_cons, List.not_mem_nil, or_false] at hs; obtain rfl := hs; exact hap7_5 g hg)
          change St _ _ _ _ [.row 3 1 A81_7 1 k84_7 (is ([(gi x18 ((x18.length - 1 - i44 : Nat) : Int))] : List Int)), .row 3 1 A72_5 x71.length k73_5 (is x71), .row 3 1 A54 x53.length k55 (is x53), .row 22 1 (some ⟨g43, 0, none⟩) 1 1 [.slice A19_2 x18.length k20_2], .row 22 1 (some ⟨g40, 0, none⟩) 1 1 [.slice A54 x53.length k55], .row 3 1 A32 x31.length k33 (is x31), .row 3 1 A19_2 x18.length k20_2 (is x18), .row 22 1 (some ⟨g13, 0, none⟩) 1 1 [.slice A32 x31.length k33], .row 26 1 (some ⟨g11, 0, none⟩) 1 1 [.pointer (some ag)]] at hS
          rw [show (List.filterMap (fun i => Option.map (fun t => (t, vals i)) (dstAt _ i)) (List.range _)) = [(31, .pointer (some ag)), (32, .pointer (some ag)), (33, .slice A54 x53.length k55), (34, .slice A32 x31.length k33), (35, .slice A64_4 2 k67_4), (36, .slice A72_5 x71.length k73_5), (37, .int .i64 (gi x18 ((x18.length - 1 - i44 : Nat) : Int))), (38, .slice A81_7 1 k84_7)] from by
            show [(31, vals 0), (32, vals 1), (33, vals 2), (34, vals 3), (35, vals 4), (36, vals 5), (37, vals 6), (38, vals 7)] = _
            rw [hv0, hv1, hv2, hv3, hv4, hv5, hv6, hv7]]
          refine WA.step [8] (by decide +kernel) rfl ?_
          intro iQ hQ
          simp only [List.mem_cons, List.not_mem_nil, or_false] at hQ
          obtain rfl := hQ
          refine ⟨_, rfl, ?_⟩
          refine SL.call hS (ok_padd (GFR.ext (GFR.norm hgg) hS.ext) (hS.rd (i := 1) rfl) (hS.rd (i := 0) rfl) hv) Try.func27 rfl Try.nm27 rfl rfl ?_
          rintro _ _ w90 ⟨x91, A92, k93, rfl, rfl, hv⟩ hGw90 hS
          change St _ _ _ _ [.row 3 1 A92 x91.length k93 (is x91), .row 3 1 A81_7 1 k84_7 (is ([(gi x18 ((x18.length - 1 - i44 : Nat) : Int))] : List Int)), .row 3 1 A72_5 x71.length k73_5 (is x71), .row 3 1 A54 x53.length k55 (is x53), .row 22 1 (some ⟨g43, 0, none⟩) 1 1 [.slice A19_2 x18.length k20_2], .row 22 1 (some ⟨g40, 0, none⟩) 1 1 [.slice A54 x53.length k55], .row 3 1 A32 x31.length k33 (is x31), .row 3 1 A19_2 x18.length k20_2 (is x18), .row 22 1 (some ⟨g13, 0, none⟩) 1 1 [.slice A32 x31.length k33], .row 26 1 (some ⟨g11, 0, none⟩) 1 1 [.pointer (some ag)]] at hS
          refine WL.done ?_
          refine WA.step [9] (by decide +kernel) rfl ?_
          intro iQ hQ
          simp only [List.mem_cons, List.not_mem_nil, or_false] at hQ
          obtain rfl := hQ
          refine ⟨_, rfl, ?_⟩
          refine SL.store (cs' := [.slice A92 x91.length k93]) 5 0 hS rfl Try.el22 rfl rfl rfl (of_ble rfl) rfl ?_
          intro w95 hS
          refine WL.done ?_
          refine WA.done (by decide +kernel) ?_
          have hS := hS.pick [0, 4, 5, 6, 7, 8, 9] rfl
          change St _ _ _ _ [.row 3 1 A92 x91.length k93 (is x91), .row 22 1 (some ⟨g43, 0, none⟩) 1 1 [.slice A19_2 x18.length k20_2], .row 22 1 (some ⟨g40, 0, none⟩) 1 1 [.slice A92 x91.length k93], .row 3 1 A32 x31.length k33 (is x31), .row 3 1 A19_2 x18.length k20_2 (is x18), .row 22 1 (some ⟨g13, 0, none⟩) 1 1 [.slice A32 x31.length k33], .row 26 1 (some ⟨g11, 0, none⟩) 1 1 [.pointer (some ag)]] at hS
          exact ⟨(x91, A92, k93), hv, hS⟩
      · rintro D96 ⟨x53, A54, k55⟩ w97 hv hD hS
        have hv := hd99 x53 hv
        refine W.seq ?_
        refine W.region ?_
        refine WL.load Try.underlying22 rfl rfl (Own.vcells (hS.own (i := 3) rfl) 0 _ rfl) rfl ?_
        refine WL.assign rfl rfl ?_
        refine WL.assign rfl rfl ?_
        refine WL.done ?_
        refine W.ret ?_
        have hS := hS.pick [0, 1] rfl
        obtain ⟨hDD96, hS⟩ := hS.taken trivial
        refine ⟨_, rfl, Fin.cons hDD96 (Fin.nil ?_)⟩
        exact ⟨_, hS.ext, (hS.pick [0] rfl).rows, News.of (hS.pick [0] rfl).rows rfl, ⟨x53, (0 : Int), A54, k55, rfl, rfl, hv⟩⟩
      · rintro _ e _ _ _ hv; exact hv.elim

end Go.Proofs.Ytmdigamgojfjdaa
set_option linter.unusedSimpArgs false
set_option linter.unusedVariables false
namespace Go.Proofs.Ytmdigamgojfjdaa
open Go.RowKit
def V_rcompose (Pf : Int) (Mf : Int) (mf : List Int) (p : List Int) (t : List Int) (Q : List Int → Prop) : Prop :=
  ∃ (I46 : List Int → List Int → Int → Prop) (μ47 : List Int → List Int → Int → Nat), I46 ([] : List Int) ([(1 : Int)] : List Int) (0 : Int) ∧ ∀ (x37 : List Int) (x41 : List Int) (z45 : Int), (I46 x37 x41 z45 → (V_rdeg Pf Mf mf p (fun r50 => ((z45 ≤ r50) → ((0 ≤ z45 ∧ z45 < (p.length : Nat)) ∧ (∃ (x62 : List Int), V_rpscale Pf Mf mf (gi p z45) x41 (fun q => q = x62) ∧ (∃ (x71 : List Int), V_rpadd Pf Mf mf x37 x62 (fun q => q = x71) ∧ (V_rpmul Pf Mf mf x41 t (fun x83 => (I64 (z45 + (1 : Int))) ∧ (I46 x71 x83 (z45 + (1 : Int)) ∧ μ47 x71 x83 (z45 + (1 : Int)) < μ47 x37 x41 z45))))))) ∧ (¬ (z45 ≤ r50) → Q x37))))
theorem ok_rcompose {w : World} {Q : List Int → Prop} {Pf : Int} {Mf : Int} {mf : List Int} {p : List Int} {t : List Int} {Bf : Nat} {Af : Option Addr} {nf kf : Nat} (hf : Rd Bf w 1 Af nf kf (is mf)) {Bp : Nat} {Ap : Option Addr} {np kp : Nat} (hp : Rd Bp w 1 Ap np kp (is p)) {Bt : Nat} {At : Option Addr} {nt kt : Nat} (ht : Rd Bt w 1 At nt kt (is t)) (hv : V_rcompose Pf Mf mf p t Q) :
    Calls Try.prog 52 #[.agg #[.int .i64 Pf, .int .i64 Mf, .slice Af nf kf], .slice Ap np kp, .slice At nt kt] w fun e w' => ∃ v Qr, e = .returned v ∧ w.grownBy w' none ∧ Rows w.heap.size none w' Qr ∧ News w.heap.size Qr ∧ ∃ (r0 : List Int) (Ar0 : Option Addr) (cr0 : Nat), v = .slice Ar0 r0.length cr0 ∧ Qr = [.row 3 1 Ar0 r0.length cr0 (is r0)] ∧ Q r0 := by
  have hnf := hf.ilen
  subst hnf
  have hnp := hp.ilen
  subst hnp
  have hnt := ht.ilen
  subst hnt
  refine calls_swap ?_
  refine calls_of_W (vs := [.agg #[.int .i64 Pf, .int .i64 Mf, .slice Af mf.length kf], .slice Ap p.length kp, .slice At t.length kt]) [6] Try.func52 rfl rfl rfl rfl ?_
  have hS := St.start w
  unfold V_rcompose at hv
  refine W.seq ?_
  refine W.region ?_
  refine SL.box (z := 3) (cs := [.int .i64 Pf, .int .i64 Mf, .slice Af mf.length kf]) hS rfl rfl rfl rfl ?_
  intro g11 w12 hS
  refine WL.assign rfl rfl ?_
  refine WL.done ?_
  refine W.seq ?_
  refine W.region ?_
  refine SL.lit1 (vs := is ([] : List Int)) hS Try.underlying22 Try.el3 rfl rfl rfl rfl (is_one _) rfl ?_
  intro A13 w14 hS
  refine WL.assign rfl rfl ?_
  refine WL.done ?_
  refine W.seq ?_
  refine W.region ?_
  refine SL.lit1 (vs := is ([(1 : Int)] : List Int)) hS Try.underlying22 Try.el3 rfl rfl rfl rfl (is_one _) rfl ?_
  intro A16 w17 hS
  refine WL.assign rfl rfl ?_
  refine WL.done ?_
  refine W.seq ?_
  refine W.seq ?_
  refine W.region ?_
  refine WL.assign rfl rfl ?_
  refine WL.done ?_
  refine W.block ?_
  obtain ⟨I46, μ47, hv, hk88⟩ := hv
  have hS := hS.pick [1, 0, 2] rfl
  have hm0 : 0 = ([] : List Int).length := (hS.rd (i := 0) rfl).ilen.symm
  have hS := hS.relen (i := 0) rfl hm0
  have hm1 : 1 = ([(1 : Int)] : List Int).length := (hS.rd (i := 1) rfl).ilen.symm
  have hS := hS.relen (i := 1) rfl hm1
  change St _ _ _ _ [.row 3 1 A13 ([] : List Int).length 0 (is ([] : List Int)), .row 3 1 A16 ([(1 : Int)] : List Int).length 1 (is ([(1 : Int)] : List Int)), .row 24 3 (some ⟨g11, 0, none⟩) 1 1 [.int .i64 Pf, .int .i64 Mf, .slice Af mf.length kf]] at hS
  refine W.loop (σ := List Int × List Int × Int × Option Addr × Nat × Option Addr × Nat) (fun q w1 => match q with | (x37, x41, z45, A38, k39, A42, k43) => I46 x37 x41 z45 ∧ St TT w none w1 [.row 3 1 A38 x37.length k39 (is x37), .row 3 1 A42 x41.length k43 (is x41), .row 24 3 (some ⟨g11, 0, none⟩) 1 1 [.int .i64 Pf, .int .i64 Mf, .slice Af mf.length kf]]) (fun q => match q with | (x37, x41, z45, A38, k39, A42, k43) => [(1, .slice Ap p.length kp), (2, .slice At t.length kt), (3, .pointer (some ⟨g11, 0, none⟩)), (6, .slice none 0 0), (7, .slice A38 x37.length k39), (8, .slice A42 x41.length k43), (9, .int .i64 z45)]) (fun q => match q with | (x37, x41, z45, A38, k39, A42, k43) => μ47 x37 x41 z45) (([] : List Int), ([(1 : Int)] : List Int), (0 : Int), A13, 0, A16, 1) ⟨hv, hS⟩ ⟨rfl, rfl, rfl, rfl, (sm (by first | rfl | assumption | omega)), (sm (by first | rfl | assumption | omega)), rfl, trivial⟩ ?_
  rintro ⟨x37, x41, z45, A38, k39, A42, k43⟩ w48 ⟨hv, hS⟩
  have hv := hk88 x37 x41 z45 hv
  refine W.seq ?_
  refine W.seq ?_
  refine W.region ?_
  refine WL.move rfl rfl ?_
  refine WL.loadV (cs := [.int .i64 Pf, .int .i64 Mf, .slice Af mf.length kf]) Try.el24 Try.agg24 rfl rfl (Own.vcells (hS.own (i := 2) rfl)) rfl ?_
  refine WL.move rfl rfl ?_
  refine SL.call hS (ok_rdeg (hS.ro hf) (hS.ro hp) hv) Try.func38 rfl Try.nm38 rfl rfl ?_
  rintro _ _ w49 ⟨r50, rfl, rfl, hv⟩ hGw49 hS
  change St _ _ _ _ [.row 3 1 A38 x37.length k39 (is x37), .row 3 1 A42 x41.length k43 (is x41), .row 24 3 (some ⟨g11, 0, none⟩) 1 1 [.int .i64 Pf, .int .i64 Mf, .slice Af mf.length kf]] at hS
  refine WL.leqD rfl rfl rfl ?_
  refine WL.done ?_
  refine W.cond2 rfl (fun c51 => ?_) (fun c51 => ?_)
  · have hv := hv.1 (of_decide_eq_true c51)
    refine W.skip ?_
    refine W.seq ?_
    refine W.block ?_
    refine W.seq ?_
    obtain ⟨o58, hv⟩ := hv
    obtain ⟨x62, o69, hv⟩ := hv
    obtain ⟨x71, o78, hv⟩ := hv
    have hS0 := hS
    refine W.drawX 11 (fun iA => [false, false, false, false, false, false, false, false, true, true, false].getD iA false) (fun iC => match iC with | 10 => some 9 | _ => none) [⟨[], [3], false⟩, ⟨[], [7], true⟩, ⟨[], [3], false⟩, ⟨[], [1], true⟩, ⟨[], [9], true⟩, ⟨[3, 4], [], true⟩, ⟨[5], [], false⟩, ⟨[], [8], true⟩, ⟨[2, 6, 7], [], false⟩, ⟨[0, 1, 8], [], false⟩, ⟨[9], [], true⟩] [[(3, .pointer (some ⟨g11, 0, none⟩))], [(7, .slice A38 x37.length k39)], [(3, .pointer (some ⟨g11, 0, none⟩))], [(1, .slice Ap p.length kp)], [(9, .int .i64 z45)], [], [], [(8, .slice A42 x41.length k43)], [], [], []] (fun iQ => [fun v _ => v = .agg #[.int .i64 Pf, .int .i64 Mf, .slice Af mf.length kf], fun v _ => v = .slice A38 x37.length k39, fun v _ => v = .agg #[.int .i64 Pf, .int .i64 Mf, .slice Af mf.length kf], fun v _ => v = .slice Ap p.length kp, fun v _ => v = .int .i64 z45, fun v _ => v = .pointer (some ((adOf Ap).add z45.toNat)), fun v _ => v = .int .i64 (gi p z45), fun v _ => v = .slice A42 x41.length k43, fun v wQ => ∃ A63_8 k64_8, v = .slice A63_8 x62.length k64_8 ∧ Own 0 wQ 3 1 A63_8 x62.length k64_8 (is x62) ∧ (∀ g, bl A63_8 = some g → w49.heap.size ≤ g), fun v wQ => ∃ A72_9 k73_9, v = .slice A72_9 x71.length k73_9 ∧ Own 0 wQ 3 1 A72_9 x71.length k73_9 (is x71) ∧ (∀ g, bl A72_9 = some g → w49.heap.size ≤ g), fun v wQ => ∃ A72_9_10 k73_9_10, v = .slice A72_9_10 x71.length k73_9_10 ∧ Own 0 wQ 3 1 A72_9_10 x71.length k73_9_10 (is x71) ∧ (∀ g, bl A72_9_10 = some g → w49.heap.size ≤ g)].getD iQ (fun _ _ => True)) Try.mixed (by kernel_rfl) ?_ (by kernel_rfl) ?_ ?_
    · refine Vs_monoT _ ?_
      intro VQ hVQ vQ wQ1 wQ2 hQ1 hQ2
      simp only [List.mem_cons, List.not_mem_nil, or_false] at hVQ
      rcases hVQ with rfl | rfl | rfl | rfl | rfl | rfl | rfl | rfl | rfl | rfl | rfl
      · exact hQ1
      · exact hQ1
      · exact hQ1
      · exact hQ1
      · exact hQ1
      · exact hQ1
      · exact hQ1
      · exact hQ1
      · obtain ⟨A63_8, k64_8, hQe, hO67_8, hN68_8⟩ := hQ1
        exact ⟨A63_8, k64_8, hQe, hO67_8.ext hQ2, hN68_8⟩
      · obtain ⟨A72_9, k73_9, hQe, hO76_9, hN77_9⟩ := hQ1
        exact ⟨A72_9, k73_9, hQe, hO76_9.ext hQ2, hN77_9⟩
      · obtain ⟨A72_9_10, k73_9_10, hQe, hO76_9_10, hN77_9_10⟩ := hQ1
        exact ⟨A72_9_10, k73_9_10, hQe, hO76_9_10.ext hQ2, hN77_9_10⟩
    · refine ⟨⟨rfl, ⟨rfl, trivial⟩, ?_⟩, ⟨rfl, ⟨rfl, trivial⟩, ?_⟩, ⟨rfl, ⟨rfl, trivial⟩, ?_⟩, ⟨rfl, ⟨rfl, trivial⟩, ?_⟩, ⟨rfl, ⟨rfl, trivial⟩, ?_⟩, ⟨rfl, trivial, ?_⟩, ⟨rfl, trivial, ?_⟩, ⟨rfl, ⟨rfl, trivial⟩, ?_⟩, ⟨rfl, trivial, ?_⟩, ⟨rfl, trivial, ?_⟩, ⟨rfl, trivial, ?_⟩, trivial⟩
      · intro w52 hE
        have hE := hE rfl
        have hS := hS.grow hE
        intro RR
        refine WL.loadV (cs := [.int .i64 Pf, .int .i64 Mf, .slice Af mf.length kf]) Try.el24 Try.agg24 rfl rfl (Own.vcells (hS.own (i := 2) rfl)) rfl ?_
        exact WL.done ⟨_, rfl, ext_refl _, rfl, (fun h => absurd h (by decide)), (fun j h => by cases h)⟩
      · intro w53 hE
        intro RR
        refine WL.move rfl rfl ?_
        exact WL.done ⟨_, rfl, rfl, rfl, (fun h => absurd h (by decide)), (fun j h => by cases h)⟩
      · intro w54 hE
        have hE := hE rfl
        have hS := hS.grow hE
        intro RR
        refine WL.loadV (cs := [.int .i64 Pf, .int .i64 Mf, .slice Af mf.length kf]) Try.el24 Try.agg24 rfl rfl (Own.vcells (hS.own (i := 2) rfl)) rfl ?_
        exact WL.done ⟨_, rfl, ext_refl _, rfl, (fun h => absurd h (by decide)), (fun j h => by cases h)⟩
      · intro w55 hE
        intro RR
        refine WL.move rfl rfl ?_
        exact WL.done ⟨_, rfl, rfl, rfl, (fun h => absurd h (by decide)), (fun j h => by cases h)⟩
      · intro w56 hE
        intro RR
        refine WL.move rfl rfl ?_
        exact WL.done ⟨_, rfl, rfl, rfl, (fun h => absurd h (by decide)), (fun j h => by cases h)⟩
      · intro w57 hE
        rintro _ rfl
        rintro _ rfl
        intro RR
        refine SL.index Try.underlying22 Try.el3 (hS.ro hp) rfl rfl o58 rfl ?_
        exact WL.done ⟨_, rfl, rfl, rfl, (fun h => absurd h (by decide)), (fun j h => by cases h)⟩
      · intro w59 hE
        have hE := hE rfl
        have hS := hS.grow hE
        rintro _ rfl
        intro RR
        refine WL.load Try.underlying3 rfl rfl (Rd.gi (hS.ro hp) o58) rfl ?_
        exact WL.done ⟨_, rfl, ext_refl _, rfl, (fun h => absurd h (by decide)), (fun j h => by cases h)⟩
      · intro w60 hE
        intro RR
        refine WL.move rfl rfl ?_
        exact WL.done ⟨_, rfl, rfl, rfl, (fun h => absurd h (by decide)), (fun j h => by cases h)⟩
      · intro w61 hE
        have hE := hE rfl
        have hS := hS.grow hE
        rintro _ rfl
        rintro _ rfl
        rintro _ rfl
        intro RR
        refine WL.call Try.func34 rfl Try.nm34 rfl rfl (calls_un (ok_rpscale (hS.ro hf) (hS.rd (i := 1) rfl) o69)) ?_
        rintro _ w66 ⟨_, hGw66, hRww66, hNww66, x62q, A63, k64, rfl, rfl, he⟩
        subst he
        have hO67 := (hRww66.get (i := 0) rfl).1
        have hN68 : ∀ g, bl A63 = some g → _ ≤ g := fun g hg => Nat.le_trans hE.size (hNww66.1 g hg)
        exact WL.done ⟨_, rfl, hGw66, ⟨A63, k64, rfl, hO67, hN68⟩, (fun _ => fun g hg => ⟨hNww66.1 g hg, (hO67.bl_ge g hg).2⟩), (fun j h => by cases h)⟩
      · intro w70 hE
        have hE := hE rfl
        have hS := hS.grow hE
        rintro _ rfl
        rintro _ rfl
        rintro _ ⟨A63_8, k64_8, rfl, hO67_8, hN68_8⟩
        intro RR
        refine WL.call Try.func28 rfl Try.nm28 rfl rfl (calls_un (ok_rpadd (hS.ro hf) (hS.rd (i := 0) rfl) hO67_8.rd o78)) ?_
        rintro _ w75 ⟨_, hGw75, hRww75, hNww75, x71q, A72, k73, rfl, rfl, he⟩
        subst he
        have hO76 := (hRww75.get (i := 0) rfl).1
        have hN77 : ∀ g, bl A72 = some g → _ ≤ g := fun g hg => Nat.le_trans hE.size (hNww75.1 g hg)
        exact WL.done ⟨_, rfl, hGw75, ⟨A72, k73, rfl, hO76, hN77⟩, (fun _ => fun g hg => ⟨hNww75.1 g hg, (hO76.bl_ge g hg).2⟩), (fun j h => by cases h)⟩
      · intro w79 hE
        rintro _ ⟨A72_9, k73_9, rfl, hO76_9, hN77_9⟩
        intro RR
        refine WL.assign rfl rfl ?_
        exact WL.done ⟨_, rfl, rfl, ⟨A72_9, k73_9, rfl, hO76_9, hN77_9⟩, (fun h => absurd h (by decide)), (fun j h => by cases h; rfl)⟩
    · intro vals w80 hT hVs hAp hCp
      have hS := hS.grow hT
      have hv0 : vals 0 = _ := hVs 0 (by decide)
      have hv1 : vals 1 = _ := hVs 1 (by decide)
      have hv2 : vals 2 = _ := hVs 2 (by decide)
      have hv3 : vals 3 = _ := hVs 3 (by decide)
      have hv4 : vals 4 = _ := hVs 4 (by decide)
      have hv5 : vals 5 = _ := hVs 5 (by decide)
      have hv6 : vals 6 = _ := hVs 6 (by decide)
      have hv7 : vals 7 = _ := hVs 7 (by decide)
      obtain ⟨A63_8, k64_8, hv8, hO67_8, hN68_8⟩ := hVs 8 (by decide)
      obtain ⟨A72_9, k73_9, hv9, hO76_9, hN77_9⟩ := hVs 9 (by decide)
      have hv10 : vals 10 = .slice A72_9 x71.length k73_9 := (hCp 10 9 (by decide) rfl).trans hv9
      have hS := St.addOwn [] hS0 hS hO76_9 hN77_9 (fun s hs => by cases hs)
      change St _ _ _ _ [.row 3 1 A72_9 x71.length k73_9 (is x71), .row 3 1 A38 x37.length k39 (is x37), .row 3 1 A42 x41.length k43 (is x41), .row 24 3 (some ⟨g11, 0, none⟩) 1 1 [.int .i64 Pf, .int .i64 Mf, .slice Af mf.length kf]] at hS
      rw [show (List.filterMap (fun i => Option.map (fun t => (t, vals i)) (dstAt _ i)) (List.range _)) = [(19, .agg #[.int .i64 Pf, .int .i64 Mf, .slice Af mf.length kf]), (20, .slice A38 x37.length k39), (21, .agg #[.int .i64 Pf, .int .i64 Mf, .slice Af mf.length kf]), (22, .slice Ap p.length kp), (23, .int .i64 z45), (24, .pointer (some ((adOf Ap).add z45.toNat))), (25, .int .i64 (gi p z45)), (26, .slice A42 x41.length k43), (27, .slice A63_8 x62.length k64_8), (28, .slice A72_9 x71.length k73_9), (7, .slice A72_9 x71.length k73_9)] from by
        show [(19, vals 0), (20, vals 1), (21, vals 2), (22, vals 3), (23, vals 4), (24, vals 5), (25, vals 6), (26, vals 7), (27, vals 8), (28, vals 9), (7, vals 10)] = _
        rw [hv0, hv1, hv2, hv3, hv4, hv5, hv6, hv7, hv8, hv9, hv10]]
      refine WA.done (by decide +kernel) ?_
      refine W.region ?_
      refine WL.loadV (cs := [.int .i64 Pf, .int .i64 Mf, .slice Af mf.length kf]) Try.el24 Try.agg24 rfl rfl (Own.vcells (hS.own (i := 3) rfl)) rfl ?_
      refine WL.move rfl rfl ?_
      refine WL.move rfl rfl ?_
      refine SL.call hS (ok_rpmul (hS.ro hf) (hS.rd (i := 2) rfl) (hS.ro ht) hv) Try.func31 rfl Try.nm31 rfl rfl ?_
      rintro _ _ w82 ⟨x83, A84, k85, rfl, rfl, hv⟩ hGw82 hS
      change St _ _ _ _ [.row 3 1 A84 x83.length k85 (is x83), .row 3 1 A72_9 x71.length k73_9 (is x71), .row 3 1 A38 x37.length k39 (is x37), .row 3 1 A42 x41.length k43 (is x41), .row 24 3 (some ⟨g11, 0, none⟩) 1 1 [.int .i64 Pf, .int .i64 Mf, .slice Af mf.length kf]] at hS
      refine WL.assign rfl rfl ?_
      refine WL.done ?_
      refine W.region ?_
      refine WL.move rfl rfl ?_
      obtain ⟨o87, hv⟩ := hv
      refine WL.add (r := (z45 + (1 : Int))) rfl rfl (wr o87) rfl ?_
      refine WL.assign rfl rfl ?_
      refine WL.done ?_
      have hS := hS.pick [1, 0, 4] rfl
      change St _ _ _ _ [.row 3 1 A72_9 x71.length k73_9 (is x71), .row 3 1 A84 x83.length k85 (is x83), .row 24 3 (some ⟨g11, 0, none⟩) 1 1 [.int .i64 Pf, .int .i64 Mf, .slice Af mf.length kf]] at hS
      exact ⟨(x71, x83, (z45 + (1 : Int)), A72_9, k73_9, A84, k85), ⟨rfl, rfl, rfl, rfl, rfl, rfl, rfl, trivial⟩, hv.2, rfl, hv.1, hS⟩
  · have hv := hv.2 (of_decide_eq_false c51)
    refine W.exit ?_
    refine W.seq ?_
    refine W.region ?_
    refine WL.move rfl rfl ?_
    refine WL.assign rfl rfl ?_
    refine WL.done ?_
    refine W.ret ?_
    refine ⟨_, rfl, Fin.nil ?_⟩
    exact ⟨_, hS.ext, (hS.pick [0] rfl).rows, News.of (hS.pick [0] rfl).rows rfl, ⟨x37, A38, k39, rfl, rfl, hv⟩⟩

end Go.Proofs.Ytmdigamgojfjdaa
set_option linter.unusedSimpArgs false
set_option linter.unusedVariables false
namespace Go.Proofs.Ytmdigamgojfjdaa
open Go.RowKit
def V_PolyComposes (Pf : Int) (Mf : Int) (mf : List Int) (vv0 : List Int) (vv1 : List Int) (x : Int) (Q : Bool → Prop) : Prop :=
  V_alive  (fun r16 => (((!r16) = true) → Q false) ∧ ((!r16) = false → (V_made Pf Mf mf (fun q => match q with | none => Q true | some F21 => V_short ([vv0, vv1] : List (List Int)) (fun r45 => (((!r45) = true) → Q true) ∧ ((!r45) = false → (V_compose F21 vv0 vv1 (fun q => match q with | (x48, r52) => ∃ (r56 : Int), V_rdeg Pf Mf mf vv0 (fun q => q = r56) ∧ (∃ (r63 : Int), V_rdeg Pf Mf mf vv1 (fun q => q = r63) ∧ ((I64 ((max r56 (0 : Int)) * (max r63 (0 : Int)))) ∧ ((((256 : Int) < ((max r56 (0 : Int)) * (max r63 (0 : Int)))) → (((r52 = (8 : Int)) → (Q (decide (((x48.length : Nat) : Int) = (0 : Int))))) ∧ (¬ (r52 = (8 : Int)) → Q false))) ∧ (¬ ((256 : Int) < ((max r56 (0 : Int)) * (max r63 (0 : Int)))) → ((r52 = (0 : Int)) ∧ (∃ (x82 : List Int), V_rcompose Pf Mf mf vv0 vv1 (fun q => q = x82) ∧ ((V_lsame x48 x82 (fun q => q = true)) ∧ (∃ (r100 : Int), V_reval Pf Mf mf x48 x (fun q => q = r100) ∧ (∃ (r109 : Int), V_reval Pf Mf mf vv1 x (fun q => q = r109) ∧ (∃ (r113 : Int), V_reval Pf Mf mf vv0 r109 (fun q => q = r113) ∧ (Q (decide (r100 = r113)))))))))))))))))))))
theorem ok_PolyComposes {w : World} {Q : Bool → Prop} {Pf : Int} {Mf : Int} {mf : List Int} {vv0 : List Int} {vv1 : List Int} {x : Int} {Bf : Nat} {Af : Option Addr} {nf kf : Nat} (hf : Rd Bf w 1 Af nf kf (is mf)) {Bvv0 : Nat} {Avv0 : Option Addr} {nvv0 kvv0 : Nat} (hvv0 : Rd Bvv0 w 1 Avv0 nvv0 kvv0 (is vv0)) {Bvv1 : Nat} {Avv1 : Option Addr} {nvv1 kvv1 : Nat} (hvv1 : Rd Bvv1 w 1 Avv1 nvv1 kvv1 (is vv1)) (hv : V_PolyComposes Pf Mf mf vv0 vv1 x Q) :
    Calls Try.prog 14 #[.agg #[.int .i64 Pf, .int .i64 Mf, .slice Af nf kf], .agg #[.slice Avv0 nvv0 kvv0, .slice Avv1 nvv1 kvv1], .int .i64 x] w fun e w' => ∃ v Qr, e = .returned v ∧ w.grownBy w' none ∧ Rows w.heap.size none w' Qr ∧ News w.heap.size Qr ∧ ∃ (r0 : Bool), v = .bool r0 ∧ Qr = [] ∧ Q r0 := by
  have hnf := hf.ilen
  subst hnf
  have hnvv0 := hvv0.ilen
  subst hnvv0
  have hnvv1 := hvv1.ilen
  subst hnvv1
  refine calls_swap ?_
  refine calls_of_W (vs := [.agg #[.int .i64 Pf, .int .i64 Mf, .slice Af mf.length kf], .agg #[.slice Avv0 vv0.length kvv0, .slice Avv1 vv1.length kvv1], .int .i64 x]) [6] Try.func14 rfl rfl rfl rfl ?_
  have hS := St.start w
  unfold V_PolyComposes at hv
  refine W.seq ?_
  refine W.region ?_
  refine SL.box (z := 3) (cs := [.int .i64 Pf, .int .i64 Mf, .slice Af mf.length kf]) hS rfl rfl rfl rfl ?_
  intro g11 w12 hS
  refine SL.box (z := 2) (cs := [.slice Avv0 vv0.length kvv0, .slice Avv1 vv1.length kvv1]) hS rfl rfl rfl rfl ?_
  intro g13 w14 hS
  refine WL.assign rfl rfl ?_
  refine WL.done ?_
  refine W.seq ?_
  refine W.seq ?_
  refine W.region ?_
  refine SL.call hS (ok_alive  hv) Try.func20 rfl Try.nm20 rfl rfl ?_
  rintro _ _ w15 ⟨r16, rfl, rfl, hv⟩ hGw15 hS
  change St _ _ _ _ [.row 54 2 (some ⟨g13, 0, none⟩) 1 1 [.slice Avv0 vv0.length kvv0, .slice Avv1 vv1.length kvv1], .row 24 3 (some ⟨g11, 0, none⟩) 1 1 [.int .i64 Pf, .int .i64 Mf, .slice Af mf.length kf]] at hS
  refine WL.not rfl rfl ?_
  refine WL.done ?_
  refine W.cond2 rfl (fun c17 => ?_) (fun c17 => ?_)
  · have hv := hv.1 (c17)
    refine W.seq ?_
    refine W.region ?_
    refine WL.assign rfl rfl ?_
    refine WL.done ?_
    refine W.ret ?_
    refine ⟨_, rfl, Fin.nil ?_⟩
    exact ⟨_, hS.ext, (hS.pick [] rfl).rows, News.of (hS.pick [] rfl).rows rfl, ⟨false, rfl, rfl, hv⟩⟩
  · have hv := hv.2 (c17)
    refine W.skip ?_
    refine W.seq ?_
    refine W.region ?_
    refine WL.loadV (cs := [.int .i64 Pf, .int .i64 Mf, .slice Af mf.length kf]) Try.el24 Try.agg24 rfl rfl (Own.vcells (hS.own (i := 1) rfl)) rfl ?_
    refine SL.call hS (ok_made (hS.ro hf) hv) Try.func21 rfl Try.nm21 rfl rfl ?_
    rintro _ _ w19 ⟨o, hv, hK⟩ hGw19 hS
    cases o with
    | none =>
      obtain ⟨rfl, rfl⟩ := hK
      change St _ _ _ _ [.row 54 2 (some ⟨g13, 0, none⟩) 1 1 [.slice Avv0 vv0.length kvv0, .slice Avv1 vv1.length kvv1], .row 24 3 (some ⟨g11, 0, none⟩) 1 1 [.int .i64 Pf, .int .i64 Mf, .slice Af mf.length kf]] at hS
      refine WL.assign rfl rfl ?_
      refine WL.done ?_
      refine W.seq ?_
      have hS0 := hS
      refine W.drawX 6 (fun _ => false) (fun _ => none) [⟨[], [4], true⟩, ⟨[0], [], false⟩, ⟨[], [4], true⟩, ⟨[2], [], false⟩, ⟨[1], [], true⟩, ⟨[3], [], true⟩] [[(4, .pointer (some ⟨g13, 0, none⟩))], [], [(4, .pointer (some ⟨g13, 0, none⟩))], [], [], []] (fun iQ => [fun v _ => v = .pointer (some ⟨g13, 0, none⟩), fun v _ => v = .slice Avv0 vv0.length kvv0, fun v _ => v = .pointer (some ((⟨g13, 0, none⟩ : Addr).add 1)), fun v _ => v = .slice Avv1 vv1.length kvv1, fun v _ => v = .slice Avv0 vv0.length kvv0, fun v _ => v = .slice Avv1 vv1.length kvv1].getD iQ (fun _ _ => True)) Try.mixed (by kernel_rfl) ?_ (by kernel_rfl) ?_ ?_
      · refine Vs_monoT _ ?_
        intro VQ hVQ vQ wQ1 wQ2 hQ1 hQ2
        simp only [List.mem_cons, List.not_mem_nil, or_false] at hVQ
        rcases hVQ with rfl | rfl | rfl | rfl | rfl | rfl
        · exact hQ1
        · exact hQ1
        · exact hQ1
        · exact hQ1
        · exact hQ1
        · exact hQ1
      · refine ⟨⟨rfl, ⟨rfl, trivial⟩, ?_⟩, ⟨rfl, trivial, ?_⟩, ⟨rfl, ⟨rfl, trivial⟩, ?_⟩, ⟨rfl, trivial, ?_⟩, ⟨rfl, trivial, ?_⟩, ⟨rfl, trivial, ?_⟩, trivial⟩
        · intro w27 hE
          intro RR
          refine WL.indexP 0 Try.arr54 rfl rfl rfl (by decide) rfl rfl ?_
          exact WL.done ⟨_, rfl, rfl, rfl, (fun h => absurd h (by decide)), (fun j h => by cases h)⟩
        · intro w28 hE
          have hE := hE rfl
          have hS := hS.grow hE
          rintro _ rfl
          intro RR
          refine WL.load Try.underlying22 rfl rfl (Own.vcells (hS.own (i := 0) rfl) 0 _ rfl) rfl ?_
          exact WL.done ⟨_, rfl, ext_refl _, rfl, (fun h => absurd h (by decide)), (fun j h => by cases h)⟩
        · intro w29 hE
          intro RR
          refine WL.indexP 1 Try.arr54 rfl rfl rfl (by decide) rfl rfl ?_
          exact WL.done ⟨_, rfl, rfl, rfl, (fun h => absurd h (by decide)), (fun j h => by cases h)⟩
        · intro w30 hE
          have hE := hE rfl
          have hS := hS.grow hE
          rintro _ rfl
          intro RR
          refine WL.load Try.underlying22 rfl rfl (Own.vcells (hS.own (i := 0) rfl) 1 _ rfl) rfl ?_
          exact WL.done ⟨_, rfl, ext_refl _, rfl, (fun h => absurd h (by decide)), (fun j h => by cases h)⟩
        · intro w31 hE
          rintro _ rfl
          intro RR
          refine WL.assign rfl rfl ?_
          exact WL.done ⟨_, rfl, rfl, rfl, (fun h => absurd h (by decide)), (fun j h => by cases h)⟩
        · intro w32 hE
          rintro _ rfl
          intro RR
          refine WL.assign rfl rfl ?_
          exact WL.done ⟨_, rfl, rfl, rfl, (fun h => absurd h (by decide)), (fun j h => by cases h)⟩
      · intro vals w33 hT hVs hAp hCp
        have hS := hS.grow hT
        have hv0 : vals 0 = _ := hVs 0 (by decide)
        have hv1 : vals 1 = _ := hVs 1 (by decide)
        have hv2 : vals 2 = _ := hVs 2 (by decide)
        have hv3 : vals 3 = _ := hVs 3 (by decide)
        have hv4 : vals 4 = _ := hVs 4 (by decide)
        have hv5 : vals 5 = _ := hVs 5 (by decide)
        rw [show (List.filterMap (fun i => Option.map (fun t => (t, vals i)) (dstAt _ i)) (List.range _)) = [(16, .pointer (some ⟨g13, 0, none⟩)), (17, .slice Avv0 vv0.length kvv0), (18, .pointer (some ((⟨g13, 0, none⟩ : Addr).add 1))), (19, .slice Avv1 vv1.length kvv1), (8, .slice Avv0 vv0.length kvv0), (9, .slice Avv1 vv1.length kvv1)] from by
          show [(16, vals 0), (17, vals 1), (18, vals 2), (19, vals 3), (8, vals 4), (9, vals 5)] = _
          rw [hv0, hv1, hv2, hv3, hv4, hv5]]
        refine WA.done (by decide +kernel) ?_
        refine W.seq ?_
        refine W.seq ?_
        refine W.region ?_
        refine WL.move rfl rfl ?_
        refine WL.eqlPn Try.underlying26 rfl rfl rfl rfl ?_
        refine WL.move rfl rfl ?_
        refine WL.pass rfl rfl rfl ?_
        refine WL.pass rfl rfl rfl ?_
        refine WL.pass rfl rfl rfl ?_
        refine WL.pass rfl rfl rfl ?_
        refine WL.pass rfl rfl rfl ?_
        refine WL.pick rfl rfl rfl ?_
        refine WL.done ?_
        refine W.condT rfl ?_
        refine W.seq ?_
        refine W.region ?_
        refine WL.assign rfl rfl ?_
        refine WL.done ?_
        refine W.ret ?_
        refine ⟨_, rfl, Fin.nil ?_⟩
        exact ⟨_, hS.ext, (hS.pick [] rfl).rows, News.of (hS.pick [] rfl).rows rfl, ⟨true, rfl, rfl, hv⟩⟩
    | some F21 =>
      obtain ⟨ad22, lo23, hi24, rfl, rfl⟩ := hK
      change St _ _ _ _ [.ch lo23 hi24 (fun wz => GFX lo23 hi24 wz ad22 F21), .row 54 2 (some ⟨g13, 0, none⟩) 1 1 [.slice Avv0 vv0.length kvv0, .slice Avv1 vv1.length kvv1], .row 24 3 (some ⟨g11, 0, none⟩) 1 1 [.int .i64 Pf, .int .i64 Mf, .slice Af mf.length kf]] at hS
      refine WL.assign rfl rfl ?_
      refine WL.done ?_
      refine W.seq ?_
      have hS0 := hS
      refine W.drawX 6 (fun _ => false) (fun _ => none) [⟨[], [4], true⟩, ⟨[0], [], false⟩, ⟨[], [4], true⟩, ⟨[2], [], false⟩, ⟨[1], [], true⟩, ⟨[3], [], true⟩] [[(4, .pointer (some ⟨g13, 0, none⟩))], [], [(4, .pointer (some ⟨g13, 0, none⟩))], [], [], []] (fun iQ => [fun v _ => v = .pointer (some ⟨g13, 0, none⟩), fun v _ => v = .slice Avv0 vv0.length kvv0, fun v _ => v = .pointer (some ((⟨g13, 0, none⟩ : Addr).add 1)), fun v _ => v = .slice Avv1 vv1.length kvv1, fun v _ => v = .slice Avv0 vv0.length kvv0, fun v _ => v = .slice Avv1 vv1.length kvv1].getD iQ (fun _ _ => True)) Try.mixed (by kernel_rfl) ?_ (by kernel_rfl) ?_ ?_
      · refine Vs_monoT _ ?_
        intro VQ hVQ vQ wQ1 wQ2 hQ1 hQ2
        simp only [List.mem_cons, List.not_mem_nil, or_false] at hVQ
        rcases hVQ with rfl | rfl | rfl | rfl | rfl | rfl
        · exact hQ1
        · exact hQ1
        · exact hQ1
        · exact hQ1
        · exact hQ1
        · exact hQ1
      · refine ⟨⟨rfl, ⟨rfl, trivial⟩, ?_⟩, ⟨rfl, trivial, ?_⟩, ⟨rfl, ⟨rfl, trivial⟩, ?_⟩, ⟨rfl, trivial, ?_⟩, ⟨rfl, trivial, ?_⟩, ⟨rfl, trivial, ?_⟩, trivial⟩
        · intro w34 hE
          intro RR
          refine WL.indexP 0 Try.arr54 rfl rfl rfl (by decide) rfl rfl ?_
          exact WL.done ⟨_, rfl, rfl, rfl, (fun h => absurd h (by decide)), (fun j h => by cases h)⟩
        · intro w35 hE
          have hE := hE rfl
          have hS := hS.grow hE
          rintro _ rfl
          intro RR
          refine WL.load Try.underlying22 rfl rfl (Own.vcells (hS.own (i := 1) rfl) 0 _ rfl) rfl ?_
          exact WL.done ⟨_, rfl, ext_refl _, rfl, (fun h => absurd h (by decide)), (fun j h => by cases h)⟩
        · intro w36 hE
          intro RR
          refine WL.indexP 1 Try.arr54 rfl rfl rfl (by decide) rfl rfl ?_
          exact WL.done ⟨_, rfl, rfl, rfl, (fun h => absurd h (by decide)), (fun j h => by cases h)⟩
        · intro w37 hE
          have hE := hE rfl
          have hS := hS.grow hE
          rintro _ rfl
          intro RR
          refine WL.load Try.underlying22 rfl rfl (Own.vcells (hS.own (i := 1) rfl) 1 _ rfl) rfl ?_
          exact WL.done ⟨_, rfl, ext_refl _, rfl, (fun h => absurd h (by decide)), (fun j h => by cases h)⟩
        · intro w38 hE
          rintro _ rfl
          intro RR
          refine WL.assign rfl rfl ?_
          exact WL.done ⟨_, rfl, rfl, rfl, (fun h => absurd h (by decide)), (fun j h => by cases h)⟩
        · intro w39 hE
          rintro _ rfl
          intro RR
          refine WL.assign rfl rfl ?_
          exact WL.done ⟨_, rfl, rfl, rfl, (fun h => absurd h (by decide)), (fun j h => by cases h)⟩
      · intro vals w40 hT hVs hAp hCp
        have hS := hS.grow hT
        have hv0 : vals 0 = _ := hVs 0 (by decide)
        have hv1 : vals 1 = _ := hVs 1 (by decide)
        have hv2 : vals 2 = _ := hVs 2 (by decide)
        have hv3 : vals 3 = _ := hVs 3 (by decide)
        have hv4 : vals 4 = _ := hVs 4 (by decide)
        have hv5 : vals 5 = _ := hVs 5 (by decide)
        rw [show (List.filterMap (fun i => Option.map (fun t => (t, vals i)) (dstAt _ i)) (List.range _)) = [(16, .pointer (some ⟨g13, 0, none⟩)), (17, .slice Avv0 vv0.length kvv0), (18, .pointer (some ((⟨g13, 0, none⟩ : Addr).add 1))), (19, .slice Avv1 vv1.length kvv1), (8, .slice Avv0 vv0.length kvv0), (9, .slice Avv1 vv1.length kvv1)] from by
          show [(16, vals 0), (17, vals 1), (18, vals 2), (19, vals 3), (8, vals 4), (9, vals 5)] = _
          rw [hv0, hv1, hv2, hv3, hv4, hv5]]
        refine WA.done (by decide +kernel) ?_
        refine W.seq ?_
        refine W.seq ?_
        refine W.region ?_
        refine WL.move rfl rfl ?_
        refine WL.eqlPn Try.underlying26 rfl rfl rfl rfl ?_
        refine WL.move rfl rfl ?_
        refine WL.take rfl ?_
        refine WL.move rfl rfl ?_
        refine WL.take rfl ?_
        refine WL.move rfl rfl ?_
        refine WL.take rfl ?_
        refine SL.lit1 (vs := [.slice Avv0 vv0.length kvv0, .slice Avv1 vv1.length kvv1]) hS Try.underlying37 Try.el22 rfl rfl rfl rfl (by simp [Value.oneCell']) rfl ?_
        intro A41 w42 hS
        refine WL.take rfl ?_
        refine SL.call hS (ok_short (ls := ([vv0, vv1] : List (List Int))) ⟨_, _, (hS.rd (i := 0) rfl), ⟨⟨_, _, _, rfl, (Rd.is_m (hS.ro hvv0))⟩, ⟨_, _, _, rfl, (Rd.is_m (hS.ro hvv1))⟩, trivial⟩⟩ hv) Try.func26 rfl Try.nm26 rfl rfl ?_
        rintro _ _ w44 ⟨r45, rfl, rfl, hv⟩ hGw44 hS
        change St _ _ _ _ [.row 22 1 A41 2 2 [.slice Avv0 vv0.length kvv0, .slice Avv1 vv1.length kvv1], .ch lo23 hi24 (fun wz => GFX lo23 hi24 wz ad22 F21), .row 54 2 (some ⟨g13, 0, none⟩) 1 1 [.slice Avv0 vv0.length kvv0, .slice Avv1 vv1.length kvv1], .row 24 3 (some ⟨g11, 0, none⟩) 1 1 [.int .i64 Pf, .int .i64 Mf, .slice Af mf.length kf]] at hS
        refine WL.take rfl ?_
        refine WL.not rfl rfl ?_
        refine WL.pick rfl rfl rfl ?_
        refine WL.done ?_
        refine W.cond2 rfl (fun c46 => ?_) (fun c46 => ?_)
        · have hv := hv.1 (c46)
          refine W.seq ?_
          refine W.region ?_
          refine WL.assign rfl rfl ?_
          refine WL.done ?_
          refine W.ret ?_
          refine ⟨_, rfl, Fin.nil ?_⟩
          exact ⟨_, hS.ext, (hS.pick [] rfl).rows, News.of (hS.pick [] rfl).rows rfl, ⟨true, rfl, rfl, hv⟩⟩
        · have hv := hv.2 (c46)
          refine W.skip ?_
          refine W.seq ?_
          refine W.region ?_
          refine WL.move rfl rfl ?_
          refine WL.move rfl rfl ?_
          refine WL.move rfl rfl ?_
          refine SL.call hS (ok_compose (GFX.gfr (hS.chunk (i := 1) rfl)) (hS.ro hvv0) (hS.ro hvv1) hv) Try.func51 rfl Try.nm51 rfl rfl ?_
          rintro _ _ w47 ⟨x48, r52, A49, k50, rfl, rfl, hv⟩ hGw47 hS
          change St _ _ _ _ [.row 3 1 A49 x48.length k50 (is x48), .row 22 1 A41 2 2 [.slice Avv0 vv0.length kvv0, .slice Avv1 vv1.length kvv1], .ch lo23 hi24 (fun wz => GFX lo23 hi24 wz ad22 F21), .row 54 2 (some ⟨g13, 0, none⟩) 1 1 [.slice Avv0 vv0.length kvv0, .slice Avv1 vv1.length kvv1], .row 24 3 (some ⟨g11, 0, none⟩) 1 1 [.int .i64 Pf, .int .i64 Mf, .slice Af mf.length kf]] at hS
          refine WL.move rfl rfl ?_
          refine WL.extract rfl rfl rfl ?_
          refine WL.extract rfl rfl rfl ?_
          refine WL.assign rfl rfl ?_
          refine WL.assign rfl rfl ?_
          refine WL.done ?_
          refine W.seq ?_
          refine W.seq ?_
          obtain ⟨r56, o58, hv⟩ := hv
          obtain ⟨r63, o65, hv⟩ := hv
          obtain ⟨o68, hv⟩ := hv
          have hS0 := hS
          refine W.drawX 10 (fun _ => false) (fun _ => none) [⟨[], [3], false⟩, ⟨[], [8], true⟩, ⟨[0, 1], [], false⟩, ⟨[2], [], true⟩, ⟨[], [3], false⟩, ⟨[], [9], true⟩, ⟨[4, 5], [], false⟩, ⟨[6], [], true⟩, ⟨[3, 7], [], true⟩, ⟨[8], [], true⟩] [[(3, .pointer (some ⟨g11, 0, none⟩))], [(8, .slice Avv0 vv0.length kvv0)], [], [], [(3, .pointer (some ⟨g11, 0, none⟩))], [(9, .slice Avv1 vv1.length kvv1)], [], [], [], []] (fun iQ => [fun v _ => v = .agg #[.int .i64 Pf, .int .i64 Mf, .slice Af mf.length kf], fun v _ => v = .slice Avv0 vv0.length kvv0, fun v _ => v = .int .i64 r56, fun v _ => v = .int .i64 (max r56 (0 : Int)), fun v _ => v = .agg #[.int .i64 Pf, .int .i64 Mf, .slice Af mf.length kf], fun v _ => v = .slice Avv1 vv1.length kvv1, fun v _ => v = .int .i64 r63, fun v _ => v = .int .i64 (max r63 (0 : Int)), fun v _ => v = .int .i64 ((max r56 (0 : Int)) * (max r63 (0 : Int))), fun v _ => v = .bool (decide ((256 : Int) < ((max r56 (0 : Int)) * (max r63 (0 : Int)))))].getD iQ (fun _ _ => True)) Try.mixed (by kernel_rfl) ?_ (by kernel_rfl) ?_ ?_
          · refine Vs_monoT _ ?_
            intro VQ hVQ vQ wQ1 wQ2 hQ1 hQ2
            simp only [List.mem_cons, List.not_mem_nil, or_false] at hVQ
            rcases hVQ with rfl | rfl | rfl | rfl | rfl | rfl | rfl | rfl | rfl | rfl
            · exact hQ1
            · exact hQ1
            · exact hQ1
            · exact hQ1
            · exact hQ1
            · exact hQ1
            · exact hQ1
            · exact hQ1
            · exact hQ1
            · exact hQ1
          · refine ⟨⟨rfl, ⟨rfl, trivial⟩, ?_⟩, ⟨rfl, ⟨rfl, trivial⟩, ?_⟩, ⟨rfl, trivial, ?_⟩, ⟨rfl, trivial, ?_⟩, ⟨rfl, ⟨rfl, trivial⟩, ?_⟩, ⟨rfl, ⟨rfl, trivial⟩, ?_⟩, ⟨rfl, trivial, ?_⟩, ⟨rfl, trivial, ?_⟩, ⟨rfl, trivial, ?_⟩, ⟨rfl, trivial, ?_⟩, trivial⟩
            · intro w53 hE
              have hE := hE rfl
              have hS := hS.grow hE
              intro RR
              refine WL.loadV (cs := [.int .i64 Pf, .int .i64 Mf, .slice Af mf.length kf]) Try.el24 Try.agg24 rfl rfl (Own.vcells (hS.own (i := 4) rfl)) rfl ?_
              exact WL.done ⟨_, rfl, ext_refl _, rfl, (fun h => absurd h (by decide)), (fun j h => by cases h)⟩
            · intro w54 hE
              intro RR
              refine WL.move rfl rfl ?_
              exact WL.done ⟨_, rfl, rfl, rfl, (fun h => absurd h (by decide)), (fun j h => by cases h)⟩
            · intro w55 hE
              have hE := hE rfl
              have hS := hS.grow hE
              rintro _ rfl
              rintro _ rfl
              intro RR
              refine WL.call Try.func38 rfl Try.nm38 rfl rfl (calls_un (ok_rdeg (hS.ro hf) (hS.ro hvv0) o58)) ?_
              rintro _ w57 ⟨_, hGw57, hRww57, hNww57, r56q, rfl, rfl, he⟩
              subst he
              exact WL.done ⟨_, rfl, hGw57, rfl, (fun h => absurd h (by decide)), (fun j h => by cases h)⟩
            · intro w59 hE
              rintro _ rfl
              intro RR
              refine WL.max2 (r := (max r56 (0 : Int))) rfl rfl rfl rfl ?_
              exact WL.done ⟨_, rfl, rfl, rfl, (fun h => absurd h (by decide)), (fun j h => by cases h)⟩
            · intro w60 hE
              have hE := hE rfl
              have hS := hS.grow hE
              intro RR
              refine WL.loadV (cs := [.int .i64 Pf, .int .i64 Mf, .slice Af mf.length kf]) Try.el24 Try.agg24 rfl rfl (Own.vcells (hS.own (i := 4) rfl)) rfl ?_
              exact WL.done ⟨_, rfl, ext_refl _, rfl, (fun h => absurd h (by decide)), (fun j h => by cases h)⟩
            · intro w61 hE
              intro RR
              refine WL.move rfl rfl ?_
              exact WL.done ⟨_, rfl, rfl, rfl, (fun h => absurd h (by decide)), (fun j h => by cases h)⟩
            · intro w62 hE
              have hE := hE rfl
              have hS := hS.grow hE
              rintro _ rfl
              rintro _ rfl
              intro RR
              refine WL.call Try.func38 rfl Try.nm38 rfl rfl (calls_un (ok_rdeg (hS.ro hf) (hS.ro hvv1) o65)) ?_
              rintro _ w64 ⟨_, hGw64, hRww64, hNww64, r63q, rfl, rfl, he⟩
              subst he
              exact WL.done ⟨_, rfl, hGw64, rfl, (fun h => absurd h (by decide)), (fun j h => by cases h)⟩
            · intro w66 hE
              rintro _ rfl
              intro RR
              refine WL.max2 (r := (max r63 (0 : Int))) rfl rfl rfl rfl ?_
              exact WL.done ⟨_, rfl, rfl, rfl, (fun h => absurd h (by decide)), (fun j h => by cases h)⟩
            · intro w67 hE
              rintro _ rfl
              rintro _ rfl
              intro RR
              refine WL.mul (r := ((max r56 (0 : Int)) * (max r63 (0 : Int)))) rfl rfl (wr o68) rfl ?_
              exact WL.done ⟨_, rfl, rfl, rfl, (fun h => absurd h (by decide)), (fun j h => by cases h)⟩
            · intro w69 hE
              rintro _ rfl
              intro RR
              refine WL.gtrD rfl rfl rfl ?_
              exact WL.done ⟨_, rfl, rfl, rfl, (fun h => absurd h (by decide)), (fun j h => by cases h)⟩
          · intro vals w70 hT hVs hAp hCp
            have hS := hS.grow hT
            have hv0 : vals 0 = _ := hVs 0 (by decide)
            have hv1 : vals 1 = _ := hVs 1 (by decide)
            have hv2 : vals 2 = _ := hVs 2 (by decide)
            have hv3 : vals 3 = _ := hVs 3 (by decide)
            have hv4 : vals 4 = _ := hVs 4 (by decide)
            have hv5 : vals 5 = _ := hVs 5 (by decide)
            have hv6 : vals 6 = _ := hVs 6 (by decide)
            have hv7 : vals 7 = _ := hVs 7 (by decide)
            have hv8 : vals 8 = _ := hVs 8 (by decide)
            have hv9 : vals 9 = _ := hVs 9 (by decide)
            rw [show (List.filterMap (fun i => Option.map (fun t => (t, vals i)) (dstAt _ i)) (List.range _)) = [(36, .agg #[.int .i64 Pf, .int .i64 Mf, .slice Af mf.length kf]), (37, .slice Avv0 vv0.length kvv0), (38, .int .i64 r56), (39, .int .i64 (max r56 (0 : Int))), (40, .agg #[.int .i64 Pf, .int .i64 Mf, .slice Af mf.length kf]), (41, .slice Avv1 vv1.length kvv1), (42, .int .i64 r63), (43, .int .i64 (max r63 (0 : Int))), (44, .int .i64 ((max r56 (0 : Int)) * (max r63 (0 : Int)))), (45, .bool (decide ((256 : Int) < ((max r56 (0 : Int)) * (max r63 (0 : Int))))))] from by
              show [(36, vals 0), (37, vals 1), (38, vals 2), (39, vals 3), (40, vals 4), (41, vals 5), (42, vals 6), (43, vals 7), (44, vals 8), (45, vals 9)] = _
              rw [hv0, hv1, hv2, hv3, hv4, hv5, hv6, hv7, hv8, hv9]]
            refine WA.done (by decide +kernel) ?_
            refine W.cond2 rfl (fun c71 => ?_) (fun c71 => ?_)
            · have hv := hv.1 (of_decide_eq_true c71)
              refine W.seq ?_
              refine W.region ?_
              refine WL.move rfl rfl ?_
              refine WL.eqlD rfl rfl rfl ?_
              refine WL.move rfl rfl ?_
              by_cases g72 : r52 = (8 : Int)
              · have hv := hv.1 g72
                rw [decide_eq_true g72]
                refine WL.take rfl ?_
                refine WL.move rfl rfl ?_
                refine WL.take rfl ?_
                refine WL.len Try.underlying22 rfl rfl ?_
                refine WL.take rfl ?_
                refine WL.eqlD rfl rfl rfl ?_
                refine WL.pick rfl rfl rfl ?_
                refine WL.assign rfl rfl ?_
                refine WL.done ?_
                refine W.ret ?_
                refine ⟨_, rfl, Fin.nil ?_⟩
                exact ⟨_, hS.ext, (hS.pick [] rfl).rows, News.of (hS.pick [] rfl).rows rfl, ⟨(decide (((x48.length : Nat) : Int) = (0 : Int))), rfl, rfl, hv⟩⟩
              · have hv := hv.2 g72
                rw [decide_eq_false g72]
                refine WL.pass rfl rfl rfl ?_
                refine WL.pass rfl rfl rfl ?_
                refine WL.pass rfl rfl rfl ?_
                refine WL.pick rfl rfl rfl ?_
                refine WL.assign rfl rfl ?_
                refine WL.done ?_
                refine W.ret ?_
                refine ⟨_, rfl, Fin.nil ?_⟩
                exact ⟨_, hS.ext, (hS.pick [] rfl).rows, News.of (hS.pick [] rfl).rows rfl, ⟨false, rfl, rfl, hv⟩⟩
            · have hv := hv.2 (of_decide_eq_false c71)
              refine W.skip ?_
              refine W.seq ?_
              obtain ⟨o75, hv⟩ := hv
              obtain ⟨x82, o89, hv⟩ := hv
              obtain ⟨o93, hv⟩ := hv
              obtain ⟨r100, o102, hv⟩ := hv
              obtain ⟨r109, o111, hv⟩ := hv
              obtain ⟨r113, o115, hv⟩ := hv
              have hS0 := hS
              refine W.drawX 25 (fun iA => [false, false, false, false, false, false, false, true, false, false, false, false, false, false, false, false, false, false, false, false, false, false, false, false, false].getD iA false) (fun _ => none) [⟨[], [11], true⟩, ⟨[0], [], true⟩, ⟨[1], [], true⟩, ⟨[2], [10], true⟩, ⟨[2], [3], false⟩, ⟨[2], [8], true⟩, ⟨[2], [9], true⟩, ⟨[2, 4, 5, 6], [], false⟩, ⟨[2, 3, 7], [], false⟩, ⟨[2, 8], [], true⟩, ⟨[9], [], true⟩, ⟨[10], [3], false⟩, ⟨[10], [10], true⟩, ⟨[10], [2], true⟩, ⟨[10, 11, 12, 13], [], false⟩, ⟨[10], [3], false⟩, ⟨[10], [8], true⟩, ⟨[10], [3], false⟩, ⟨[10], [9], true⟩, ⟨[10], [2], true⟩, ⟨[10, 17, 18, 19], [], false⟩, ⟨[10, 15, 16, 20], [], false⟩, ⟨[10, 14, 21], [], true⟩, ⟨[10, 22], [], true⟩, ⟨[23], [], true⟩] [[(11, .int .i64 r52)], [], [], [(10, .slice A49 x48.length k50)], [(3, .pointer (some ⟨g11, 0, none⟩))], [(8, .slice Avv0 vv0.length kvv0)], [(9, .slice Avv1 vv1.length kvv1)], [], [], [], [], [(3, .pointer (some ⟨g11, 0, none⟩))], [(10, .slice A49 x48.length k50)], [(2, .int .i64 x)], [], [(3, .pointer (some ⟨g11, 0, none⟩))], [(8, .slice Avv0 vv0.length kvv0)], [(3, .pointer (some ⟨g11, 0, none⟩))], [(9, .slice Avv1 vv1.length kvv1)], [(2, .int .i64 x)], [], [], [], [], []] (fun iQ => [fun v _ => v = .int .i64 r52, fun v _ => v = .bool true, fun v _ => v = .bool true, fun v _ => v = .slice A49 x48.length k50, fun v _ => v = .agg #[.int .i64 Pf, .int .i64 Mf, .slice Af mf.length kf], fun v _ => v = .slice Avv0 vv0.length kvv0, fun v _ => v = .slice Avv1 vv1.length kvv1, fun v wQ => ∃ A83_7 k84_7, v = .slice A83_7 x82.length k84_7 ∧ Own 0 wQ 3 1 A83_7 x82.length k84_7 (is x82) ∧ (∀ g, bl A83_7 = some g → w70.heap.size ≤ g), fun v _ => v = .bool true, fun v _ => v = .bool true, fun v _ => v = .bool true, fun v _ => v = .agg #[.int .i64 Pf, .int .i64 Mf, .slice Af mf.length kf], fun v _ => v = .slice A49 x48.length k50, fun v _ => v = .int .i64 x, fun v _ => v = .int .i64 r100, fun v _ => v = .agg #[.int .i64 Pf, .int .i64 Mf, .slice Af mf.length kf], fun v _ => v = .slice Avv0 vv0.length kvv0, fun v _ => v = .agg #[.int .i64 Pf, .int .i64 Mf, .slice Af mf.length kf], fun v _ => v = .slice Avv1 vv1.length kvv1, fun v _ => v = .int .i64 x, fun v _ => v = .int .i64 r109, fun v _ => v = .int .i64 r113, fun v _ => v = .bool (decide (r100 = r113)), fun v _ => v = .bool (decide (r100 = r113)), fun v _ => v = .bool (decide (r100 = r113))].getD iQ (fun _ _ => True)) Try.mixed (by kernel_rfl) ?_ (by kernel_rfl) ?_ ?_
              · refine Vs_monoT _ ?_
                intro VQ hVQ vQ wQ1 wQ2 hQ1 hQ2
                simp only [List.mem_cons, List.not_mem_nil, or_false] at hVQ
                rcases hVQ with rfl | rfl | rfl | rfl | rfl | rfl | rfl | rfl | rfl | rfl | rfl | rfl | rfl | rfl | rfl | rfl | rfl | rfl | rfl | rfl | rfl | rfl | rfl | rfl | rfl
                · exact hQ1
                · exact hQ1
                · exact hQ1
                · exact hQ1
                · exact hQ1
                · exact hQ1
                · exact hQ1
                · obtain ⟨A83_7, k84_7, hQe, hO87_7, hN88_7⟩ := hQ1
                  exact ⟨A83_7, k84_7, hQe, hO87_7.ext hQ2, hN88_7⟩
                · exact hQ1
                · exact hQ1
                · exact hQ1
                · exact hQ1
                · exact hQ1
                · exact hQ1
                · exact hQ1
                · exact hQ1
                · exact hQ1
                · exact hQ1
                · exact hQ1
                · exact hQ1
                · exact hQ1
                · exact hQ1
                · exact hQ1
                · exact hQ1
                · exact hQ1
              · refine ⟨⟨rfl, ⟨rfl, trivial⟩, ?_⟩, ⟨rfl, trivial, ?_⟩, ⟨rfl, trivial, ?_⟩, ⟨rfl, ⟨rfl, trivial⟩, ?_⟩, ⟨rfl, ⟨rfl, trivial⟩, ?_⟩, ⟨rfl, ⟨rfl, trivial⟩, ?_⟩, ⟨rfl, ⟨rfl, trivial⟩, ?_⟩, ⟨rfl, trivial, ?_⟩, ⟨rfl, trivial, ?_⟩, ⟨rfl, trivial, ?_⟩, ⟨rfl, trivial, ?_⟩, ⟨rfl, ⟨rfl, trivial⟩, ?_⟩, ⟨rfl, ⟨rfl, trivial⟩, ?_⟩, ⟨rfl, ⟨rfl, trivial⟩, ?_⟩, ⟨rfl, trivial, ?_⟩, ⟨rfl, ⟨rfl, trivial⟩, ?_⟩, ⟨rfl, ⟨rfl, trivial⟩, ?_⟩, ⟨rfl, ⟨rfl, trivial⟩, ?_⟩, ⟨rfl, ⟨rfl, trivial⟩, ?_⟩, ⟨rfl, ⟨rfl, trivial⟩, ?_⟩, ⟨rfl, trivial, ?_⟩, ⟨rfl, trivial, ?_⟩, ⟨rfl, trivial, ?_⟩, ⟨rfl, trivial, ?_⟩, ⟨rfl, trivial, ?_⟩, trivial⟩
                · intro w73 hE
                  intro RR
                  refine WL.move rfl rfl ?_
                  exact WL.done ⟨_, rfl, rfl, rfl, (fun h => absurd h (by decide)), (fun j h => by cases h)⟩
                · intro w74 hE
                  rintro _ rfl
                  intro RR
                  refine WL.eqlD rfl rfl rfl ?_; rw [decide_eq_true o75]
                  exact WL.done ⟨_, rfl, rfl, rfl, (fun h => absurd h (by decide)), (fun j h => by cases h)⟩
                · intro w76 hE
                  rintro _ rfl
                  intro RR
                  refine WL.move rfl rfl ?_
                  exact WL.done ⟨_, rfl, rfl, rfl, (fun h => absurd h (by decide)), (fun j h => by cases h)⟩
                · intro w77 hE
                  rintro _ rfl
                  intro RR
                  refine WL.take rfl ?_
                  refine WL.move rfl rfl ?_
                  exact WL.done ⟨_, rfl, rfl, rfl, (fun h => absurd h (by decide)), (fun j h => by cases h)⟩
                · intro w78 hE
                  have hE := hE rfl
                  have hS := hS.grow hE
                  rintro _ rfl
                  intro RR
                  refine WL.take rfl ?_
                  refine WL.loadV (cs := [.int .i64 Pf, .int .i64 Mf, .slice Af mf.length kf]) Try.el24 Try.agg24 rfl rfl (Own.vcells (hS.own (i := 4) rfl)) rfl ?_
                  exact WL.done ⟨_, rfl, ext_refl _, rfl, (fun h => absurd h (by decide)), (fun j h => by cases h)⟩
                · intro w79 hE
                  rintro _ rfl
                  intro RR
                  refine WL.take rfl ?_
                  refine WL.move rfl rfl ?_
                  exact WL.done ⟨_, rfl, rfl, rfl, (fun h => absurd h (by decide)), (fun j h => by cases h)⟩
                · intro w80 hE
                  rintro _ rfl
                  intro RR
                  refine WL.take rfl ?_
                  refine WL.move rfl rfl ?_
                  exact WL.done ⟨_, rfl, rfl, rfl, (fun h => absurd h (by decide)), (fun j h => by cases h)⟩
                · intro w81 hE
                  have hE := hE rfl
                  have hS := hS.grow hE
                  rintro _ rfl
                  rintro _ rfl
                  rintro _ rfl
                  rintro _ rfl
                  intro RR
                  refine WL.take rfl ?_
                  refine WL.call Try.func52 rfl Try.nm52 rfl rfl (calls_un (ok_rcompose (hS.ro hf) (hS.ro hvv0) (hS.ro hvv1) o89)) ?_
                  rintro _ w86 ⟨_, hGw86, hRww86, hNww86, x82q, A83, k84, rfl, rfl, he⟩
                  subst he
                  have hO87 := (hRww86.get (i := 0) rfl).1
                  have hN88 : ∀ g, bl A83 = some g → _ ≤ g := fun g hg => Nat.le_trans hE.size (hNww86.1 g hg)
                  exact WL.done ⟨_, rfl, hGw86, ⟨A83, k84, rfl, hO87, hN88⟩, (fun _ => fun g hg => ⟨hNww86.1 g hg, (hO87.bl_ge g hg).2⟩), (fun j h => by cases h)⟩
                · intro w90 hE
                  have hE := hE rfl
                  have hS := hS.grow hE
                  rintro _ rfl
                  rintro _ rfl
                  rintro _ ⟨A83_7, k84_7, rfl, hO87_7, hN88_7⟩
                  intro RR
                  refine WL.take rfl ?_
                  refine WL.call Try.func23 rfl Try.nm23 rfl rfl (calls_un (ok_lsame (hS.rd (i := 0) rfl) hO87_7.rd o93)) ?_
                  rintro _ w92 ⟨_, hGw92, hRww92, hNww92, r91, rfl, rfl, he⟩
                  subst he
                  exact WL.done ⟨_, rfl, hGw92, rfl, (fun h => absurd h (by decide)), (fun j h => by cases h)⟩
                · intro w94 hE
                  rintro _ rfl
                  rintro _ rfl
                  intro RR
                  refine WL.pick rfl rfl rfl ?_
                  exact WL.done ⟨_, rfl, rfl, rfl, (fun h => absurd h (by decide)), (fun j h => by cases h)⟩
                · intro w95 hE
                  rintro _ rfl
                  intro RR
                  refine WL.move rfl rfl ?_
                  exact WL.done ⟨_, rfl, rfl, rfl, (fun h => absurd h (by decide)), (fun j h => by cases h)⟩
                · intro w96 hE
                  have hE := hE rfl
                  have hS := hS.grow hE
                  rintro _ rfl
                  intro RR
                  refine WL.take rfl ?_
                  refine WL.loadV (cs := [.int .i64 Pf, .int .i64 Mf, .slice Af mf.length kf]) Try.el24 Try.agg24 rfl rfl (Own.vcells (hS.own (i := 4) rfl)) rfl ?_
                  exact WL.done ⟨_, rfl, ext_refl _, rfl, (fun h => absurd h (by decide)), (fun j h => by cases h)⟩
                · intro w97 hE
                  rintro _ rfl
                  intro RR
                  refine WL.take rfl ?_
                  refine WL.move rfl rfl ?_
                  exact WL.done ⟨_, rfl, rfl, rfl, (fun h => absurd h (by decide)), (fun j h => by cases h)⟩
                · intro w98 hE
                  rintro _ rfl
                  intro RR
                  refine WL.take rfl ?_
                  refine WL.move rfl rfl ?_
                  exact WL.done ⟨_, rfl, rfl, rfl, (fun h => absurd h (by decide)), (fun j h => by cases h)⟩
                · intro w99 hE
                  have hE := hE rfl
                  have hS := hS.grow hE
                  rintro _ rfl
                  rintro _ rfl
                  rintro _ rfl
                  rintro _ rfl
                  intro RR
                  refine WL.take rfl ?_
                  refine WL.call Try.func45 rfl Try.nm45 rfl rfl (calls_un (ok_reval (hS.ro hf) (hS.rd (i := 0) rfl) o102)) ?_
                  rintro _ w101 ⟨_, hGw101, hRww101, hNww101, r100q, rfl, rfl, he⟩
                  subst he
                  exact WL.done ⟨_, rfl, hGw101, rfl, (fun h => absurd h (by decide)), (fun j h => by cases h)⟩
                · intro w103 hE
                  have hE := hE rfl
                  have hS := hS.grow hE
                  rintro _ rfl
                  intro RR
                  refine WL.take rfl ?_
                  refine WL.loadV (cs := [.int .i64 Pf, .int .i64 Mf, .slice Af mf.length kf]) Try.el24 Try.agg24 rfl rfl (Own.vcells (hS.own (i := 4) rfl)) rfl ?_
                  exact WL.done ⟨_, rfl, ext_refl _, rfl, (fun h => absurd h (by decide)), (fun j h => by cases h)⟩
                · intro w104 hE
                  rintro _ rfl
                  intro RR
                  refine WL.take rfl ?_
                  refine WL.move rfl rfl ?_
                  exact WL.done ⟨_, rfl, rfl, rfl, (fun h => absurd h (by decide)), (fun j h => by cases h)⟩
                · intro w105 hE
                  have hE := hE rfl
                  have hS := hS.grow hE
                  rintro _ rfl
                  intro RR
                  refine WL.take rfl ?_
                  refine WL.loadV (cs := [.int .i64 Pf, .int .i64 Mf, .slice Af mf.length kf]) Try.el24 Try.agg24 rfl rfl (Own.vcells (hS.own (i := 4) rfl)) rfl ?_
                  exact WL.done ⟨_, rfl, ext_refl _, rfl, (fun h => absurd h (by decide)), (fun j h => by cases h)⟩
                · intro w106 hE
                  rintro _ rfl
                  intro RR
                  refine WL.take rfl ?_
                  refine WL.move rfl rfl ?_
                  exact WL.done ⟨_, rfl, rfl, rfl, (fun h => absurd h (by decide)), (fun j h => by cases h)⟩
                · intro w107 hE
                  rintro _ rfl
                  intro RR
                  refine WL.take rfl ?_
                  refine WL.move rfl rfl ?_
                  exact WL.done ⟨_, rfl, rfl, rfl, (fun h => absurd h (by decide)), (fun j h => by cases h)⟩
                · intro w108 hE
                  have hE := hE rfl
                  have hS := hS.grow hE
                  rintro _ rfl
                  rintro _ rfl
                  rintro _ rfl
                  rintro _ rfl
                  intro RR
                  refine WL.take rfl ?_
                  refine WL.call Try.func45 rfl Try.nm45 rfl rfl (calls_un (ok_reval (hS.ro hf) (hS.ro hvv1) o111)) ?_
                  rintro _ w110 ⟨_, hGw110, hRww110, hNww110, r109q, rfl, rfl, he⟩
                  subst he
                  exact WL.done ⟨_, rfl, hGw110, rfl, (fun h => absurd h (by decide)), (fun j h => by cases h)⟩
                · intro w112 hE
                  have hE := hE rfl
                  have hS := hS.grow hE
                  rintro _ rfl
                  rintro _ rfl
                  rintro _ rfl
                  rintro _ rfl
                  intro RR
                  refine WL.take rfl ?_
                  refine WL.call Try.func45 rfl Try.nm45 rfl rfl (calls_un (ok_reval (hS.ro hf) (hS.ro hvv0) o115)) ?_
                  rintro _ w114 ⟨_, hGw114, hRww114, hNww114, r113q, rfl, rfl, he⟩
                  subst he
                  exact WL.done ⟨_, rfl, hGw114, rfl, (fun h => absurd h (by decide)), (fun j h => by cases h)⟩
                · intro w116 hE
                  rintro _ rfl
                  rintro _ rfl
                  rintro _ rfl
                  intro RR
                  refine WL.take rfl ?_
                  refine WL.eqlD rfl rfl rfl ?_
                  exact WL.done ⟨_, rfl, rfl, rfl, (fun h => absurd h (by decide)), (fun j h => by cases h)⟩
                · intro w117 hE
                  rintro _ rfl
                  rintro _ rfl
                  intro RR
                  refine WL.pick rfl rfl rfl ?_
                  exact WL.done ⟨_, rfl, rfl, rfl, (fun h => absurd h (by decide)), (fun j h => by cases h)⟩
                · intro w118 hE
                  rintro _ rfl
                  intro RR
                  refine WL.assign rfl rfl ?_
                  exact WL.done ⟨_, rfl, rfl, rfl, (fun h => absurd h (by decide)), (fun j h => by cases h)⟩
              · intro vals w119 hT hVs hAp hCp
                have hS := hS.grow hT
                have hv0 : vals 0 = _ := hVs 0 (by decide)
                have hv1 : vals 1 = _ := hVs 1 (by decide)
                have hv2 : vals 2 = _ := hVs 2 (by decide)
                have hv3 : vals 3 = _ := hVs 3 (by decide)
                have hv4 : vals 4 = _ := hVs 4 (by decide)
                have hv5 : vals 5 = _ := hVs 5 (by decide)
                have hv6 : vals 6 = _ := hVs 6 (by decide)
                obtain ⟨A83_7, k84_7, hv7, hO87_7, hN88_7⟩ := hVs 7 (by decide)
                have hv8 : vals 8 = _ := hVs 8 (by decide)
                have hv9 : vals 9 = _ := hVs 9 (by decide)
                have hv10 : vals 10 = _ := hVs 10 (by decide)
                have hv11 : vals 11 = _ := hVs 11 (by decide)
                have hv12 : vals 12 = _ := hVs 12 (by decide)
                have hv13 : vals 13 = _ := hVs 13 (by decide)
                have hv14 : vals 14 = _ := hVs 14 (by decide)
                have hv15 : vals 15 = _ := hVs 15 (by decide)
                have hv16 : vals 16 = _ := hVs 16 (by decide)
                have hv17 : vals 17 = _ := hVs 17 (by decide)
                have hv18 : vals 18 = _ := hVs 18 (by decide)
                have hv19 : vals 19 = _ := hVs 19 (by decide)
                have hv20 : vals 20 = _ := hVs 20 (by decide)
                have hv21 : vals 21 = _ := hVs 21 (by decide)
                have hv22 : vals 22 = _ := hVs 22 (by decide)
                have hv23 : vals 23 = _ := hVs 23 (by decide)
                have hv24 : vals 24 = _ := hVs 24 (by decide)
                rw [show (List.filterMap (fun i => Option.map (fun t => (t, vals i)) (dstAt _ i)) (List.range _)) = [(53, .int .i64 r52), (54, .bool true), (55, .bool true), (56, .slice A49 x48.length k50), (57, .agg #[.int .i64 Pf, .int .i64 Mf, .slice Af mf.length kf]), (58, .slice Avv0 vv0.length kvv0), (59, .slice Avv1 vv1.length kvv1), (60, .slice A83_7 x82.length k84_7), (61, .bool true), (62, .bool true), (63, .bool true), (64, .agg #[.int .i64 Pf, .int .i64 Mf, .slice Af mf.length kf]), (65, .slice A49 x48.length k50), (66, .int .i64 x), (67, .int .i64 r100), (68, .agg #[.int .i64 Pf, .int .i64 Mf, .slice Af mf.length kf]), (69, .slice Avv0 vv0.length kvv0), (70, .agg #[.int .i64 Pf, .int .i64 Mf, .slice Af mf.length kf]), (71, .slice Avv1 vv1.length kvv1), (72, .int .i64 x), (73, .int .i64 r109), (74, .int .i64 r113), (75, .bool (decide (r100 = r113))), (76, .bool (decide (r100 = r113))), (6, .bool (decide (r100 = r113)))] from by
                  show [(53, vals 0), (54, vals 1), (55, vals 2), (56, vals 3), (57, vals 4), (58, vals 5), (59, vals 6), (60, vals 7), (61, vals 8), (62, vals 9), (63, vals 10), (64, vals 11), (65, vals 12), (66, vals 13), (67, vals 14), (68, vals 15), (69, vals 16), (70, vals 17), (71, vals 18), (72, vals 19), (73, vals 20), (74, vals 21), (75, vals 22), (76, vals 23), (6, vals 24)] = _
                  rw [hv0, hv1, hv2, hv3, hv4, hv5, hv6, hv7, hv8, hv9, hv10, hv11, hv12, hv13, hv14, hv15, hv16, hv17, hv18, hv19, hv20, hv21, hv22, hv23, hv24]]
                refine WA.done (by decide +kernel) ?_
                refine W.ret ?_
                refine ⟨_, rfl, Fin.nil ?_⟩
                exact ⟨_, hS.ext, (hS.pick [] rfl).rows, News.of (hS.pick [] rfl).rows rfl, ⟨(decide (r100 = r113)), rfl, rfl, hv⟩⟩

end Go.Proofs.Ytmdigamgojfjdaa
set_option linter.unusedVariables false
set_option linter.unusedSimpArgs false
namespace Go.Proofs.Ytmdigamgojfjdaa
open Ks
/-! ### greatest common divisors, values, derivatives, roots -/
section
variable {k : Ks} {F : GFv} {P M : Int} {mf : List Int}
def shf (f : Pl k.E) (s : Nat) : Pl k.E := fun j => f (s + j)
theorem cmp_step (f : Pl k.E) (h : Pl k.E) (n i : Nat) (hi : i < n) : cmp (shf f (n - i)) i h * h + ct (f (n - 1 - i)) = cmp (shf f (n - (i + 1))) (i + 1) h := by
  have h1 := cmp_horner (shf f (n - (i + 1))) h i
  have e1 : (show Pl k.E from fun j => shf f (n - (i + 1)) (j + 1)) = shf f (n - i) := Pl.ext fun j => by
    show f (n - (i + 1) + (j + 1)) = f (n - i + j)
    rw [show n - (i + 1) + (j + 1) = n - i + j by omega]
  have e2 : shf f (n - (i + 1)) 0 = f (n - 1 - i) := by
    show f (n - (i + 1) + 0) = _
    rw [show n - (i + 1) + 0 = n - 1 - i by omega]
  rw [h1, e2]
  congr 2
  exact (congrArg (fun q => cmp q i h) e1).symm
theorem cmp_su {f h : Pl k.E} {b : Nat} (hb : Su h (b + 1)) : ∀ n, Su (cmp f n h) (n * b + 1)
  | 0 => (Su.zero 0).mono (by omega)
  | n + 1 => by
    have hp : ∀ m, Su (pwr h m) (m * b + 1) := fun m => by
      induction m with
      | zero => exact Su.one.mono (by omega)
      | succ m ih => exact (ih.mul hb).mono (by rw [Nat.succ_mul]; omega)
    have h1 := cmp_su (f := f) hb n
    have h2 : Su (ct (f n) * pwr h n) (n * b + 1) := (hp n).ct _
    exact ((h1.add h2).mono (by rw [Nat.succ_mul]; omega))
theorem ct_list {a : k.E} : k.pol [k.co a] = ct a := Pl.ext fun i => by
  show k.el (vo [k.co a] i) = if i = 0 then a else 0
  by_cases h : i = 0
  · subst h; exact el_co a
  · rw [if_neg h, vo_hi (by simp; omega), el_zero]
theorem w_compose {p t : List Int} {Q : List Int × Int → Prop} (K : GFk F k.p k.m k.v k.g) (hp : p.length ≤ 30) (ht : t.length ≤ 30)
    (h8 : ((256 : Int) < max 0 (((k.L (k.pol p)).length : Nat) - 1 : Int) * max 0 (((k.L (k.pol t)).length : Nat) - 1 : Int)) → Q ([], 8))
    (h0 : ¬ ((256 : Int) < max 0 (((k.L (k.pol p)).length : Nat) - 1 : Int) * max 0 (((k.L (k.pol t)).length : Nat) - 1 : Int)) → Q (k.L (cmp (k.pol p) (k.L (k.pol p)).length (k.pol t)), 0)) : V_compose F p t Q := by
  have hcp := L_len (pol_su (k := k) p)
  have hct := L_len (pol_su (k := k) t)
  have hm : max (0 : Int) (((k.L (k.pol p)).length : Nat) - 1 : Int) * max 0 (((k.L (k.pol t)).length : Nat) - 1 : Int) ≤ 30 * 30 := by
    refine Int.mul_le_mul ?_ ?_ ?_ ?_ <;> omega
  have hm0 : 0 ≤ max (0 : Int) (((k.L (k.pol p)).length : Nat) - 1 : Int) * max 0 (((k.L (k.pol t)).length : Nat) - 1 : Int) := Int.mul_nonneg (by omega) (by omega)
  refine ⟨_, w_canon K (by omega) rfl, w_canon K (by omega) ⟨small (by omega) (by omega), small (by omega) (by omega), small (by omega) (by omega), h8, fun hc => ?_⟩⟩
  have hQ := h0 hc
  have hfs := pol_fs (k := k) p
  have htf := pol_fs (k := k) t
  generalize hf : k.pol p = f at *
  generalize hh : k.pol t = h at *
  generalize hn : (k.L f).length = n at *
  have hsu : Su h (29 + 1) := by rw [← hh]; exact (pol_su t).mono (by omega)
  show ∃ I, _
  refine ⟨fun i x => i ≤ n ∧ x = k.L (cmp (shf f (n - i)) i h), ⟨Nat.zero_le _, L_zero.symm⟩, ?_, ?_⟩
  · rintro i hi _ ⟨_, rfl⟩
    have hs1 := cmp_su (f := shf f (n - i)) hsu i
    have hl1 := L_len (k := k) hs1
    refine ⟨_, w_pmul2 K (by omega) (by omega) rfl, ?_⟩
    rw [pol_L ⟨_, hs1⟩, pol_L htf]
    have hl2 := L_len (k := k) (hs1.mul hsu)
    refine w_padd K (by omega) (by simp) ⟨by omega, ?_⟩
    rw [pol_L (Fs.mul ⟨_, hs1⟩ htf), gi_nat, L_at hfs, ct_list, cmp_step f h n i hi]
  · rintro _ ⟨_, rfl⟩
    have : shf f (n - n) = f := Pl.ext fun j => by
      show f (n - n + j) = f j
      rw [Nat.sub_self, Nat.zero_add]
    rw [this]; exact hQ
end
end Go.Proofs.Ytmdigamgojfjdaa
set_option linter.unusedVariables false
set_option linter.unusedSimpArgs false
namespace Go.Proofs.Ytmdigamgojfjdaa
open Ks
/-! ### the reference's quotients, values; what the laws ask first -/
section
variable {k : Ks} {F : GFv} {P M : Int} {mf : List Int}
theorem w_rcompose {p t : List Int} {Q : List Int → Prop} (hF : FV P M mf k.p k.m k.v) (hp : p.length ≤ 30) (ht : t.length ≤ 30) (h : Q (k.L (cmp (k.pol p) (k.L (k.pol p)).length (k.pol t)))) : V_rcompose P M mf p t Q := by
  have hcp := L_len (pol_su (k := k) p)
  have hsu : Su (k.pol t) (29 + 1) := (pol_su t).mono (by omega)
  have hpw : ∀ m, Su (pwr (k.pol t) m) (m * 29 + 1) := fun m => by
    induction m with
    | zero => exact Su.one.mono (by omega)
    | succ m ih => exact (ih.mul hsu).mono (by omega)
  refine ⟨fun x y z => ∃ j : Nat, z = j ∧ j ≤ (k.L (k.pol p)).length ∧ x = k.L (cmp (k.pol p) j (k.pol t)) ∧ y = k.L (pwr (k.pol t) j), fun x y z => (30 - z).toNat, ⟨0, rfl, Nat.zero_le _, L_zero.symm, L_one.symm⟩, ?_⟩
  rintro _ _ _ ⟨j, rfl, hj, rfl, rfl⟩
  dsimp only
  refine w_rdeg hF (by omega) ⟨fun hz => ?_, fun hz => ?_⟩
  · have l1 := L_len (k := k) (hpw j)
    have l2 := L_len (k := k) (cmp_su (f := k.pol p) hsu j)
    have hs3 : Su (ct (k.pol p j) * pwr (k.pol t) j) (j * 29 + 1) := (hpw j).ct _
    have l3 := L_len (k := k) hs3
    refine ⟨⟨by omega, by omega⟩, _, w_rpscale (k := k) hF (by omega) rfl, _, w_rpadd (k := k) hF (by omega) ?_ rfl, w_rpmul (k := k) hF (by omega) (by omega) ⟨small (by omega) (by omega), ⟨j + 1, by push_cast; rfl, by omega, ?_, ?_⟩, by omega⟩⟩
    all_goals try rw [pol_L ⟨_, hpw j⟩]
    · show (k.L (ct (k.pol p j) * pwr (k.pol t) j)).length ≤ 100000
      omega
    · rw [pol_L ⟨_, cmp_su hsu j⟩]
      show k.L (cmp (k.pol p) j (k.pol t) + k.pol (k.L (ct (k.pol p j) * pwr (k.pol t) j))) = _
      rw [pol_L ⟨_, hs3⟩]; rfl
    · rfl
  · rw [show j = (k.L (k.pol p)).length by omega]; exact h
end
end Go.Proofs.Ytmdigamgojfjdaa
set_option linter.unusedVariables false
set_option linter.unusedSimpArgs false
namespace Go.Proofs.Ytmdigamgojfjdaa
open Ks
section
variable {k : Ks} {F : GFv} {P M : Int} {mf : List Int}
theorem law_PolyComposes (p t : List Int) (x : Int) : V_PolyComposes P M mf p t x (fun b => b = true) := by
  refine w_alive ⟨fun h => absurd h (by decide), fun _ => w_made (fun _ => rfl) fun F k K hF => w_short2 rfl fun hp ht => ?_⟩
  have hcp := L_len (pol_su (k := k) p)
  have hct := L_len (pol_su (k := k) t)
  have hm : max (((k.L (k.pol p)).length : Nat) - 1 : Int) 0 * max (((k.L (k.pol t)).length : Nat) - 1 : Int) 0 ≤ 30 * 30 := by
    refine Int.mul_le_mul ?_ ?_ ?_ ?_ <;> omega
  have hm0 : 0 ≤ max (((k.L (k.pol p)).length : Nat) - 1 : Int) 0 * max (((k.L (k.pol t)).length : Nat) - 1 : Int) 0 := Int.mul_nonneg (by omega) (by omega)
  have ep : max (0 : Int) (((k.L (k.pol p)).length : Nat) - 1 : Int) = max (((k.L (k.pol p)).length : Nat) - 1 : Int) 0 := by omega
  have et : max (0 : Int) (((k.L (k.pol t)).length : Nat) - 1 : Int) = max (((k.L (k.pol t)).length : Nat) - 1 : Int) 0 := by omega
  have hfc := fs_cmp (k.pol p) (k.L (k.pol p)).length (pol_fs (k := k) t)
  have hsu : Su (k.pol t) (29 + 1) := (pol_su t).mono (by omega)
  have hsc := cmp_su (f := k.pol p) hsu (k.L (k.pol p)).length
  have hlc := L_len (k := k) hsc
  refine w_compose K (by omega) (by omega) (fun h8 => ?_) fun h8 => ?_
  all_goals
    rw [ep, et] at h8
    refine ⟨_, w_rdeg hF (by omega) rfl, _, w_rdeg hF (by omega) rfl, small (by omega) (by omega), ?_⟩
  · exact ⟨fun _ => ⟨fun _ => rfl, fun h => absurd rfl h⟩, fun h => absurd h8 h⟩
  · refine ⟨fun h => absurd h h8, fun _ => ⟨rfl, _, w_rcompose (k := k) hF (by omega) (by omega) rfl, w_same (by omega) rfl rfl, _, w_reval hF (by omega) rfl, _, w_reval hF (by omega) rfl, _, w_reval hF (by omega) rfl, decide_eq_true ?_⟩⟩
    rw [pol_L hfc, vl_cmp _ (pol_fs t), el_co, vl_eq (L_su (pol_fs (k := k) p))]
end
end Go.Proofs.Ytmdigamgojfjdaa
