/- Contracts of functions of the program, and what they lean on. -/
import Derived.Test.YthfpcebcfjlkmaaW6
set_option linter.unusedSimpArgs false
set_option linter.unusedVariables false
namespace Go.Proofs.Ythfpcebcfjlkmaa
open Go.RowKit
theorem digs_lit {n k : Nat} (h : n = k) (h0 : 0 < k) (hk : k < 4294967296) : digs n = [k] := by
  subst h
  have h1 : trimL [n] = [n] := canon_of_ge (Lim.one hk) (fun _ => by simp; omega)
  have h2 := trimL_digs [n] (Lim.one hk)
  rw [h1, nv_one] at h2
  exact h2.symm
theorem digs_congr {a b : Nat} (h : a = b) : digs a = digs b := by rw [h]
theorem same_f {w : World} {Ba : Nat} {Aa : Option Addr} {ma ca : Nat} {xa : List Nat} (ha : Rd Ba w 1 Aa ma ca (us xa)) {Bb : Nat} {Ab : Option Addr} {mb cb : Nat} {xb : List Nat} (hb : Rd Bb w 1 Ab mb cb (us xb)) (heq : xa ≠ xb) : Calls Try.prog 18 #[.slice Aa ma ca, .slice Ab mb cb] w fun e w2 => ∃ v, e = .returned v ∧ (fun v w2 => v = .bool false ∧ w.grownBy w2 none) v w2 :=
  (same_c ha hb).mono fun e w2 ⟨v, he, hv, hw⟩ => ⟨v, he, by rw [hv, decide_eq_false heq], hw⟩
theorem cmpI_cases (a b : Nat) : (a < b ∧ cmpI a b = -1) ∨ (a = b ∧ cmpI a b = 0) ∨ (b < a ∧ cmpI a b = 1) := by
  rcases Nat.lt_trichotomy a b with h | h | h
  · exact .inl ⟨h, cmpI_lt h⟩
  · exact .inr (.inl ⟨h, cmpI_eq h⟩)
  · exact .inr (.inr ⟨h, cmpI_gt h⟩)
theorem trimL_inj {a b : List Nat} (ha : Lim a) (hb : Lim b) : trimL a = trimL b ↔ nv a = nv b := by
  constructor
  · intro h; have := congrArg nv h; simpa using this
  · intro h; rw [trimL_digs _ ha, trimL_digs _ hb, h]

theorem NatRing_c {w : World} {Ba : Nat} {Aa : Option Addr} {ma ca : Nat} {xa : List Nat} (ha : Rd Ba w 1 Aa ma ca (us xa)) {Bb : Nat} {Ab : Option Addr} {mb cb : Nat} {xb : List Nat} (hb : Rd Bb w 1 Ab mb cb (us xb)) {Bc : Nat} {Ac : Option Addr} {mc cc : Nat} {xc : List Nat} (hc : Rd Bc w 1 Ac mc cc (us xc)) (hLa : Lim xa) (hLb : Lim xb) (hLc : Lim xc) :
    Calls Try.prog 6 #[.slice Aa ma ca, .slice Ab mb cb, .slice Ac mc cc] w fun e w2 => ∃ v, e = .returned v ∧ (fun v w2 => v = .bool true ∧ w.grownBy w2 none) v w2 := by
  have ha := ha.norm
  have ha_l := ha.ulen
  have ha_x := ha.max
  simp only [maxLen] at ha_x
  have ha_c := ha.cap
  have hb := hb.norm
  have hb_l := hb.ulen
  have hb_x := hb.max
  simp only [maxLen] at hb_x
  have hb_c := hb.cap
  have hc := hc.norm
  have hc_l := hc.ulen
  have hc_x := hc.max
  simp only [maxLen] at hc_x
  have hc_c := hc.cap
  have ha0 := ha
  have hb0 := hb
  have hc0 := hc
  have hB := ext_refl w
  refine calls_of_W (vs := [.slice Aa ma ca, .slice Ab mb cb, .slice Ac mc cc]) [6] Try.func6 rfl rfl rfl rfl ?_
  refine W.seq ?_
  refine W.region ?_
  refine WL.assign rfl rfl ?_
  refine WL.done ?_
  refine W.seq ?_
  refine W.seq ?_
  refine W.region ?_
  refine WL.move rfl rfl ?_
  refine WL.move rfl rfl ?_
  refine WL.move rfl rfl ?_
  refine WL.lit1 (b := w.heap.size) Try.underlying39 Try.el23 rfl rfl rfl rfl (by intro v hv; simp only [List.mem_cons, List.not_mem_nil, or_false] at hv; rcases hv with rfl | rfl | rfl <;> rfl) (Nat.le_refl _) rfl ?_
  rintro A11 w12 - hO13 hGw12
  have hO13 := hO13.low (b' := w.heap.size) hB.size
  have hB := ext_trans hB hGw12
  have ha := ha0.ext hB
  have hb := hb0.ext hB
  have hc := hc0.ext hB
  have hN14 : NatsR w12.heap.size w12 [.slice Aa ma ca, .slice Ab mb cb, .slice Ac mc cc] [xa, xb, xc] := (NatsR.cons ha.norm (NatsR.cons hb.norm (NatsR.cons hc.norm (NatsR.nil _ _))))
  refine WL.call Try.func15 rfl Try.nm15 rfl rfl (long_c hO13.rd hN14 (60) (by omega)) ?_
  rintro _ w15 ⟨b16, rfl, hGw15, hlong⟩
  have hB := ext_trans hB hGw15
  have ha := ha0.ext hB
  have hb := hb0.ext hB
  have hc := hc0.ext hB
  have hO13 := hO13.ext hGw15
  refine WL.done ?_
  refine W.cond2 rfl (fun c17 => ?_) (fun c17 => ?_)
  · skip
    refine W.seq ?_
    refine W.region ?_
    refine WL.assign rfl rfl ?_
    refine WL.done ?_
    refine W.ret ?_
    refine ⟨_, rfl, ?_⟩
    exact ⟨rfl, hB⟩
  · skip
    have hla : xa.length ≤ 60 := hlong c17 0 (by simp)
    have hlb : xb.length ≤ 60 := hlong c17 1 (by simp)
    have hlc : xc.length ≤ 60 := hlong c17 2 (by simp)
    refine W.skip ?_
    refine W.seq ?_
    refine W.seq ?_
    refine W.region ?_
    refine WL.lit1 (b := w15.heap.size) Try.underlying23 Try.el40 rfl rfl rfl rfl (by intro v hv; simp only [List.mem_cons, List.not_mem_nil, or_false] at hv; rcases hv with rfl <;> rfl) (Nat.le_refl _) rfl ?_
    rintro A18 w19 - hO20 hGw19
    have hO20 := hO20.low (b' := w.heap.size) hB.size
    have hB := ext_trans hB hGw19
    have ha := ha0.ext hB
    have hb := hb0.ext hB
    have hc := hc0.ext hB
    have hO13 := hO13.ext hGw19
    change Own _ _ _ _ _ _ _ (us [3]) at hO20
    refine WL.lit1 (b := w19.heap.size) Try.underlying23 Try.el40 rfl rfl rfl rfl (by intro v hv; simp only [List.mem_cons, List.not_mem_nil, or_false] at hv; rcases hv with rfl <;> rfl) (Nat.le_refl _) rfl ?_
    rintro A21 w22 - hO23 hGw22
    have hO23 := hO23.low (b' := w.heap.size) hB.size
    have hB := ext_trans hB hGw22
    have ha := ha0.ext hB
    have hb := hb0.ext hB
    have hc := hc0.ext hB
    have hO13 := hO13.ext hGw22
    have hO20 := hO20.ext hGw22
    change Own _ _ _ _ _ _ _ (us [5]) at hO23
    refine WL.lit1 (b := w22.heap.size) Try.underlying39 Try.el23 rfl rfl rfl rfl (by intro v hv; simp only [List.mem_cons, List.not_mem_nil, or_false] at hv; rcases hv with rfl | rfl <;> rfl) (Nat.le_refl _) rfl ?_
    rintro A24 w25 - hO26 hGw25
    have hO26 := hO26.low (b' := w.heap.size) hB.size
    have hB := ext_trans hB hGw25
    have ha := ha0.ext hB
    have hb := hb0.ext hB
    have hc := hc0.ext hB
    have hO13 := hO13.ext hGw25
    have hO20 := hO20.ext hGw25
    have hO23 := hO23.ext hGw25
    have hN27 : NatsR w25.heap.size w25 [.slice A18 1 1, .slice A21 1 1] [[3], [5]] := (NatsR.cons hO20.rd.norm (NatsR.cons hO23.rd.norm (NatsR.nil _ _)))
    refine WL.call Try.func29 rfl Try.nm29 rfl rfl (Add_c hO26.rd hN27 (LimAll.cons (by intro x hx; simp only [List.mem_cons, List.not_mem_nil, or_false] at hx; omega) (LimAll.cons (by intro x hx; simp only [List.mem_cons, List.not_mem_nil, or_false] at hx; omega) LimAll.nil)) 1048576 (LenAll.cons (by first | omega | (simp; done) | (simp; omega)) (LenAll.cons (by first | omega | (simp; done) | (simp; omega)) (LenAll.nil _))) (by omega) (by simp)) ?_
    rintro _ w28 ⟨A29, m30, cp31, rfl, hGw28, hO32, hm33⟩
    have hO32 := hO32.low (b' := w.heap.size) hB.size
    have hB := ext_trans hB hGw28
    have ha := ha0.ext hB
    have hb := hb0.ext hB
    have hc := hc0.ext hB
    have hO13 := hO13.ext hGw28
    have hO20 := hO20.ext hGw28
    have hO23 := hO23.ext hGw28
    have hO26 := hO26.ext hGw28
    have hO32_l := hO32.rd.ulen
    refine WL.lit1 (b := w28.heap.size) Try.underlying23 Try.el40 rfl rfl rfl rfl (by intro v hv; simp only [List.mem_cons, List.not_mem_nil, or_false] at hv; rcases hv with rfl <;> rfl) (Nat.le_refl _) rfl ?_
    rintro A34 w35 - hO36 hGw35
    have hO36 := hO36.low (b' := w.heap.size) hB.size
    have hB := ext_trans hB hGw35
    have ha := ha0.ext hB
    have hb := hb0.ext hB
    have hc := hc0.ext hB
    have hO13 := hO13.ext hGw35
    have hO20 := hO20.ext hGw35
    have hO23 := hO23.ext hGw35
    have hO26 := hO26.ext hGw35
    have hO32 := hO32.ext hGw35
    change Own _ _ _ _ _ _ _ (us [8]) at hO36
    refine WL.call Try.func18 rfl Try.nm18 rfl rfl (same_t hO32.rd hO36.rd (by first | with_reducible rfl | (refine digs_congr ?_; simp; done) | (refine digs_congr ?_; simp; omega) | (refine digs_congr ?_; simp only [prodN_cons, prodN_nil, sumN_cons, sumN_nil, nv_digs, Nat.mul_one, Nat.add_zero, Nat.mul_add, Nat.add_mul] <;> ac_rfl) | (refine digs_lit (k := _) ?_ ?_ ?_ <;> simp; done) | (rw [trimL_digs _ hLa]; refine digs_congr ?_; simp; done) | (rw [trimL_digs _ hLa]; refine digs_congr ?_; simp; omega))) ?_
    rintro _ w37 ⟨rfl, hGw37⟩
    have hB := ext_trans hB hGw37
    have ha := ha0.ext hB
    have hb := hb0.ext hB
    have hc := hc0.ext hB
    have hO13 := hO13.ext hGw37
    have hO20 := hO20.ext hGw37
    have hO23 := hO23.ext hGw37
    have hO26 := hO26.ext hGw37
    have hO32 := hO32.ext hGw37
    have hO36 := hO36.ext hGw37
    refine WL.not rfl rfl ?_
    refine WL.move rfl rfl ?_
    refine WL.take rfl ?_
    refine WL.lit1 (b := w37.heap.size) Try.underlying23 Try.el40 rfl rfl rfl rfl (by intro v hv; simp only [List.mem_cons, List.not_mem_nil, or_false] at hv; rcases hv with rfl <;> rfl) (Nat.le_refl _) rfl ?_
    rintro A38 w39 - hO40 hGw39
    have hO40 := hO40.low (b' := w.heap.size) hB.size
    have hB := ext_trans hB hGw39
    have ha := ha0.ext hB
    have hb := hb0.ext hB
    have hc := hc0.ext hB
    have hO13 := hO13.ext hGw39
    have hO20 := hO20.ext hGw39
    have hO23 := hO23.ext hGw39
    have hO26 := hO26.ext hGw39
    have hO32 := hO32.ext hGw39
    have hO36 := hO36.ext hGw39
    change Own _ _ _ _ _ _ _ (us [3]) at hO40
    refine WL.take rfl ?_
    refine WL.lit1 (b := w39.heap.size) Try.underlying23 Try.el40 rfl rfl rfl rfl (by intro v hv; simp only [List.mem_cons, List.not_mem_nil, or_false] at hv; rcases hv with rfl <;> rfl) (Nat.le_refl _) rfl ?_
    rintro A41 w42 - hO43 hGw42
    have hO43 := hO43.low (b' := w.heap.size) hB.size
    have hB := ext_trans hB hGw42
    have ha := ha0.ext hB
    have hb := hb0.ext hB
    have hc := hc0.ext hB
    have hO13 := hO13.ext hGw42
    have hO20 := hO20.ext hGw42
    have hO23 := hO23.ext hGw42
    have hO26 := hO26.ext hGw42
    have hO32 := hO32.ext hGw42
    have hO36 := hO36.ext hGw42
    have hO40 := hO40.ext hGw42
    change Own _ _ _ _ _ _ _ (us [5]) at hO43
    refine WL.take rfl ?_
    refine WL.lit1 (b := w42.heap.size) Try.underlying39 Try.el23 rfl rfl rfl rfl (by intro v hv; simp only [List.mem_cons, List.not_mem_nil, or_false] at hv; rcases hv with rfl | rfl <;> rfl) (Nat.le_refl _) rfl ?_
    rintro A44 w45 - hO46 hGw45
    have hO46 := hO46.low (b' := w.heap.size) hB.size
    have hB := ext_trans hB hGw45
    have ha := ha0.ext hB
    have hb := hb0.ext hB
    have hc := hc0.ext hB
    have hO13 := hO13.ext hGw45
    have hO20 := hO20.ext hGw45
    have hO23 := hO23.ext hGw45
    have hO26 := hO26.ext hGw45
    have hO32 := hO32.ext hGw45
    have hO36 := hO36.ext hGw45
    have hO40 := hO40.ext hGw45
    have hO43 := hO43.ext hGw45
    have hN47 : NatsR w45.heap.size w45 [.slice A38 1 1, .slice A41 1 1] [[3], [5]] := (NatsR.cons hO40.rd.norm (NatsR.cons hO43.rd.norm (NatsR.nil _ _)))
    refine WL.take rfl ?_
    refine WL.call Try.func31 rfl Try.nm31 rfl rfl (Mul_c hO46.rd hN47 (LimAll.cons (by intro x hx; simp only [List.mem_cons, List.not_mem_nil, or_false] at hx; omega) (LimAll.cons (by intro x hx; simp only [List.mem_cons, List.not_mem_nil, or_false] at hx; omega) LimAll.nil)) 1048576 (LenAll.cons (by first | omega | (simp; done) | (simp; omega)) (LenAll.cons (by first | omega | (simp; done) | (simp; omega)) (LenAll.nil _))) (by simp)) ?_
    rintro _ w48 ⟨A49, m50, cp51, rfl, hGw48, hO52, hm53⟩
    have hO52 := hO52.low (b' := w.heap.size) hB.size
    have hB := ext_trans hB hGw48
    have ha := ha0.ext hB
    have hb := hb0.ext hB
    have hc := hc0.ext hB
    have hO13 := hO13.ext hGw48
    have hO20 := hO20.ext hGw48
    have hO23 := hO23.ext hGw48
    have hO26 := hO26.ext hGw48
    have hO32 := hO32.ext hGw48
    have hO36 := hO36.ext hGw48
    have hO40 := hO40.ext hGw48
    have hO43 := hO43.ext hGw48
    have hO46 := hO46.ext hGw48
    have hO52_l := hO52.rd.ulen
    try simp only [List.length_cons, List.length_nil] at hm53
    refine WL.take rfl ?_
    refine WL.lit1 (b := w48.heap.size) Try.underlying23 Try.el40 rfl rfl rfl rfl (by intro v hv; simp only [List.mem_cons, List.not_mem_nil, or_false] at hv; rcases hv with rfl <;> rfl) (Nat.le_refl _) rfl ?_
    rintro A54 w55 - hO56 hGw55
    have hO56 := hO56.low (b' := w.heap.size) hB.size
    have hB := ext_trans hB hGw55
    have ha := ha0.ext hB
    have hb := hb0.ext hB
    have hc := hc0.ext hB
    have hO13 := hO13.ext hGw55
    have hO20 := hO20.ext hGw55
    have hO23 := hO23.ext hGw55
    have hO26 := hO26.ext hGw55
    have hO32 := hO32.ext hGw55
    have hO36 := hO36.ext hGw55
    have hO40 := hO40.ext hGw55
    have hO43 := hO43.ext hGw55
    have hO46 := hO46.ext hGw55
    have hO52 := hO52.ext hGw55
    change Own _ _ _ _ _ _ _ (us [15]) at hO56
    refine WL.take rfl ?_
    refine WL.call Try.func18 rfl Try.nm18 rfl rfl (same_t hO52.rd hO56.rd (by first | with_reducible rfl | (refine digs_congr ?_; simp; done) | (refine digs_congr ?_; simp; omega) | (refine digs_congr ?_; simp only [prodN_cons, prodN_nil, sumN_cons, sumN_nil, nv_digs, Nat.mul_one, Nat.add_zero, Nat.mul_add, Nat.add_mul] <;> ac_rfl) | (refine digs_lit (k := _) ?_ ?_ ?_ <;> simp; done) | (rw [trimL_digs _ hLa]; refine digs_congr ?_; simp; done) | (rw [trimL_digs _ hLa]; refine digs_congr ?_; simp; omega))) ?_
    rintro _ w57 ⟨rfl, hGw57⟩
    have hB := ext_trans hB hGw57
    have ha := ha0.ext hB
    have hb := hb0.ext hB
    have hc := hc0.ext hB
    have hO13 := hO13.ext hGw57
    have hO20 := hO20.ext hGw57
    have hO23 := hO23.ext hGw57
    have hO26 := hO26.ext hGw57
    have hO32 := hO32.ext hGw57
    have hO36 := hO36.ext hGw57
    have hO40 := hO40.ext hGw57
    have hO43 := hO43.ext hGw57
    have hO46 := hO46.ext hGw57
    have hO52 := hO52.ext hGw57
    have hO56 := hO56.ext hGw57
    refine WL.take rfl ?_
    refine WL.not rfl rfl ?_
    refine WL.pick rfl rfl rfl ?_
    refine WL.done ?_
    refine W.condF rfl ?_
    refine W.skip ?_
    refine W.seq ?_
    refine W.seq ?_
    refine W.region ?_
    refine WL.move rfl rfl ?_
    refine WL.move rfl rfl ?_
    refine WL.lit1 (b := w57.heap.size) Try.underlying39 Try.el23 rfl rfl rfl rfl (by intro v hv; simp only [List.mem_cons, List.not_mem_nil, or_false] at hv; rcases hv with rfl | rfl <;> rfl) (Nat.le_refl _) rfl ?_
    rintro A58 w59 - hO60 hGw59
    have hO60 := hO60.low (b' := w.heap.size) hB.size
    have hB := ext_trans hB hGw59
    have ha := ha0.ext hB
    have hb := hb0.ext hB
    have hc := hc0.ext hB
    have hO13 := hO13.ext hGw59
    have hO20 := hO20.ext hGw59
    have hO23 := hO23.ext hGw59
    have hO26 := hO26.ext hGw59
    have hO32 := hO32.ext hGw59
    have hO36 := hO36.ext hGw59
    have hO40 := hO40.ext hGw59
    have hO43 := hO43.ext hGw59
    have hO46 := hO46.ext hGw59
    have hO52 := hO52.ext hGw59
    have hO56 := hO56.ext hGw59
    have hN61 : NatsR w59.heap.size w59 [.slice Aa ma ca, .slice Ab mb cb] [xa, xb] := (NatsR.cons ha.norm (NatsR.cons hb.norm (NatsR.nil _ _)))
    refine WL.call Try.func29 rfl Try.nm29 rfl rfl (Add_c hO60.rd hN61 (LimAll.cons hLa (LimAll.cons hLb LimAll.nil)) 1048576 (LenAll.cons (by first | omega | (simp; done) | (simp; omega)) (LenAll.cons (by first | omega | (simp; done) | (simp; omega)) (LenAll.nil _))) (by omega) (by simp)) ?_
    rintro _ w62 ⟨A63, m64, cp65, rfl, hGw62, hO66, hm67⟩
    have hO66 := hO66.low (b' := w.heap.size) hB.size
    have hB := ext_trans hB hGw62
    have ha := ha0.ext hB
    have hb := hb0.ext hB
    have hc := hc0.ext hB
    have hO13 := hO13.ext hGw62
    have hO20 := hO20.ext hGw62
    have hO23 := hO23.ext hGw62
    have hO26 := hO26.ext hGw62
    have hO32 := hO32.ext hGw62
    have hO36 := hO36.ext hGw62
    have hO40 := hO40.ext hGw62
    have hO43 := hO43.ext hGw62
    have hO46 := hO46.ext hGw62
    have hO52 := hO52.ext hGw62
    have hO56 := hO56.ext hGw62
    have hO60 := hO60.ext hGw62
    have hO66_l := hO66.rd.ulen
    refine WL.move rfl rfl ?_
    refine WL.move rfl rfl ?_
    refine WL.lit1 (b := w62.heap.size) Try.underlying39 Try.el23 rfl rfl rfl rfl (by intro v hv; simp only [List.mem_cons, List.not_mem_nil, or_false] at hv; rcases hv with rfl | rfl <;> rfl) (Nat.le_refl _) rfl ?_
    rintro A68 w69 - hO70 hGw69
    have hO70 := hO70.low (b' := w.heap.size) hB.size
    have hB := ext_trans hB hGw69
    have ha := ha0.ext hB
    have hb := hb0.ext hB
    have hc := hc0.ext hB
    have hO13 := hO13.ext hGw69
    have hO20 := hO20.ext hGw69
    have hO23 := hO23.ext hGw69
    have hO26 := hO26.ext hGw69
    have hO32 := hO32.ext hGw69
    have hO36 := hO36.ext hGw69
    have hO40 := hO40.ext hGw69
    have hO43 := hO43.ext hGw69
    have hO46 := hO46.ext hGw69
    have hO52 := hO52.ext hGw69
    have hO56 := hO56.ext hGw69
    have hO60 := hO60.ext hGw69
    have hO66 := hO66.ext hGw69
    have hN71 : NatsR w69.heap.size w69 [.slice Ab mb cb, .slice Aa ma ca] [xb, xa] := (NatsR.cons hb.norm (NatsR.cons ha.norm (NatsR.nil _ _)))
    refine WL.call Try.func29 rfl Try.nm29 rfl rfl (Add_c hO70.rd hN71 (LimAll.cons hLb (LimAll.cons hLa LimAll.nil)) 1048576 (LenAll.cons (by first | omega | (simp; done) | (simp; omega)) (LenAll.cons (by first | omega | (simp; done) | (simp; omega)) (LenAll.nil _))) (by omega) (by simp)) ?_
    rintro _ w72 ⟨A73, m74, cp75, rfl, hGw72, hO76, hm77⟩
    have hO76 := hO76.low (b' := w.heap.size) hB.size
    have hB := ext_trans hB hGw72
    have ha := ha0.ext hB
    have hb := hb0.ext hB
    have hc := hc0.ext hB
    have hO13 := hO13.ext hGw72
    have hO20 := hO20.ext hGw72
    have hO23 := hO23.ext hGw72
    have hO26 := hO26.ext hGw72
    have hO32 := hO32.ext hGw72
    have hO36 := hO36.ext hGw72
    have hO40 := hO40.ext hGw72
    have hO43 := hO43.ext hGw72
    have hO46 := hO46.ext hGw72
    have hO52 := hO52.ext hGw72
    have hO56 := hO56.ext hGw72
    have hO60 := hO60.ext hGw72
    have hO66 := hO66.ext hGw72
    have hO70 := hO70.ext hGw72
    have hO76_l := hO76.rd.ulen
    refine WL.call Try.func18 rfl Try.nm18 rfl rfl (same_t hO66.rd hO76.rd (by first | with_reducible rfl | (refine digs_congr ?_; simp; done) | (refine digs_congr ?_; simp; omega) | (refine digs_congr ?_; simp only [prodN_cons, prodN_nil, sumN_cons, sumN_nil, nv_digs, Nat.mul_one, Nat.add_zero, Nat.mul_add, Nat.add_mul] <;> ac_rfl) | (refine digs_lit (k := _) ?_ ?_ ?_ <;> simp; done) | (rw [trimL_digs _ hLa]; refine digs_congr ?_; simp; done) | (rw [trimL_digs _ hLa]; refine digs_congr ?_; simp; omega))) ?_
    rintro _ w78 ⟨rfl, hGw78⟩
    have hB := ext_trans hB hGw78
    have ha := ha0.ext hB
    have hb := hb0.ext hB
    have hc := hc0.ext hB
    have hO13 := hO13.ext hGw78
    have hO20 := hO20.ext hGw78
    have hO23 := hO23.ext hGw78
    have hO26 := hO26.ext hGw78
    have hO32 := hO32.ext hGw78
    have hO36 := hO36.ext hGw78
    have hO40 := hO40.ext hGw78
    have hO43 := hO43.ext hGw78
    have hO46 := hO46.ext hGw78
    have hO52 := hO52.ext hGw78
    have hO56 := hO56.ext hGw78
    have hO60 := hO60.ext hGw78
    have hO66 := hO66.ext hGw78
    have hO70 := hO70.ext hGw78
    have hO76 := hO76.ext hGw78
    refine WL.not rfl rfl ?_
    refine WL.move rfl rfl ?_
    refine WL.take rfl ?_
    refine WL.move rfl rfl ?_
    refine WL.take rfl ?_
    refine WL.move rfl rfl ?_
    refine WL.take rfl ?_
    refine WL.lit1 (b := w78.heap.size) Try.underlying39 Try.el23 rfl rfl rfl rfl (by intro v hv; simp only [List.mem_cons, List.not_mem_nil, or_false] at hv; rcases hv with rfl | rfl <;> rfl) (Nat.le_refl _) rfl ?_
    rintro A79 w80 - hO81 hGw80
    have hO81 := hO81.low (b' := w.heap.size) hB.size
    have hB := ext_trans hB hGw80
    have ha := ha0.ext hB
    have hb := hb0.ext hB
    have hc := hc0.ext hB
    have hO13 := hO13.ext hGw80
    have hO20 := hO20.ext hGw80
    have hO23 := hO23.ext hGw80
    have hO26 := hO26.ext hGw80
    have hO32 := hO32.ext hGw80
    have hO36 := hO36.ext hGw80
    have hO40 := hO40.ext hGw80
    have hO43 := hO43.ext hGw80
    have hO46 := hO46.ext hGw80
    have hO52 := hO52.ext hGw80
    have hO56 := hO56.ext hGw80
    have hO60 := hO60.ext hGw80
    have hO66 := hO66.ext hGw80
    have hO70 := hO70.ext hGw80
    have hO76 := hO76.ext hGw80
    have hN82 : NatsR w80.heap.size w80 [.slice Aa ma ca, .slice Ab mb cb] [xa, xb] := (NatsR.cons ha.norm (NatsR.cons hb.norm (NatsR.nil _ _)))
    refine WL.take rfl ?_
    refine WL.call Try.func31 rfl Try.nm31 rfl rfl (Mul_c hO81.rd hN82 (LimAll.cons hLa (LimAll.cons hLb LimAll.nil)) 1048576 (LenAll.cons (by first | omega | (simp; done) | (simp; omega)) (LenAll.cons (by first | omega | (simp; done) | (simp; omega)) (LenAll.nil _))) (by simp)) ?_
    rintro _ w83 ⟨A84, m85, cp86, rfl, hGw83, hO87, hm88⟩
    have hO87 := hO87.low (b' := w.heap.size) hB.size
    have hB := ext_trans hB hGw83
    have ha := ha0.ext hB
    have hb := hb0.ext hB
    have hc := hc0.ext hB
    have hO13 := hO13.ext hGw83
    have hO20 := hO20.ext hGw83
    have hO23 := hO23.ext hGw83
    have hO26 := hO26.ext hGw83
    have hO32 := hO32.ext hGw83
    have hO36 := hO36.ext hGw83
    have hO40 := hO40.ext hGw83
    have hO43 := hO43.ext hGw83
    have hO46 := hO46.ext hGw83
    have hO52 := hO52.ext hGw83
    have hO56 := hO56.ext hGw83
    have hO60 := hO60.ext hGw83
    have hO66 := hO66.ext hGw83
    have hO70 := hO70.ext hGw83
    have hO76 := hO76.ext hGw83
    have hO81 := hO81.ext hGw83
    have hO87_l := hO87.rd.ulen
    try simp only [List.length_cons, List.length_nil] at hm88
    refine WL.take rfl ?_
    refine WL.move rfl rfl ?_
    refine WL.take rfl ?_
    refine WL.move rfl rfl ?_
    refine WL.take rfl ?_
    refine WL.lit1 (b := w83.heap.size) Try.underlying39 Try.el23 rfl rfl rfl rfl (by intro v hv; simp only [List.mem_cons, List.not_mem_nil, or_false] at hv; rcases hv with rfl | rfl <;> rfl) (Nat.le_refl _) rfl ?_
    rintro A89 w90 - hO91 hGw90
    have hO91 := hO91.low (b' := w.heap.size) hB.size
    have hB := ext_trans hB hGw90
    have ha := ha0.ext hB
    have hb := hb0.ext hB
    have hc := hc0.ext hB
    have hO13 := hO13.ext hGw90
    have hO20 := hO20.ext hGw90
    have hO23 := hO23.ext hGw90
    have hO26 := hO26.ext hGw90
    have hO32 := hO32.ext hGw90
    have hO36 := hO36.ext hGw90
    have hO40 := hO40.ext hGw90
    have hO43 := hO43.ext hGw90
    have hO46 := hO46.ext hGw90
    have hO52 := hO52.ext hGw90
    have hO56 := hO56.ext hGw90
    have hO60 := hO60.ext hGw90
    have hO66 := hO66.ext hGw90
    have hO70 := hO70.ext hGw90
    have hO76 := hO76.ext hGw90
    have hO81 := hO81.ext hGw90
    have hO87 := hO87.ext hGw90
    have hN92 : NatsR w90.heap.size w90 [.slice Ab mb cb, .slice Aa ma ca] [xb, xa] := (NatsR.cons hb.norm (NatsR.cons ha.norm (NatsR.nil _ _)))
    refine WL.take rfl ?_
    refine WL.call Try.func31 rfl Try.nm31 rfl rfl (Mul_c hO91.rd hN92 (LimAll.cons hLb (LimAll.cons hLa LimAll.nil)) 1048576 (LenAll.cons (by first | omega | (simp; done) | (simp; omega)) (LenAll.cons (by first | omega | (simp; done) | (simp; omega)) (LenAll.nil _))) (by simp)) ?_
    rintro _ w93 ⟨A94, m95, cp96, rfl, hGw93, hO97, hm98⟩
    have hO97 := hO97.low (b' := w.heap.size) hB.size
    have hB := ext_trans hB hGw93
    have ha := ha0.ext hB
    have hb := hb0.ext hB
    have hc := hc0.ext hB
    have hO13 := hO13.ext hGw93
    have hO20 := hO20.ext hGw93
    have hO23 := hO23.ext hGw93
    have hO26 := hO26.ext hGw93
    have hO32 := hO32.ext hGw93
    have hO36 := hO36.ext hGw93
    have hO40 := hO40.ext hGw93
    have hO43 := hO43.ext hGw93
    have hO46 := hO46.ext hGw93
    have hO52 := hO52.ext hGw93
    have hO56 := hO56.ext hGw93
    have hO60 := hO60.ext hGw93
    have hO66 := hO66.ext hGw93
    have hO70 := hO70.ext hGw93
    have hO76 := hO76.ext hGw93
    have hO81 := hO81.ext hGw93
    have hO87 := hO87.ext hGw93
    have hO91 := hO91.ext hGw93
    have hO97_l := hO97.rd.ulen
    try simp only [List.length_cons, List.length_nil] at hm98
    refine WL.take rfl ?_
    refine WL.call Try.func18 rfl Try.nm18 rfl rfl (same_t hO87.rd hO97.rd (by first | with_reducible rfl | (refine digs_congr ?_; simp; done) | (refine digs_congr ?_; simp; omega) | (refine digs_congr ?_; simp only [prodN_cons, prodN_nil, sumN_cons, sumN_nil, nv_digs, Nat.mul_one, Nat.add_zero, Nat.mul_add, Nat.add_mul] <;> ac_rfl) | (refine digs_lit (k := _) ?_ ?_ ?_ <;> simp; done) | (rw [trimL_digs _ hLa]; refine digs_congr ?_; simp; done) | (rw [trimL_digs _ hLa]; refine digs_congr ?_; simp; omega))) ?_
    rintro _ w99 ⟨rfl, hGw99⟩
    have hB := ext_trans hB hGw99
    have ha := ha0.ext hB
    have hb := hb0.ext hB
    have hc := hc0.ext hB
    have hO13 := hO13.ext hGw99
    have hO20 := hO20.ext hGw99
    have hO23 := hO23.ext hGw99
    have hO26 := hO26.ext hGw99
    have hO32 := hO32.ext hGw99
    have hO36 := hO36.ext hGw99
    have hO40 := hO40.ext hGw99
    have hO43 := hO43.ext hGw99
    have hO46 := hO46.ext hGw99
    have hO52 := hO52.ext hGw99
    have hO56 := hO56.ext hGw99
    have hO60 := hO60.ext hGw99
    have hO66 := hO66.ext hGw99
    have hO70 := hO70.ext hGw99
    have hO76 := hO76.ext hGw99
    have hO81 := hO81.ext hGw99
    have hO87 := hO87.ext hGw99
    have hO91 := hO91.ext hGw99
    have hO97 := hO97.ext hGw99
    refine WL.take rfl ?_
    refine WL.not rfl rfl ?_
    refine WL.pick rfl rfl rfl ?_
    refine WL.done ?_
    refine W.condF rfl ?_
    refine W.skip ?_
    refine W.seq ?_
    refine W.seq ?_
    refine W.region ?_
    refine WL.move rfl rfl ?_
    refine WL.move rfl rfl ?_
    refine WL.lit1 (b := w99.heap.size) Try.underlying39 Try.el23 rfl rfl rfl rfl (by intro v hv; simp only [List.mem_cons, List.not_mem_nil, or_false] at hv; rcases hv with rfl | rfl <;> rfl) (Nat.le_refl _) rfl ?_
    rintro A100 w101 - hO102 hGw101
    have hO102 := hO102.low (b' := w.heap.size) hB.size
    have hB := ext_trans hB hGw101
    have ha := ha0.ext hB
    have hb := hb0.ext hB
    have hc := hc0.ext hB
    have hO13 := hO13.ext hGw101
    have hO20 := hO20.ext hGw101
    have hO23 := hO23.ext hGw101
    have hO26 := hO26.ext hGw101
    have hO32 := hO32.ext hGw101
    have hO36 := hO36.ext hGw101
    have hO40 := hO40.ext hGw101
    have hO43 := hO43.ext hGw101
    have hO46 := hO46.ext hGw101
    have hO52 := hO52.ext hGw101
    have hO56 := hO56.ext hGw101
    have hO60 := hO60.ext hGw101
    have hO66 := hO66.ext hGw101
    have hO70 := hO70.ext hGw101
    have hO76 := hO76.ext hGw101
    have hO81 := hO81.ext hGw101
    have hO87 := hO87.ext hGw101
    have hO91 := hO91.ext hGw101
    have hO97 := hO97.ext hGw101
    have hN103 : NatsR w101.heap.size w101 [.slice Aa ma ca, .slice Ab mb cb] [xa, xb] := (NatsR.cons ha.norm (NatsR.cons hb.norm (NatsR.nil _ _)))
    refine WL.call Try.func29 rfl Try.nm29 rfl rfl (Add_c hO102.rd hN103 (LimAll.cons hLa (LimAll.cons hLb LimAll.nil)) 1048576 (LenAll.cons (by first | omega | (simp; done) | (simp; omega)) (LenAll.cons (by first | omega | (simp; done) | (simp; omega)) (LenAll.nil _))) (by omega) (by simp)) ?_
    rintro _ w104 ⟨A105, m106, cp107, rfl, hGw104, hO108, hm109⟩
    have hO108 := hO108.low (b' := w.heap.size) hB.size
    have hB := ext_trans hB hGw104
    have ha := ha0.ext hB
    have hb := hb0.ext hB
    have hc := hc0.ext hB
    have hO13 := hO13.ext hGw104
    have hO20 := hO20.ext hGw104
    have hO23 := hO23.ext hGw104
    have hO26 := hO26.ext hGw104
    have hO32 := hO32.ext hGw104
    have hO36 := hO36.ext hGw104
    have hO40 := hO40.ext hGw104
    have hO43 := hO43.ext hGw104
    have hO46 := hO46.ext hGw104
    have hO52 := hO52.ext hGw104
    have hO56 := hO56.ext hGw104
    have hO60 := hO60.ext hGw104
    have hO66 := hO66.ext hGw104
    have hO70 := hO70.ext hGw104
    have hO76 := hO76.ext hGw104
    have hO81 := hO81.ext hGw104
    have hO87 := hO87.ext hGw104
    have hO91 := hO91.ext hGw104
    have hO97 := hO97.ext hGw104
    have hO102 := hO102.ext hGw104
    have hO108_l := hO108.rd.ulen
    refine WL.move rfl rfl ?_
    refine WL.lit1 (b := w104.heap.size) Try.underlying39 Try.el23 rfl rfl rfl rfl (by intro v hv; simp only [List.mem_cons, List.not_mem_nil, or_false] at hv; rcases hv with rfl | rfl <;> rfl) (Nat.le_refl _) rfl ?_
    rintro A110 w111 - hO112 hGw111
    have hO112 := hO112.low (b' := w.heap.size) hB.size
    have hB := ext_trans hB hGw111
    have ha := ha0.ext hB
    have hb := hb0.ext hB
    have hc := hc0.ext hB
    have hO13 := hO13.ext hGw111
    have hO20 := hO20.ext hGw111
    have hO23 := hO23.ext hGw111
    have hO26 := hO26.ext hGw111
    have hO32 := hO32.ext hGw111
    have hO36 := hO36.ext hGw111
    have hO40 := hO40.ext hGw111
    have hO43 := hO43.ext hGw111
    have hO46 := hO46.ext hGw111
    have hO52 := hO52.ext hGw111
    have hO56 := hO56.ext hGw111
    have hO60 := hO60.ext hGw111
    have hO66 := hO66.ext hGw111
    have hO70 := hO70.ext hGw111
    have hO76 := hO76.ext hGw111
    have hO81 := hO81.ext hGw111
    have hO87 := hO87.ext hGw111
    have hO91 := hO91.ext hGw111
    have hO97 := hO97.ext hGw111
    have hO102 := hO102.ext hGw111
    have hO108 := hO108.ext hGw111
    have hN113 : NatsR w111.heap.size w111 [.slice A105 m106 cp107, .slice Ac mc cc] [digs (sumN ([xa, xb])), xc] := (NatsR.cons hO108.rd.norm (NatsR.cons hc.norm (NatsR.nil _ _)))
    refine WL.call Try.func29 rfl Try.nm29 rfl rfl (Add_c hO112.rd hN113 (LimAll.cons (digs_lim _) (LimAll.cons hLc LimAll.nil)) 16777216 (LenAll.cons (by first | omega | (simp; done) | (simp; omega)) (LenAll.cons (by first | omega | (simp; done) | (simp; omega)) (LenAll.nil _))) (by omega) (by simp)) ?_
    rintro _ w114 ⟨A115, m116, cp117, rfl, hGw114, hO118, hm119⟩
    have hO118 := hO118.low (b' := w.heap.size) hB.size
    have hB := ext_trans hB hGw114
    have ha := ha0.ext hB
    have hb := hb0.ext hB
    have hc := hc0.ext hB
    have hO13 := hO13.ext hGw114
    have hO20 := hO20.ext hGw114
    have hO23 := hO23.ext hGw114
    have hO26 := hO26.ext hGw114
    have hO32 := hO32.ext hGw114
    have hO36 := hO36.ext hGw114
    have hO40 := hO40.ext hGw114
    have hO43 := hO43.ext hGw114
    have hO46 := hO46.ext hGw114
    have hO52 := hO52.ext hGw114
    have hO56 := hO56.ext hGw114
    have hO60 := hO60.ext hGw114
    have hO66 := hO66.ext hGw114
    have hO70 := hO70.ext hGw114
    have hO76 := hO76.ext hGw114
    have hO81 := hO81.ext hGw114
    have hO87 := hO87.ext hGw114
    have hO91 := hO91.ext hGw114
    have hO97 := hO97.ext hGw114
    have hO102 := hO102.ext hGw114
    have hO108 := hO108.ext hGw114
    have hO112 := hO112.ext hGw114
    have hO118_l := hO118.rd.ulen
    refine WL.move rfl rfl ?_
    refine WL.move rfl rfl ?_
    refine WL.move rfl rfl ?_
    refine WL.lit1 (b := w114.heap.size) Try.underlying39 Try.el23 rfl rfl rfl rfl (by intro v hv; simp only [List.mem_cons, List.not_mem_nil, or_false] at hv; rcases hv with rfl | rfl <;> rfl) (Nat.le_refl _) rfl ?_
    rintro A120 w121 - hO122 hGw121
    have hO122 := hO122.low (b' := w.heap.size) hB.size
    have hB := ext_trans hB hGw121
    have ha := ha0.ext hB
    have hb := hb0.ext hB
    have hc := hc0.ext hB
    have hO13 := hO13.ext hGw121
    have hO20 := hO20.ext hGw121
    have hO23 := hO23.ext hGw121
    have hO26 := hO26.ext hGw121
    have hO32 := hO32.ext hGw121
    have hO36 := hO36.ext hGw121
    have hO40 := hO40.ext hGw121
    have hO43 := hO43.ext hGw121
    have hO46 := hO46.ext hGw121
    have hO52 := hO52.ext hGw121
    have hO56 := hO56.ext hGw121
    have hO60 := hO60.ext hGw121
    have hO66 := hO66.ext hGw121
    have hO70 := hO70.ext hGw121
    have hO76 := hO76.ext hGw121
    have hO81 := hO81.ext hGw121
    have hO87 := hO87.ext hGw121
    have hO91 := hO91.ext hGw121
    have hO97 := hO97.ext hGw121
    have hO102 := hO102.ext hGw121
    have hO108 := hO108.ext hGw121
    have hO112 := hO112.ext hGw121
    have hO118 := hO118.ext hGw121
    have hN123 : NatsR w121.heap.size w121 [.slice Ab mb cb, .slice Ac mc cc] [xb, xc] := (NatsR.cons hb.norm (NatsR.cons hc.norm (NatsR.nil _ _)))
    refine WL.call Try.func29 rfl Try.nm29 rfl rfl (Add_c hO122.rd hN123 (LimAll.cons hLb (LimAll.cons hLc LimAll.nil)) 1048576 (LenAll.cons (by first | omega | (simp; done) | (simp; omega)) (LenAll.cons (by first | omega | (simp; done) | (simp; omega)) (LenAll.nil _))) (by omega) (by simp)) ?_
    rintro _ w124 ⟨A125, m126, cp127, rfl, hGw124, hO128, hm129⟩
    have hO128 := hO128.low (b' := w.heap.size) hB.size
    have hB := ext_trans hB hGw124
    have ha := ha0.ext hB
    have hb := hb0.ext hB
    have hc := hc0.ext hB
    have hO13 := hO13.ext hGw124
    have hO20 := hO20.ext hGw124
    have hO23 := hO23.ext hGw124
    have hO26 := hO26.ext hGw124
    have hO32 := hO32.ext hGw124
    have hO36 := hO36.ext hGw124
    have hO40 := hO40.ext hGw124
    have hO43 := hO43.ext hGw124
    have hO46 := hO46.ext hGw124
    have hO52 := hO52.ext hGw124
    have hO56 := hO56.ext hGw124
    have hO60 := hO60.ext hGw124
    have hO66 := hO66.ext hGw124
    have hO70 := hO70.ext hGw124
    have hO76 := hO76.ext hGw124
    have hO81 := hO81.ext hGw124
    have hO87 := hO87.ext hGw124
    have hO91 := hO91.ext hGw124
    have hO97 := hO97.ext hGw124
    have hO102 := hO102.ext hGw124
    have hO108 := hO108.ext hGw124
    have hO112 := hO112.ext hGw124
    have hO118 := hO118.ext hGw124
    have hO122 := hO122.ext hGw124
    have hO128_l := hO128.rd.ulen
    refine WL.lit1 (b := w124.heap.size) Try.underlying39 Try.el23 rfl rfl rfl rfl (by intro v hv; simp only [List.mem_cons, List.not_mem_nil, or_false] at hv; rcases hv with rfl | rfl <;> rfl) (Nat.le_refl _) rfl ?_
    rintro A130 w131 - hO132 hGw131
    have hO132 := hO132.low (b' := w.heap.size) hB.size
    have hB := ext_trans hB hGw131
    have ha := ha0.ext hB
    have hb := hb0.ext hB
    have hc := hc0.ext hB
    have hO13 := hO13.ext hGw131
    have hO20 := hO20.ext hGw131
    have hO23 := hO23.ext hGw131
    have hO26 := hO26.ext hGw131
    have hO32 := hO32.ext hGw131
    have hO36 := hO36.ext hGw131
    have hO40 := hO40.ext hGw131
    have hO43 := hO43.ext hGw131
    have hO46 := hO46.ext hGw131
    have hO52 := hO52.ext hGw131
    have hO56 := hO56.ext hGw131
    have hO60 := hO60.ext hGw131
    have hO66 := hO66.ext hGw131
    have hO70 := hO70.ext hGw131
    have hO76 := hO76.ext hGw131
    have hO81 := hO81.ext hGw131
    have hO87 := hO87.ext hGw131
    have hO91 := hO91.ext hGw131
    have hO97 := hO97.ext hGw131
    have hO102 := hO102.ext hGw131
    have hO108 := hO108.ext hGw131
    have hO112 := hO112.ext hGw131
    have hO118 := hO118.ext hGw131
    have hO122 := hO122.ext hGw131
    have hO128 := hO128.ext hGw131
    have hN133 : NatsR w131.heap.size w131 [.slice Aa ma ca, .slice A125 m126 cp127] [xa, digs (sumN ([xb, xc]))] := (NatsR.cons ha.norm (NatsR.cons hO128.rd.norm (NatsR.nil _ _)))
    refine WL.call Try.func29 rfl Try.nm29 rfl rfl (Add_c hO132.rd hN133 (LimAll.cons hLa (LimAll.cons (digs_lim _) LimAll.nil)) 16777216 (LenAll.cons (by first | omega | (simp; done) | (simp; omega)) (LenAll.cons (by first | omega | (simp; done) | (simp; omega)) (LenAll.nil _))) (by omega) (by simp)) ?_
    rintro _ w134 ⟨A135, m136, cp137, rfl, hGw134, hO138, hm139⟩
    have hO138 := hO138.low (b' := w.heap.size) hB.size
    have hB := ext_trans hB hGw134
    have ha := ha0.ext hB
    have hb := hb0.ext hB
    have hc := hc0.ext hB
    have hO13 := hO13.ext hGw134
    have hO20 := hO20.ext hGw134
    have hO23 := hO23.ext hGw134
    have hO26 := hO26.ext hGw134
    have hO32 := hO32.ext hGw134
    have hO36 := hO36.ext hGw134
    have hO40 := hO40.ext hGw134
    have hO43 := hO43.ext hGw134
    have hO46 := hO46.ext hGw134
    have hO52 := hO52.ext hGw134
    have hO56 := hO56.ext hGw134
    have hO60 := hO60.ext hGw134
    have hO66 := hO66.ext hGw134
    have hO70 := hO70.ext hGw134
    have hO76 := hO76.ext hGw134
    have hO81 := hO81.ext hGw134
    have hO87 := hO87.ext hGw134
    have hO91 := hO91.ext hGw134
    have hO97 := hO97.ext hGw134
    have hO102 := hO102.ext hGw134
    have hO108 := hO108.ext hGw134
    have hO112 := hO112.ext hGw134
    have hO118 := hO118.ext hGw134
    have hO122 := hO122.ext hGw134
    have hO128 := hO128.ext hGw134
    have hO132 := hO132.ext hGw134
    have hO138_l := hO138.rd.ulen
    refine WL.call Try.func18 rfl Try.nm18 rfl rfl (same_t hO118.rd hO138.rd (by first | with_reducible rfl | (refine digs_congr ?_; simp; done) | (refine digs_congr ?_; simp; omega) | (refine digs_congr ?_; simp only [prodN_cons, prodN_nil, sumN_cons, sumN_nil, nv_digs, Nat.mul_one, Nat.add_zero, Nat.mul_add, Nat.add_mul] <;> ac_rfl) | (refine digs_lit (k := _) ?_ ?_ ?_ <;> simp; done) | (rw [trimL_digs _ hLa]; refine digs_congr ?_; simp; done) | (rw [trimL_digs _ hLa]; refine digs_congr ?_; simp; omega))) ?_
    rintro _ w140 ⟨rfl, hGw140⟩
    have hB := ext_trans hB hGw140
    have ha := ha0.ext hB
    have hb := hb0.ext hB
    have hc := hc0.ext hB
    have hO13 := hO13.ext hGw140
    have hO20 := hO20.ext hGw140
    have hO23 := hO23.ext hGw140
    have hO26 := hO26.ext hGw140
    have hO32 := hO32.ext hGw140
    have hO36 := hO36.ext hGw140
    have hO40 := hO40.ext hGw140
    have hO43 := hO43.ext hGw140
    have hO46 := hO46.ext hGw140
    have hO52 := hO52.ext hGw140
    have hO56 := hO56.ext hGw140
    have hO60 := hO60.ext hGw140
    have hO66 := hO66.ext hGw140
    have hO70 := hO70.ext hGw140
    have hO76 := hO76.ext hGw140
    have hO81 := hO81.ext hGw140
    have hO87 := hO87.ext hGw140
    have hO91 := hO91.ext hGw140
    have hO97 := hO97.ext hGw140
    have hO102 := hO102.ext hGw140
    have hO108 := hO108.ext hGw140
    have hO112 := hO112.ext hGw140
    have hO118 := hO118.ext hGw140
    have hO122 := hO122.ext hGw140
    have hO128 := hO128.ext hGw140
    have hO132 := hO132.ext hGw140
    have hO138 := hO138.ext hGw140
    refine WL.not rfl rfl ?_
    refine WL.move rfl rfl ?_
    refine WL.take rfl ?_
    refine WL.move rfl rfl ?_
    refine WL.take rfl ?_
    refine WL.move rfl rfl ?_
    refine WL.take rfl ?_
    refine WL.lit1 (b := w140.heap.size) Try.underlying39 Try.el23 rfl rfl rfl rfl (by intro v hv; simp only [List.mem_cons, List.not_mem_nil, or_false] at hv; rcases hv with rfl | rfl <;> rfl) (Nat.le_refl _) rfl ?_
    rintro A141 w142 - hO143 hGw142
    have hO143 := hO143.low (b' := w.heap.size) hB.size
    have hB := ext_trans hB hGw142
    have ha := ha0.ext hB
    have hb := hb0.ext hB
    have hc := hc0.ext hB
    have hO13 := hO13.ext hGw142
    have hO20 := hO20.ext hGw142
    have hO23 := hO23.ext hGw142
    have hO26 := hO26.ext hGw142
    have hO32 := hO32.ext hGw142
    have hO36 := hO36.ext hGw142
    have hO40 := hO40.ext hGw142
    have hO43 := hO43.ext hGw142
    have hO46 := hO46.ext hGw142
    have hO52 := hO52.ext hGw142
    have hO56 := hO56.ext hGw142
    have hO60 := hO60.ext hGw142
    have hO66 := hO66.ext hGw142
    have hO70 := hO70.ext hGw142
    have hO76 := hO76.ext hGw142
    have hO81 := hO81.ext hGw142
    have hO87 := hO87.ext hGw142
    have hO91 := hO91.ext hGw142
    have hO97 := hO97.ext hGw142
    have hO102 := hO102.ext hGw142
    have hO108 := hO108.ext hGw142
    have hO112 := hO112.ext hGw142
    have hO118 := hO118.ext hGw142
    have hO122 := hO122.ext hGw142
    have hO128 := hO128.ext hGw142
    have hO132 := hO132.ext hGw142
    have hO138 := hO138.ext hGw142
    have hN144 : NatsR w142.heap.size w142 [.slice Aa ma ca, .slice Ab mb cb] [xa, xb] := (NatsR.cons ha.norm (NatsR.cons hb.norm (NatsR.nil _ _)))
    refine WL.take rfl ?_
    refine WL.call Try.func31 rfl Try.nm31 rfl rfl (Mul_c hO143.rd hN144 (LimAll.cons hLa (LimAll.cons hLb LimAll.nil)) 1048576 (LenAll.cons (by first | omega | (simp; done) | (simp; omega)) (LenAll.cons (by first | omega | (simp; done) | (simp; omega)) (LenAll.nil _))) (by simp)) ?_
    rintro _ w145 ⟨A146, m147, cp148, rfl, hGw145, hO149, hm150⟩
    have hO149 := hO149.low (b' := w.heap.size) hB.size
    have hB := ext_trans hB hGw145
    have ha := ha0.ext hB
    have hb := hb0.ext hB
    have hc := hc0.ext hB
    have hO13 := hO13.ext hGw145
    have hO20 := hO20.ext hGw145
    have hO23 := hO23.ext hGw145
    have hO26 := hO26.ext hGw145
    have hO32 := hO32.ext hGw145
    have hO36 := hO36.ext hGw145
    have hO40 := hO40.ext hGw145
    have hO43 := hO43.ext hGw145
    have hO46 := hO46.ext hGw145
    have hO52 := hO52.ext hGw145
    have hO56 := hO56.ext hGw145
    have hO60 := hO60.ext hGw145
    have hO66 := hO66.ext hGw145
    have hO70 := hO70.ext hGw145
    have hO76 := hO76.ext hGw145
    have hO81 := hO81.ext hGw145
    have hO87 := hO87.ext hGw145
    have hO91 := hO91.ext hGw145
    have hO97 := hO97.ext hGw145
    have hO102 := hO102.ext hGw145
    have hO108 := hO108.ext hGw145
    have hO112 := hO112.ext hGw145
    have hO118 := hO118.ext hGw145
    have hO122 := hO122.ext hGw145
    have hO128 := hO128.ext hGw145
    have hO132 := hO132.ext hGw145
    have hO138 := hO138.ext hGw145
    have hO143 := hO143.ext hGw145
    have hO149_l := hO149.rd.ulen
    try simp only [List.length_cons, List.length_nil] at hm150
    refine WL.take rfl ?_
    refine WL.move rfl rfl ?_
    refine WL.take rfl ?_
    refine WL.lit1 (b := w145.heap.size) Try.underlying39 Try.el23 rfl rfl rfl rfl (by intro v hv; simp only [List.mem_cons, List.not_mem_nil, or_false] at hv; rcases hv with rfl | rfl <;> rfl) (Nat.le_refl _) rfl ?_
    rintro A151 w152 - hO153 hGw152
    have hO153 := hO153.low (b' := w.heap.size) hB.size
    have hB := ext_trans hB hGw152
    have ha := ha0.ext hB
    have hb := hb0.ext hB
    have hc := hc0.ext hB
    have hO13 := hO13.ext hGw152
    have hO20 := hO20.ext hGw152
    have hO23 := hO23.ext hGw152
    have hO26 := hO26.ext hGw152
    have hO32 := hO32.ext hGw152
    have hO36 := hO36.ext hGw152
    have hO40 := hO40.ext hGw152
    have hO43 := hO43.ext hGw152
    have hO46 := hO46.ext hGw152
    have hO52 := hO52.ext hGw152
    have hO56 := hO56.ext hGw152
    have hO60 := hO60.ext hGw152
    have hO66 := hO66.ext hGw152
    have hO70 := hO70.ext hGw152
    have hO76 := hO76.ext hGw152
    have hO81 := hO81.ext hGw152
    have hO87 := hO87.ext hGw152
    have hO91 := hO91.ext hGw152
    have hO97 := hO97.ext hGw152
    have hO102 := hO102.ext hGw152
    have hO108 := hO108.ext hGw152
    have hO112 := hO112.ext hGw152
    have hO118 := hO118.ext hGw152
    have hO122 := hO122.ext hGw152
    have hO128 := hO128.ext hGw152
    have hO132 := hO132.ext hGw152
    have hO138 := hO138.ext hGw152
    have hO143 := hO143.ext hGw152
    have hO149 := hO149.ext hGw152
    have hN154 : NatsR w152.heap.size w152 [.slice A146 m147 cp148, .slice Ac mc cc] [digs (prodN ([xa, xb])), xc] := (NatsR.cons hO149.rd.norm (NatsR.cons hc.norm (NatsR.nil _ _)))
    refine WL.take rfl ?_
    refine WL.call Try.func31 rfl Try.nm31 rfl rfl (Mul_c hO153.rd hN154 (LimAll.cons (digs_lim _) (LimAll.cons hLc LimAll.nil)) 16777216 (LenAll.cons (by first | omega | (simp; done) | (simp; omega)) (LenAll.cons (by first | omega | (simp; done) | (simp; omega)) (LenAll.nil _))) (by simp)) ?_
    rintro _ w155 ⟨A156, m157, cp158, rfl, hGw155, hO159, hm160⟩
    have hO159 := hO159.low (b' := w.heap.size) hB.size
    have hB := ext_trans hB hGw155
    have ha := ha0.ext hB
    have hb := hb0.ext hB
    have hc := hc0.ext hB
    have hO13 := hO13.ext hGw155
    have hO20 := hO20.ext hGw155
    have hO23 := hO23.ext hGw155
    have hO26 := hO26.ext hGw155
    have hO32 := hO32.ext hGw155
    have hO36 := hO36.ext hGw155
    have hO40 := hO40.ext hGw155
    have hO43 := hO43.ext hGw155
    have hO46 := hO46.ext hGw155
    have hO52 := hO52.ext hGw155
    have hO56 := hO56.ext hGw155
    have hO60 := hO60.ext hGw155
    have hO66 := hO66.ext hGw155
    have hO70 := hO70.ext hGw155
    have hO76 := hO76.ext hGw155
    have hO81 := hO81.ext hGw155
    have hO87 := hO87.ext hGw155
    have hO91 := hO91.ext hGw155
    have hO97 := hO97.ext hGw155
    have hO102 := hO102.ext hGw155
    have hO108 := hO108.ext hGw155
    have hO112 := hO112.ext hGw155
    have hO118 := hO118.ext hGw155
    have hO122 := hO122.ext hGw155
    have hO128 := hO128.ext hGw155
    have hO132 := hO132.ext hGw155
    have hO138 := hO138.ext hGw155
    have hO143 := hO143.ext hGw155
    have hO149 := hO149.ext hGw155
    have hO153 := hO153.ext hGw155
    have hO159_l := hO159.rd.ulen
    try simp only [List.length_cons, List.length_nil] at hm160
    refine WL.take rfl ?_
    refine WL.move rfl rfl ?_
    refine WL.take rfl ?_
    refine WL.move rfl rfl ?_
    refine WL.take rfl ?_
    refine WL.move rfl rfl ?_
    refine WL.take rfl ?_
    refine WL.lit1 (b := w155.heap.size) Try.underlying39 Try.el23 rfl rfl rfl rfl (by intro v hv; simp only [List.mem_cons, List.not_mem_nil, or_false] at hv; rcases hv with rfl | rfl <;> rfl) (Nat.le_refl _) rfl ?_
    rintro A161 w162 - hO163 hGw162
    have hO163 := hO163.low (b' := w.heap.size) hB.size
    have hB := ext_trans hB hGw162
    have ha := ha0.ext hB
    have hb := hb0.ext hB
    have hc := hc0.ext hB
    have hO13 := hO13.ext hGw162
    have hO20 := hO20.ext hGw162
    have hO23 := hO23.ext hGw162
    have hO26 := hO26.ext hGw162
    have hO32 := hO32.ext hGw162
    have hO36 := hO36.ext hGw162
    have hO40 := hO40.ext hGw162
    have hO43 := hO43.ext hGw162
    have hO46 := hO46.ext hGw162
    have hO52 := hO52.ext hGw162
    have hO56 := hO56.ext hGw162
    have hO60 := hO60.ext hGw162
    have hO66 := hO66.ext hGw162
    have hO70 := hO70.ext hGw162
    have hO76 := hO76.ext hGw162
    have hO81 := hO81.ext hGw162
    have hO87 := hO87.ext hGw162
    have hO91 := hO91.ext hGw162
    have hO97 := hO97.ext hGw162
    have hO102 := hO102.ext hGw162
    have hO108 := hO108.ext hGw162
    have hO112 := hO112.ext hGw162
    have hO118 := hO118.ext hGw162
    have hO122 := hO122.ext hGw162
    have hO128 := hO128.ext hGw162
    have hO132 := hO132.ext hGw162
    have hO138 := hO138.ext hGw162
    have hO143 := hO143.ext hGw162
    have hO149 := hO149.ext hGw162
    have hO153 := hO153.ext hGw162
    have hO159 := hO159.ext hGw162
    have hN164 : NatsR w162.heap.size w162 [.slice Ab mb cb, .slice Ac mc cc] [xb, xc] := (NatsR.cons hb.norm (NatsR.cons hc.norm (NatsR.nil _ _)))
    refine WL.take rfl ?_
    refine WL.call Try.func31 rfl Try.nm31 rfl rfl (Mul_c hO163.rd hN164 (LimAll.cons hLb (LimAll.cons hLc LimAll.nil)) 1048576 (LenAll.cons (by first | omega | (simp; done) | (simp; omega)) (LenAll.cons (by first | omega | (simp; done) | (simp; omega)) (LenAll.nil _))) (by simp)) ?_
    rintro _ w165 ⟨A166, m167, cp168, rfl, hGw165, hO169, hm170⟩
    have hO169 := hO169.low (b' := w.heap.size) hB.size
    have hB := ext_trans hB hGw165
    have ha := ha0.ext hB
    have hb := hb0.ext hB
    have hc := hc0.ext hB
    have hO13 := hO13.ext hGw165
    have hO20 := hO20.ext hGw165
    have hO23 := hO23.ext hGw165
    have hO26 := hO26.ext hGw165
    have hO32 := hO32.ext hGw165
    have hO36 := hO36.ext hGw165
    have hO40 := hO40.ext hGw165
    have hO43 := hO43.ext hGw165
    have hO46 := hO46.ext hGw165
    have hO52 := hO52.ext hGw165
    have hO56 := hO56.ext hGw165
    have hO60 := hO60.ext hGw165
    have hO66 := hO66.ext hGw165
    have hO70 := hO70.ext hGw165
    have hO76 := hO76.ext hGw165
    have hO81 := hO81.ext hGw165
    have hO87 := hO87.ext hGw165
    have hO91 := hO91.ext hGw165
    have hO97 := hO97.ext hGw165
    have hO102 := hO102.ext hGw165
    have hO108 := hO108.ext hGw165
    have hO112 := hO112.ext hGw165
    have hO118 := hO118.ext hGw165
    have hO122 := hO122.ext hGw165
    have hO128 := hO128.ext hGw165
    have hO132 := hO132.ext hGw165
    have hO138 := hO138.ext hGw165
    have hO143 := hO143.ext hGw165
    have hO149 := hO149.ext hGw165
    have hO153 := hO153.ext hGw165
    have hO159 := hO159.ext hGw165
    have hO163 := hO163.ext hGw165
    have hO169_l := hO169.rd.ulen
    try simp only [List.length_cons, List.length_nil] at hm170
    refine WL.take rfl ?_
    refine WL.lit1 (b := w165.heap.size) Try.underlying39 Try.el23 rfl rfl rfl rfl (by intro v hv; simp only [List.mem_cons, List.not_mem_nil, or_false] at hv; rcases hv with rfl | rfl <;> rfl) (Nat.le_refl _) rfl ?_
    rintro A171 w172 - hO173 hGw172
    have hO173 := hO173.low (b' := w.heap.size) hB.size
    have hB := ext_trans hB hGw172
    have ha := ha0.ext hB
    have hb := hb0.ext hB
    have hc := hc0.ext hB
    have hO13 := hO13.ext hGw172
    have hO20 := hO20.ext hGw172
    have hO23 := hO23.ext hGw172
    have hO26 := hO26.ext hGw172
    have hO32 := hO32.ext hGw172
    have hO36 := hO36.ext hGw172
    have hO40 := hO40.ext hGw172
    have hO43 := hO43.ext hGw172
    have hO46 := hO46.ext hGw172
    have hO52 := hO52.ext hGw172
    have hO56 := hO56.ext hGw172
    have hO60 := hO60.ext hGw172
    have hO66 := hO66.ext hGw172
    have hO70 := hO70.ext hGw172
    have hO76 := hO76.ext hGw172
    have hO81 := hO81.ext hGw172
    have hO87 := hO87.ext hGw172
    have hO91 := hO91.ext hGw172
    have hO97 := hO97.ext hGw172
    have hO102 := hO102.ext hGw172
    have hO108 := hO108.ext hGw172
    have hO112 := hO112.ext hGw172
    have hO118 := hO118.ext hGw172
    have hO122 := hO122.ext hGw172
    have hO128 := hO128.ext hGw172
    have hO132 := hO132.ext hGw172
    have hO138 := hO138.ext hGw172
    have hO143 := hO143.ext hGw172
    have hO149 := hO149.ext hGw172
    have hO153 := hO153.ext hGw172
    have hO159 := hO159.ext hGw172
    have hO163 := hO163.ext hGw172
    have hO169 := hO169.ext hGw172
    have hN174 : NatsR w172.heap.size w172 [.slice Aa ma ca, .slice A166 m167 cp168] [xa, digs (prodN ([xb, xc]))] := (NatsR.cons ha.norm (NatsR.cons hO169.rd.norm (NatsR.nil _ _)))
    refine WL.take rfl ?_
    refine WL.call Try.func31 rfl Try.nm31 rfl rfl (Mul_c hO173.rd hN174 (LimAll.cons hLa (LimAll.cons (digs_lim _) LimAll.nil)) 16777216 (LenAll.cons (by first | omega | (simp; done) | (simp; omega)) (LenAll.cons (by first | omega | (simp; done) | (simp; omega)) (LenAll.nil _))) (by simp)) ?_
    rintro _ w175 ⟨A176, m177, cp178, rfl, hGw175, hO179, hm180⟩
    have hO179 := hO179.low (b' := w.heap.size) hB.size
    have hB := ext_trans hB hGw175
    have ha := ha0.ext hB
    have hb := hb0.ext hB
    have hc := hc0.ext hB
    have hO13 := hO13.ext hGw175
    have hO20 := hO20.ext hGw175
    have hO23 := hO23.ext hGw175
    have hO26 := hO26.ext hGw175
    have hO32 := hO32.ext hGw175
    have hO36 := hO36.ext hGw175
    have hO40 := hO40.ext hGw175
    have hO43 := hO43.ext hGw175
    have hO46 := hO46.ext hGw175
    have hO52 := hO52.ext hGw175
    have hO56 := hO56.ext hGw175
    have hO60 := hO60.ext hGw175
    have hO66 := hO66.ext hGw175
    have hO70 := hO70.ext hGw175
    have hO76 := hO76.ext hGw175
    have hO81 := hO81.ext hGw175
    have hO87 := hO87.ext hGw175
    have hO91 := hO91.ext hGw175
    have hO97 := hO97.ext hGw175
    have hO102 := hO102.ext hGw175
    have hO108 := hO108.ext hGw175
    have hO112 := hO112.ext hGw175
    have hO118 := hO118.ext hGw175
    have hO122 := hO122.ext hGw175
    have hO128 := hO128.ext hGw175
    have hO132 := hO132.ext hGw175
    have hO138 := hO138.ext hGw175
    have hO143 := hO143.ext hGw175
    have hO149 := hO149.ext hGw175
    have hO153 := hO153.ext hGw175
    have hO159 := hO159.ext hGw175
    have hO163 := hO163.ext hGw175
    have hO169 := hO169.ext hGw175
    have hO173 := hO173.ext hGw175
    have hO179_l := hO179.rd.ulen
    try simp only [List.length_cons, List.length_nil] at hm180
    refine WL.take rfl ?_
    refine WL.call Try.func18 rfl Try.nm18 rfl rfl (same_t hO159.rd hO179.rd (by first | with_reducible rfl | (refine digs_congr ?_; simp; done) | (refine digs_congr ?_; simp; omega) | (refine digs_congr ?_; simp only [prodN_cons, prodN_nil, sumN_cons, sumN_nil, nv_digs, Nat.mul_one, Nat.add_zero, Nat.mul_add, Nat.add_mul] <;> ac_rfl) | (refine digs_lit (k := _) ?_ ?_ ?_ <;> simp; done) | (rw [trimL_digs _ hLa]; refine digs_congr ?_; simp; done) | (rw [trimL_digs _ hLa]; refine digs_congr ?_; simp; omega))) ?_
    rintro _ w181 ⟨rfl, hGw181⟩
    have hB := ext_trans hB hGw181
    have ha := ha0.ext hB
    have hb := hb0.ext hB
    have hc := hc0.ext hB
    have hO13 := hO13.ext hGw181
    have hO20 := hO20.ext hGw181
    have hO23 := hO23.ext hGw181
    have hO26 := hO26.ext hGw181
    have hO32 := hO32.ext hGw181
    have hO36 := hO36.ext hGw181
    have hO40 := hO40.ext hGw181
    have hO43 := hO43.ext hGw181
    have hO46 := hO46.ext hGw181
    have hO52 := hO52.ext hGw181
    have hO56 := hO56.ext hGw181
    have hO60 := hO60.ext hGw181
    have hO66 := hO66.ext hGw181
    have hO70 := hO70.ext hGw181
    have hO76 := hO76.ext hGw181
    have hO81 := hO81.ext hGw181
    have hO87 := hO87.ext hGw181
    have hO91 := hO91.ext hGw181
    have hO97 := hO97.ext hGw181
    have hO102 := hO102.ext hGw181
    have hO108 := hO108.ext hGw181
    have hO112 := hO112.ext hGw181
    have hO118 := hO118.ext hGw181
    have hO122 := hO122.ext hGw181
    have hO128 := hO128.ext hGw181
    have hO132 := hO132.ext hGw181
    have hO138 := hO138.ext hGw181
    have hO143 := hO143.ext hGw181
    have hO149 := hO149.ext hGw181
    have hO153 := hO153.ext hGw181
    have hO159 := hO159.ext hGw181
    have hO163 := hO163.ext hGw181
    have hO169 := hO169.ext hGw181
    have hO173 := hO173.ext hGw181
    have hO179 := hO179.ext hGw181
    refine WL.take rfl ?_
    refine WL.not rfl rfl ?_
    refine WL.pick rfl rfl rfl ?_
    refine WL.done ?_
    refine W.condF rfl ?_
    refine W.skip ?_
    refine W.seq ?_
    refine W.region ?_
    refine WL.move rfl rfl ?_
    refine WL.move rfl rfl ?_
    refine WL.move rfl rfl ?_
    refine WL.lit1 (b := w181.heap.size) Try.underlying39 Try.el23 rfl rfl rfl rfl (by intro v hv; simp only [List.mem_cons, List.not_mem_nil, or_false] at hv; rcases hv with rfl | rfl <;> rfl) (Nat.le_refl _) rfl ?_
    rintro A182 w183 - hO184 hGw183
    have hO184 := hO184.low (b' := w.heap.size) hB.size
    have hB := ext_trans hB hGw183
    have ha := ha0.ext hB
    have hb := hb0.ext hB
    have hc := hc0.ext hB
    have hO13 := hO13.ext hGw183
    have hO20 := hO20.ext hGw183
    have hO23 := hO23.ext hGw183
    have hO26 := hO26.ext hGw183
    have hO32 := hO32.ext hGw183
    have hO36 := hO36.ext hGw183
    have hO40 := hO40.ext hGw183
    have hO43 := hO43.ext hGw183
    have hO46 := hO46.ext hGw183
    have hO52 := hO52.ext hGw183
    have hO56 := hO56.ext hGw183
    have hO60 := hO60.ext hGw183
    have hO66 := hO66.ext hGw183
    have hO70 := hO70.ext hGw183
    have hO76 := hO76.ext hGw183
    have hO81 := hO81.ext hGw183
    have hO87 := hO87.ext hGw183
    have hO91 := hO91.ext hGw183
    have hO97 := hO97.ext hGw183
    have hO102 := hO102.ext hGw183
    have hO108 := hO108.ext hGw183
    have hO112 := hO112.ext hGw183
    have hO118 := hO118.ext hGw183
    have hO122 := hO122.ext hGw183
    have hO128 := hO128.ext hGw183
    have hO132 := hO132.ext hGw183
    have hO138 := hO138.ext hGw183
    have hO143 := hO143.ext hGw183
    have hO149 := hO149.ext hGw183
    have hO153 := hO153.ext hGw183
    have hO159 := hO159.ext hGw183
    have hO163 := hO163.ext hGw183
    have hO169 := hO169.ext hGw183
    have hO173 := hO173.ext hGw183
    have hO179 := hO179.ext hGw183
    have hN185 : NatsR w183.heap.size w183 [.slice Ab mb cb, .slice Ac mc cc] [xb, xc] := (NatsR.cons hb.norm (NatsR.cons hc.norm (NatsR.nil _ _)))
    refine WL.call Try.func29 rfl Try.nm29 rfl rfl (Add_c hO184.rd hN185 (LimAll.cons hLb (LimAll.cons hLc LimAll.nil)) 1048576 (LenAll.cons (by first | omega | (simp; done) | (simp; omega)) (LenAll.cons (by first | omega | (simp; done) | (simp; omega)) (LenAll.nil _))) (by omega) (by simp)) ?_
    rintro _ w186 ⟨A187, m188, cp189, rfl, hGw186, hO190, hm191⟩
    have hO190 := hO190.low (b' := w.heap.size) hB.size
    have hB := ext_trans hB hGw186
    have ha := ha0.ext hB
    have hb := hb0.ext hB
    have hc := hc0.ext hB
    have hO13 := hO13.ext hGw186
    have hO20 := hO20.ext hGw186
    have hO23 := hO23.ext hGw186
    have hO26 := hO26.ext hGw186
    have hO32 := hO32.ext hGw186
    have hO36 := hO36.ext hGw186
    have hO40 := hO40.ext hGw186
    have hO43 := hO43.ext hGw186
    have hO46 := hO46.ext hGw186
    have hO52 := hO52.ext hGw186
    have hO56 := hO56.ext hGw186
    have hO60 := hO60.ext hGw186
    have hO66 := hO66.ext hGw186
    have hO70 := hO70.ext hGw186
    have hO76 := hO76.ext hGw186
    have hO81 := hO81.ext hGw186
    have hO87 := hO87.ext hGw186
    have hO91 := hO91.ext hGw186
    have hO97 := hO97.ext hGw186
    have hO102 := hO102.ext hGw186
    have hO108 := hO108.ext hGw186
    have hO112 := hO112.ext hGw186
    have hO118 := hO118.ext hGw186
    have hO122 := hO122.ext hGw186
    have hO128 := hO128.ext hGw186
    have hO132 := hO132.ext hGw186
    have hO138 := hO138.ext hGw186
    have hO143 := hO143.ext hGw186
    have hO149 := hO149.ext hGw186
    have hO153 := hO153.ext hGw186
    have hO159 := hO159.ext hGw186
    have hO163 := hO163.ext hGw186
    have hO169 := hO169.ext hGw186
    have hO173 := hO173.ext hGw186
    have hO179 := hO179.ext hGw186
    have hO184 := hO184.ext hGw186
    have hO190_l := hO190.rd.ulen
    refine WL.lit1 (b := w186.heap.size) Try.underlying39 Try.el23 rfl rfl rfl rfl (by intro v hv; simp only [List.mem_cons, List.not_mem_nil, or_false] at hv; rcases hv with rfl | rfl <;> rfl) (Nat.le_refl _) rfl ?_
    rintro A192 w193 - hO194 hGw193
    have hO194 := hO194.low (b' := w.heap.size) hB.size
    have hB := ext_trans hB hGw193
    have ha := ha0.ext hB
    have hb := hb0.ext hB
    have hc := hc0.ext hB
    have hO13 := hO13.ext hGw193
    have hO20 := hO20.ext hGw193
    have hO23 := hO23.ext hGw193
    have hO26 := hO26.ext hGw193
    have hO32 := hO32.ext hGw193
    have hO36 := hO36.ext hGw193
    have hO40 := hO40.ext hGw193
    have hO43 := hO43.ext hGw193
    have hO46 := hO46.ext hGw193
    have hO52 := hO52.ext hGw193
    have hO56 := hO56.ext hGw193
    have hO60 := hO60.ext hGw193
    have hO66 := hO66.ext hGw193
    have hO70 := hO70.ext hGw193
    have hO76 := hO76.ext hGw193
    have hO81 := hO81.ext hGw193
    have hO87 := hO87.ext hGw193
    have hO91 := hO91.ext hGw193
    have hO97 := hO97.ext hGw193
    have hO102 := hO102.ext hGw193
    have hO108 := hO108.ext hGw193
    have hO112 := hO112.ext hGw193
    have hO118 := hO118.ext hGw193
    have hO122 := hO122.ext hGw193
    have hO128 := hO128.ext hGw193
    have hO132 := hO132.ext hGw193
    have hO138 := hO138.ext hGw193
    have hO143 := hO143.ext hGw193
    have hO149 := hO149.ext hGw193
    have hO153 := hO153.ext hGw193
    have hO159 := hO159.ext hGw193
    have hO163 := hO163.ext hGw193
    have hO169 := hO169.ext hGw193
    have hO173 := hO173.ext hGw193
    have hO179 := hO179.ext hGw193
    have hO184 := hO184.ext hGw193
    have hO190 := hO190.ext hGw193
    have hN195 : NatsR w193.heap.size w193 [.slice Aa ma ca, .slice A187 m188 cp189] [xa, digs (sumN ([xb, xc]))] := (NatsR.cons ha.norm (NatsR.cons hO190.rd.norm (NatsR.nil _ _)))
    refine WL.call Try.func31 rfl Try.nm31 rfl rfl (Mul_c hO194.rd hN195 (LimAll.cons hLa (LimAll.cons (digs_lim _) LimAll.nil)) 16777216 (LenAll.cons (by first | omega | (simp; done) | (simp; omega)) (LenAll.cons (by first | omega | (simp; done) | (simp; omega)) (LenAll.nil _))) (by simp)) ?_
    rintro _ w196 ⟨A197, m198, cp199, rfl, hGw196, hO200, hm201⟩
    have hO200 := hO200.low (b' := w.heap.size) hB.size
    have hB := ext_trans hB hGw196
    have ha := ha0.ext hB
    have hb := hb0.ext hB
    have hc := hc0.ext hB
    have hO13 := hO13.ext hGw196
    have hO20 := hO20.ext hGw196
    have hO23 := hO23.ext hGw196
    have hO26 := hO26.ext hGw196
    have hO32 := hO32.ext hGw196
    have hO36 := hO36.ext hGw196
    have hO40 := hO40.ext hGw196
    have hO43 := hO43.ext hGw196
    have hO46 := hO46.ext hGw196
    have hO52 := hO52.ext hGw196
    have hO56 := hO56.ext hGw196
    have hO60 := hO60.ext hGw196
    have hO66 := hO66.ext hGw196
    have hO70 := hO70.ext hGw196
    have hO76 := hO76.ext hGw196
    have hO81 := hO81.ext hGw196
    have hO87 := hO87.ext hGw196
    have hO91 := hO91.ext hGw196
    have hO97 := hO97.ext hGw196
    have hO102 := hO102.ext hGw196
    have hO108 := hO108.ext hGw196
    have hO112 := hO112.ext hGw196
    have hO118 := hO118.ext hGw196
    have hO122 := hO122.ext hGw196
    have hO128 := hO128.ext hGw196
    have hO132 := hO132.ext hGw196
    have hO138 := hO138.ext hGw196
    have hO143 := hO143.ext hGw196
    have hO149 := hO149.ext hGw196
    have hO153 := hO153.ext hGw196
    have hO159 := hO159.ext hGw196
    have hO163 := hO163.ext hGw196
    have hO169 := hO169.ext hGw196
    have hO173 := hO173.ext hGw196
    have hO179 := hO179.ext hGw196
    have hO184 := hO184.ext hGw196
    have hO190 := hO190.ext hGw196
    have hO194 := hO194.ext hGw196
    have hO200_l := hO200.rd.ulen
    try simp only [List.length_cons, List.length_nil] at hm201
    refine WL.move rfl rfl ?_
    refine WL.move rfl rfl ?_
    refine WL.lit1 (b := w196.heap.size) Try.underlying39 Try.el23 rfl rfl rfl rfl (by intro v hv; simp only [List.mem_cons, List.not_mem_nil, or_false] at hv; rcases hv with rfl | rfl <;> rfl) (Nat.le_refl _) rfl ?_
    rintro A202 w203 - hO204 hGw203
    have hO204 := hO204.low (b' := w.heap.size) hB.size
    have hB := ext_trans hB hGw203
    have ha := ha0.ext hB
    have hb := hb0.ext hB
    have hc := hc0.ext hB
    have hO13 := hO13.ext hGw203
    have hO20 := hO20.ext hGw203
    have hO23 := hO23.ext hGw203
    have hO26 := hO26.ext hGw203
    have hO32 := hO32.ext hGw203
    have hO36 := hO36.ext hGw203
    have hO40 := hO40.ext hGw203
    have hO43 := hO43.ext hGw203
    have hO46 := hO46.ext hGw203
    have hO52 := hO52.ext hGw203
    have hO56 := hO56.ext hGw203
    have hO60 := hO60.ext hGw203
    have hO66 := hO66.ext hGw203
    have hO70 := hO70.ext hGw203
    have hO76 := hO76.ext hGw203
    have hO81 := hO81.ext hGw203
    have hO87 := hO87.ext hGw203
    have hO91 := hO91.ext hGw203
    have hO97 := hO97.ext hGw203
    have hO102 := hO102.ext hGw203
    have hO108 := hO108.ext hGw203
    have hO112 := hO112.ext hGw203
    have hO118 := hO118.ext hGw203
    have hO122 := hO122.ext hGw203
    have hO128 := hO128.ext hGw203
    have hO132 := hO132.ext hGw203
    have hO138 := hO138.ext hGw203
    have hO143 := hO143.ext hGw203
    have hO149 := hO149.ext hGw203
    have hO153 := hO153.ext hGw203
    have hO159 := hO159.ext hGw203
    have hO163 := hO163.ext hGw203
    have hO169 := hO169.ext hGw203
    have hO173 := hO173.ext hGw203
    have hO179 := hO179.ext hGw203
    have hO184 := hO184.ext hGw203
    have hO190 := hO190.ext hGw203
    have hO194 := hO194.ext hGw203
    have hO200 := hO200.ext hGw203
    have hN205 : NatsR w203.heap.size w203 [.slice Aa ma ca, .slice Ab mb cb] [xa, xb] := (NatsR.cons ha.norm (NatsR.cons hb.norm (NatsR.nil _ _)))
    refine WL.call Try.func31 rfl Try.nm31 rfl rfl (Mul_c hO204.rd hN205 (LimAll.cons hLa (LimAll.cons hLb LimAll.nil)) 1048576 (LenAll.cons (by first | omega | (simp; done) | (simp; omega)) (LenAll.cons (by first | omega | (simp; done) | (simp; omega)) (LenAll.nil _))) (by simp)) ?_
    rintro _ w206 ⟨A207, m208, cp209, rfl, hGw206, hO210, hm211⟩
    have hO210 := hO210.low (b' := w.heap.size) hB.size
    have hB := ext_trans hB hGw206
    have ha := ha0.ext hB
    have hb := hb0.ext hB
    have hc := hc0.ext hB
    have hO13 := hO13.ext hGw206
    have hO20 := hO20.ext hGw206
    have hO23 := hO23.ext hGw206
    have hO26 := hO26.ext hGw206
    have hO32 := hO32.ext hGw206
    have hO36 := hO36.ext hGw206
    have hO40 := hO40.ext hGw206
    have hO43 := hO43.ext hGw206
    have hO46 := hO46.ext hGw206
    have hO52 := hO52.ext hGw206
    have hO56 := hO56.ext hGw206
    have hO60 := hO60.ext hGw206
    have hO66 := hO66.ext hGw206
    have hO70 := hO70.ext hGw206
    have hO76 := hO76.ext hGw206
    have hO81 := hO81.ext hGw206
    have hO87 := hO87.ext hGw206
    have hO91 := hO91.ext hGw206
    have hO97 := hO97.ext hGw206
    have hO102 := hO102.ext hGw206
    have hO108 := hO108.ext hGw206
    have hO112 := hO112.ext hGw206
    have hO118 := hO118.ext hGw206
    have hO122 := hO122.ext hGw206
    have hO128 := hO128.ext hGw206
    have hO132 := hO132.ext hGw206
    have hO138 := hO138.ext hGw206
    have hO143 := hO143.ext hGw206
    have hO149 := hO149.ext hGw206
    have hO153 := hO153.ext hGw206
    have hO159 := hO159.ext hGw206
    have hO163 := hO163.ext hGw206
    have hO169 := hO169.ext hGw206
    have hO173 := hO173.ext hGw206
    have hO179 := hO179.ext hGw206
    have hO184 := hO184.ext hGw206
    have hO190 := hO190.ext hGw206
    have hO194 := hO194.ext hGw206
    have hO200 := hO200.ext hGw206
    have hO204 := hO204.ext hGw206
    have hO210_l := hO210.rd.ulen
    try simp only [List.length_cons, List.length_nil] at hm211
    refine WL.move rfl rfl ?_
    refine WL.move rfl rfl ?_
    refine WL.lit1 (b := w206.heap.size) Try.underlying39 Try.el23 rfl rfl rfl rfl (by intro v hv; simp only [List.mem_cons, List.not_mem_nil, or_false] at hv; rcases hv with rfl | rfl <;> rfl) (Nat.le_refl _) rfl ?_
    rintro A212 w213 - hO214 hGw213
    have hO214 := hO214.low (b' := w.heap.size) hB.size
    have hB := ext_trans hB hGw213
    have ha := ha0.ext hB
    have hb := hb0.ext hB
    have hc := hc0.ext hB
    have hO13 := hO13.ext hGw213
    have hO20 := hO20.ext hGw213
    have hO23 := hO23.ext hGw213
    have hO26 := hO26.ext hGw213
    have hO32 := hO32.ext hGw213
    have hO36 := hO36.ext hGw213
    have hO40 := hO40.ext hGw213
    have hO43 := hO43.ext hGw213
    have hO46 := hO46.ext hGw213
    have hO52 := hO52.ext hGw213
    have hO56 := hO56.ext hGw213
    have hO60 := hO60.ext hGw213
    have hO66 := hO66.ext hGw213
    have hO70 := hO70.ext hGw213
    have hO76 := hO76.ext hGw213
    have hO81 := hO81.ext hGw213
    have hO87 := hO87.ext hGw213
    have hO91 := hO91.ext hGw213
    have hO97 := hO97.ext hGw213
    have hO102 := hO102.ext hGw213
    have hO108 := hO108.ext hGw213
    have hO112 := hO112.ext hGw213
    have hO118 := hO118.ext hGw213
    have hO122 := hO122.ext hGw213
    have hO128 := hO128.ext hGw213
    have hO132 := hO132.ext hGw213
    have hO138 := hO138.ext hGw213
    have hO143 := hO143.ext hGw213
    have hO149 := hO149.ext hGw213
    have hO153 := hO153.ext hGw213
    have hO159 := hO159.ext hGw213
    have hO163 := hO163.ext hGw213
    have hO169 := hO169.ext hGw213
    have hO173 := hO173.ext hGw213
    have hO179 := hO179.ext hGw213
    have hO184 := hO184.ext hGw213
    have hO190 := hO190.ext hGw213
    have hO194 := hO194.ext hGw213
    have hO200 := hO200.ext hGw213
    have hO204 := hO204.ext hGw213
    have hO210 := hO210.ext hGw213
    have hN215 : NatsR w213.heap.size w213 [.slice Aa ma ca, .slice Ac mc cc] [xa, xc] := (NatsR.cons ha.norm (NatsR.cons hc.norm (NatsR.nil _ _)))
    refine WL.call Try.func31 rfl Try.nm31 rfl rfl (Mul_c hO214.rd hN215 (LimAll.cons hLa (LimAll.cons hLc LimAll.nil)) 1048576 (LenAll.cons (by first | omega | (simp; done) | (simp; omega)) (LenAll.cons (by first | omega | (simp; done) | (simp; omega)) (LenAll.nil _))) (by simp)) ?_
    rintro _ w216 ⟨A217, m218, cp219, rfl, hGw216, hO220, hm221⟩
    have hO220 := hO220.low (b' := w.heap.size) hB.size
    have hB := ext_trans hB hGw216
    have ha := ha0.ext hB
    have hb := hb0.ext hB
    have hc := hc0.ext hB
    have hO13 := hO13.ext hGw216
    have hO20 := hO20.ext hGw216
    have hO23 := hO23.ext hGw216
    have hO26 := hO26.ext hGw216
    have hO32 := hO32.ext hGw216
    have hO36 := hO36.ext hGw216
    have hO40 := hO40.ext hGw216
    have hO43 := hO43.ext hGw216
    have hO46 := hO46.ext hGw216
    have hO52 := hO52.ext hGw216
    have hO56 := hO56.ext hGw216
    have hO60 := hO60.ext hGw216
    have hO66 := hO66.ext hGw216
    have hO70 := hO70.ext hGw216
    have hO76 := hO76.ext hGw216
    have hO81 := hO81.ext hGw216
    have hO87 := hO87.ext hGw216
    have hO91 := hO91.ext hGw216
    have hO97 := hO97.ext hGw216
    have hO102 := hO102.ext hGw216
    have hO108 := hO108.ext hGw216
    have hO112 := hO112.ext hGw216
    have hO118 := hO118.ext hGw216
    have hO122 := hO122.ext hGw216
    have hO128 := hO128.ext hGw216
    have hO132 := hO132.ext hGw216
    have hO138 := hO138.ext hGw216
    have hO143 := hO143.ext hGw216
    have hO149 := hO149.ext hGw216
    have hO153 := hO153.ext hGw216
    have hO159 := hO159.ext hGw216
    have hO163 := hO163.ext hGw216
    have hO169 := hO169.ext hGw216
    have hO173 := hO173.ext hGw216
    have hO179 := hO179.ext hGw216
    have hO184 := hO184.ext hGw216
    have hO190 := hO190.ext hGw216
    have hO194 := hO194.ext hGw216
    have hO200 := hO200.ext hGw216
    have hO204 := hO204.ext hGw216
    have hO210 := hO210.ext hGw216
    have hO214 := hO214.ext hGw216
    have hO220_l := hO220.rd.ulen
    try simp only [List.length_cons, List.length_nil] at hm221
    refine WL.lit1 (b := w216.heap.size) Try.underlying39 Try.el23 rfl rfl rfl rfl (by intro v hv; simp only [List.mem_cons, List.not_mem_nil, or_false] at hv; rcases hv with rfl | rfl <;> rfl) (Nat.le_refl _) rfl ?_
    rintro A222 w223 - hO224 hGw223
    have hO224 := hO224.low (b' := w.heap.size) hB.size
    have hB := ext_trans hB hGw223
    have ha := ha0.ext hB
    have hb := hb0.ext hB
    have hc := hc0.ext hB
    have hO13 := hO13.ext hGw223
    have hO20 := hO20.ext hGw223
    have hO23 := hO23.ext hGw223
    have hO26 := hO26.ext hGw223
    have hO32 := hO32.ext hGw223
    have hO36 := hO36.ext hGw223
    have hO40 := hO40.ext hGw223
    have hO43 := hO43.ext hGw223
    have hO46 := hO46.ext hGw223
    have hO52 := hO52.ext hGw223
    have hO56 := hO56.ext hGw223
    have hO60 := hO60.ext hGw223
    have hO66 := hO66.ext hGw223
    have hO70 := hO70.ext hGw223
    have hO76 := hO76.ext hGw223
    have hO81 := hO81.ext hGw223
    have hO87 := hO87.ext hGw223
    have hO91 := hO91.ext hGw223
    have hO97 := hO97.ext hGw223
    have hO102 := hO102.ext hGw223
    have hO108 := hO108.ext hGw223
    have hO112 := hO112.ext hGw223
    have hO118 := hO118.ext hGw223
    have hO122 := hO122.ext hGw223
    have hO128 := hO128.ext hGw223
    have hO132 := hO132.ext hGw223
    have hO138 := hO138.ext hGw223
    have hO143 := hO143.ext hGw223
    have hO149 := hO149.ext hGw223
    have hO153 := hO153.ext hGw223
    have hO159 := hO159.ext hGw223
    have hO163 := hO163.ext hGw223
    have hO169 := hO169.ext hGw223
    have hO173 := hO173.ext hGw223
    have hO179 := hO179.ext hGw223
    have hO184 := hO184.ext hGw223
    have hO190 := hO190.ext hGw223
    have hO194 := hO194.ext hGw223
    have hO200 := hO200.ext hGw223
    have hO204 := hO204.ext hGw223
    have hO210 := hO210.ext hGw223
    have hO214 := hO214.ext hGw223
    have hO220 := hO220.ext hGw223
    have hN225 : NatsR w223.heap.size w223 [.slice A207 m208 cp209, .slice A217 m218 cp219] [digs (prodN ([xa, xb])), digs (prodN ([xa, xc]))] := (NatsR.cons hO210.rd.norm (NatsR.cons hO220.rd.norm (NatsR.nil _ _)))
    refine WL.call Try.func29 rfl Try.nm29 rfl rfl (Add_c hO224.rd hN225 (LimAll.cons (digs_lim _) (LimAll.cons (digs_lim _) LimAll.nil)) 16777216 (LenAll.cons (by first | omega | (simp; done) | (simp; omega)) (LenAll.cons (by first | omega | (simp; done) | (simp; omega)) (LenAll.nil _))) (by omega) (by simp)) ?_
    rintro _ w226 ⟨A227, m228, cp229, rfl, hGw226, hO230, hm231⟩
    have hO230 := hO230.low (b' := w.heap.size) hB.size
    have hB := ext_trans hB hGw226
    have ha := ha0.ext hB
    have hb := hb0.ext hB
    have hc := hc0.ext hB
    have hO13 := hO13.ext hGw226
    have hO20 := hO20.ext hGw226
    have hO23 := hO23.ext hGw226
    have hO26 := hO26.ext hGw226
    have hO32 := hO32.ext hGw226
    have hO36 := hO36.ext hGw226
    have hO40 := hO40.ext hGw226
    have hO43 := hO43.ext hGw226
    have hO46 := hO46.ext hGw226
    have hO52 := hO52.ext hGw226
    have hO56 := hO56.ext hGw226
    have hO60 := hO60.ext hGw226
    have hO66 := hO66.ext hGw226
    have hO70 := hO70.ext hGw226
    have hO76 := hO76.ext hGw226
    have hO81 := hO81.ext hGw226
    have hO87 := hO87.ext hGw226
    have hO91 := hO91.ext hGw226
    have hO97 := hO97.ext hGw226
    have hO102 := hO102.ext hGw226
    have hO108 := hO108.ext hGw226
    have hO112 := hO112.ext hGw226
    have hO118 := hO118.ext hGw226
    have hO122 := hO122.ext hGw226
    have hO128 := hO128.ext hGw226
    have hO132 := hO132.ext hGw226
    have hO138 := hO138.ext hGw226
    have hO143 := hO143.ext hGw226
    have hO149 := hO149.ext hGw226
    have hO153 := hO153.ext hGw226
    have hO159 := hO159.ext hGw226
    have hO163 := hO163.ext hGw226
    have hO169 := hO169.ext hGw226
    have hO173 := hO173.ext hGw226
    have hO179 := hO179.ext hGw226
    have hO184 := hO184.ext hGw226
    have hO190 := hO190.ext hGw226
    have hO194 := hO194.ext hGw226
    have hO200 := hO200.ext hGw226
    have hO204 := hO204.ext hGw226
    have hO210 := hO210.ext hGw226
    have hO214 := hO214.ext hGw226
    have hO220 := hO220.ext hGw226
    have hO224 := hO224.ext hGw226
    have hO230_l := hO230.rd.ulen
    refine WL.call Try.func18 rfl Try.nm18 rfl rfl (same_t hO200.rd hO230.rd (by first | with_reducible rfl | (refine digs_congr ?_; simp; done) | (refine digs_congr ?_; simp; omega) | (refine digs_congr ?_; simp only [prodN_cons, prodN_nil, sumN_cons, sumN_nil, nv_digs, Nat.mul_one, Nat.add_zero, Nat.mul_add, Nat.add_mul] <;> ac_rfl) | (refine digs_lit (k := _) ?_ ?_ ?_ <;> simp; done) | (rw [trimL_digs _ hLa]; refine digs_congr ?_; simp; done) | (rw [trimL_digs _ hLa]; refine digs_congr ?_; simp; omega))) ?_
    rintro _ w232 ⟨rfl, hGw232⟩
    have hB := ext_trans hB hGw232
    have ha := ha0.ext hB
    have hb := hb0.ext hB
    have hc := hc0.ext hB
    have hO13 := hO13.ext hGw232
    have hO20 := hO20.ext hGw232
    have hO23 := hO23.ext hGw232
    have hO26 := hO26.ext hGw232
    have hO32 := hO32.ext hGw232
    have hO36 := hO36.ext hGw232
    have hO40 := hO40.ext hGw232
    have hO43 := hO43.ext hGw232
    have hO46 := hO46.ext hGw232
    have hO52 := hO52.ext hGw232
    have hO56 := hO56.ext hGw232
    have hO60 := hO60.ext hGw232
    have hO66 := hO66.ext hGw232
    have hO70 := hO70.ext hGw232
    have hO76 := hO76.ext hGw232
    have hO81 := hO81.ext hGw232
    have hO87 := hO87.ext hGw232
    have hO91 := hO91.ext hGw232
    have hO97 := hO97.ext hGw232
    have hO102 := hO102.ext hGw232
    have hO108 := hO108.ext hGw232
    have hO112 := hO112.ext hGw232
    have hO118 := hO118.ext hGw232
    have hO122 := hO122.ext hGw232
    have hO128 := hO128.ext hGw232
    have hO132 := hO132.ext hGw232
    have hO138 := hO138.ext hGw232
    have hO143 := hO143.ext hGw232
    have hO149 := hO149.ext hGw232
    have hO153 := hO153.ext hGw232
    have hO159 := hO159.ext hGw232
    have hO163 := hO163.ext hGw232
    have hO169 := hO169.ext hGw232
    have hO173 := hO173.ext hGw232
    have hO179 := hO179.ext hGw232
    have hO184 := hO184.ext hGw232
    have hO190 := hO190.ext hGw232
    have hO194 := hO194.ext hGw232
    have hO200 := hO200.ext hGw232
    have hO204 := hO204.ext hGw232
    have hO210 := hO210.ext hGw232
    have hO214 := hO214.ext hGw232
    have hO220 := hO220.ext hGw232
    have hO224 := hO224.ext hGw232
    have hO230 := hO230.ext hGw232
    refine WL.move rfl rfl ?_
    refine WL.take rfl ?_
    refine WL.move rfl rfl ?_
    refine WL.take rfl ?_
    refine WL.lit1 (b := w232.heap.size) Try.underlying39 Try.el23 rfl rfl rfl rfl (by intro v hv; simp only [List.mem_cons, List.not_mem_nil, or_false] at hv; rcases hv with rfl | rfl <;> rfl) (Nat.le_refl _) rfl ?_
    rintro A233 w234 - hO235 hGw234
    have hO235 := hO235.low (b' := w.heap.size) hB.size
    have hB := ext_trans hB hGw234
    have ha := ha0.ext hB
    have hb := hb0.ext hB
    have hc := hc0.ext hB
    have hO13 := hO13.ext hGw234
    have hO20 := hO20.ext hGw234
    have hO23 := hO23.ext hGw234
    have hO26 := hO26.ext hGw234
    have hO32 := hO32.ext hGw234
    have hO36 := hO36.ext hGw234
    have hO40 := hO40.ext hGw234
    have hO43 := hO43.ext hGw234
    have hO46 := hO46.ext hGw234
    have hO52 := hO52.ext hGw234
    have hO56 := hO56.ext hGw234
    have hO60 := hO60.ext hGw234
    have hO66 := hO66.ext hGw234
    have hO70 := hO70.ext hGw234
    have hO76 := hO76.ext hGw234
    have hO81 := hO81.ext hGw234
    have hO87 := hO87.ext hGw234
    have hO91 := hO91.ext hGw234
    have hO97 := hO97.ext hGw234
    have hO102 := hO102.ext hGw234
    have hO108 := hO108.ext hGw234
    have hO112 := hO112.ext hGw234
    have hO118 := hO118.ext hGw234
    have hO122 := hO122.ext hGw234
    have hO128 := hO128.ext hGw234
    have hO132 := hO132.ext hGw234
    have hO138 := hO138.ext hGw234
    have hO143 := hO143.ext hGw234
    have hO149 := hO149.ext hGw234
    have hO153 := hO153.ext hGw234
    have hO159 := hO159.ext hGw234
    have hO163 := hO163.ext hGw234
    have hO169 := hO169.ext hGw234
    have hO173 := hO173.ext hGw234
    have hO179 := hO179.ext hGw234
    have hO184 := hO184.ext hGw234
    have hO190 := hO190.ext hGw234
    have hO194 := hO194.ext hGw234
    have hO200 := hO200.ext hGw234
    have hO204 := hO204.ext hGw234
    have hO210 := hO210.ext hGw234
    have hO214 := hO214.ext hGw234
    have hO220 := hO220.ext hGw234
    have hO224 := hO224.ext hGw234
    have hO230 := hO230.ext hGw234
    have hN236 : NatsR w234.heap.size w234 [.slice Aa ma ca, .slice none 0 0] [xa, []] := (NatsR.cons ha.norm (NatsR.cons (Rd.nil (B := w234.heap.size) (w := w234) (A := none) (z := 1) (c := 0) (by simp [maxLen])) (NatsR.nil _ _)))
    refine WL.take rfl ?_
    refine WL.call Try.func29 rfl Try.nm29 rfl rfl (Add_c hO235.rd hN236 (LimAll.cons hLa (LimAll.cons Lim.nil LimAll.nil)) 1048576 (LenAll.cons (by first | omega | (simp; done) | (simp; omega)) (LenAll.cons (by first | omega | (simp; done) | (simp; omega)) (LenAll.nil _))) (by omega) (by simp)) ?_
    rintro _ w237 ⟨A238, m239, cp240, rfl, hGw237, hO241, hm242⟩
    have hO241 := hO241.low (b' := w.heap.size) hB.size
    have hB := ext_trans hB hGw237
    have ha := ha0.ext hB
    have hb := hb0.ext hB
    have hc := hc0.ext hB
    have hO13 := hO13.ext hGw237
    have hO20 := hO20.ext hGw237
    have hO23 := hO23.ext hGw237
    have hO26 := hO26.ext hGw237
    have hO32 := hO32.ext hGw237
    have hO36 := hO36.ext hGw237
    have hO40 := hO40.ext hGw237
    have hO43 := hO43.ext hGw237
    have hO46 := hO46.ext hGw237
    have hO52 := hO52.ext hGw237
    have hO56 := hO56.ext hGw237
    have hO60 := hO60.ext hGw237
    have hO66 := hO66.ext hGw237
    have hO70 := hO70.ext hGw237
    have hO76 := hO76.ext hGw237
    have hO81 := hO81.ext hGw237
    have hO87 := hO87.ext hGw237
    have hO91 := hO91.ext hGw237
    have hO97 := hO97.ext hGw237
    have hO102 := hO102.ext hGw237
    have hO108 := hO108.ext hGw237
    have hO112 := hO112.ext hGw237
    have hO118 := hO118.ext hGw237
    have hO122 := hO122.ext hGw237
    have hO128 := hO128.ext hGw237
    have hO132 := hO132.ext hGw237
    have hO138 := hO138.ext hGw237
    have hO143 := hO143.ext hGw237
    have hO149 := hO149.ext hGw237
    have hO153 := hO153.ext hGw237
    have hO159 := hO159.ext hGw237
    have hO163 := hO163.ext hGw237
    have hO169 := hO169.ext hGw237
    have hO173 := hO173.ext hGw237
    have hO179 := hO179.ext hGw237
    have hO184 := hO184.ext hGw237
    have hO190 := hO190.ext hGw237
    have hO194 := hO194.ext hGw237
    have hO200 := hO200.ext hGw237
    have hO204 := hO204.ext hGw237
    have hO210 := hO210.ext hGw237
    have hO214 := hO214.ext hGw237
    have hO220 := hO220.ext hGw237
    have hO224 := hO224.ext hGw237
    have hO230 := hO230.ext hGw237
    have hO235 := hO235.ext hGw237
    have hO241_l := hO241.rd.ulen
    refine WL.take rfl ?_
    refine WL.move rfl rfl ?_
    refine WL.take rfl ?_
    refine WL.call Try.func19 rfl Try.nm19 rfl rfl (Trim_c ha (by omega)) ?_
    rintro _ w243 ⟨A244, m245, cp246, rfl, hGw243, hO247, hm248⟩
    have hO247 := hO247.low (b' := w.heap.size) hB.size
    have hB := ext_trans hB hGw243
    have ha := ha0.ext hB
    have hb := hb0.ext hB
    have hc := hc0.ext hB
    have hO13 := hO13.ext hGw243
    have hO20 := hO20.ext hGw243
    have hO23 := hO23.ext hGw243
    have hO26 := hO26.ext hGw243
    have hO32 := hO32.ext hGw243
    have hO36 := hO36.ext hGw243
    have hO40 := hO40.ext hGw243
    have hO43 := hO43.ext hGw243
    have hO46 := hO46.ext hGw243
    have hO52 := hO52.ext hGw243
    have hO56 := hO56.ext hGw243
    have hO60 := hO60.ext hGw243
    have hO66 := hO66.ext hGw243
    have hO70 := hO70.ext hGw243
    have hO76 := hO76.ext hGw243
    have hO81 := hO81.ext hGw243
    have hO87 := hO87.ext hGw243
    have hO91 := hO91.ext hGw243
    have hO97 := hO97.ext hGw243
    have hO102 := hO102.ext hGw243
    have hO108 := hO108.ext hGw243
    have hO112 := hO112.ext hGw243
    have hO118 := hO118.ext hGw243
    have hO122 := hO122.ext hGw243
    have hO128 := hO128.ext hGw243
    have hO132 := hO132.ext hGw243
    have hO138 := hO138.ext hGw243
    have hO143 := hO143.ext hGw243
    have hO149 := hO149.ext hGw243
    have hO153 := hO153.ext hGw243
    have hO159 := hO159.ext hGw243
    have hO163 := hO163.ext hGw243
    have hO169 := hO169.ext hGw243
    have hO173 := hO173.ext hGw243
    have hO179 := hO179.ext hGw243
    have hO184 := hO184.ext hGw243
    have hO190 := hO190.ext hGw243
    have hO194 := hO194.ext hGw243
    have hO200 := hO200.ext hGw243
    have hO204 := hO204.ext hGw243
    have hO210 := hO210.ext hGw243
    have hO214 := hO214.ext hGw243
    have hO220 := hO220.ext hGw243
    have hO224 := hO224.ext hGw243
    have hO230 := hO230.ext hGw243
    have hO235 := hO235.ext hGw243
    have hO241 := hO241.ext hGw243
    have hO247_l := hO247.rd.ulen
    refine WL.take rfl ?_
    refine WL.call Try.func18 rfl Try.nm18 rfl rfl (same_t hO241.rd hO247.rd (by first | with_reducible rfl | (refine digs_congr ?_; simp; done) | (refine digs_congr ?_; simp; omega) | (refine digs_congr ?_; simp only [prodN_cons, prodN_nil, sumN_cons, sumN_nil, nv_digs, Nat.mul_one, Nat.add_zero, Nat.mul_add, Nat.add_mul] <;> ac_rfl) | (refine digs_lit (k := _) ?_ ?_ ?_ <;> simp; done) | (rw [trimL_digs _ hLa]; refine digs_congr ?_; simp; done) | (rw [trimL_digs _ hLa]; refine digs_congr ?_; simp; omega))) ?_
    rintro _ w249 ⟨rfl, hGw249⟩
    have hB := ext_trans hB hGw249
    have ha := ha0.ext hB
    have hb := hb0.ext hB
    have hc := hc0.ext hB
    have hO13 := hO13.ext hGw249
    have hO20 := hO20.ext hGw249
    have hO23 := hO23.ext hGw249
    have hO26 := hO26.ext hGw249
    have hO32 := hO32.ext hGw249
    have hO36 := hO36.ext hGw249
    have hO40 := hO40.ext hGw249
    have hO43 := hO43.ext hGw249
    have hO46 := hO46.ext hGw249
    have hO52 := hO52.ext hGw249
    have hO56 := hO56.ext hGw249
    have hO60 := hO60.ext hGw249
    have hO66 := hO66.ext hGw249
    have hO70 := hO70.ext hGw249
    have hO76 := hO76.ext hGw249
    have hO81 := hO81.ext hGw249
    have hO87 := hO87.ext hGw249
    have hO91 := hO91.ext hGw249
    have hO97 := hO97.ext hGw249
    have hO102 := hO102.ext hGw249
    have hO108 := hO108.ext hGw249
    have hO112 := hO112.ext hGw249
    have hO118 := hO118.ext hGw249
    have hO122 := hO122.ext hGw249
    have hO128 := hO128.ext hGw249
    have hO132 := hO132.ext hGw249
    have hO138 := hO138.ext hGw249
    have hO143 := hO143.ext hGw249
    have hO149 := hO149.ext hGw249
    have hO153 := hO153.ext hGw249
    have hO159 := hO159.ext hGw249
    have hO163 := hO163.ext hGw249
    have hO169 := hO169.ext hGw249
    have hO173 := hO173.ext hGw249
    have hO179 := hO179.ext hGw249
    have hO184 := hO184.ext hGw249
    have hO190 := hO190.ext hGw249
    have hO194 := hO194.ext hGw249
    have hO200 := hO200.ext hGw249
    have hO204 := hO204.ext hGw249
    have hO210 := hO210.ext hGw249
    have hO214 := hO214.ext hGw249
    have hO220 := hO220.ext hGw249
    have hO224 := hO224.ext hGw249
    have hO230 := hO230.ext hGw249
    have hO235 := hO235.ext hGw249
    have hO241 := hO241.ext hGw249
    have hO247 := hO247.ext hGw249
    refine WL.pick rfl rfl rfl ?_
    refine WL.move rfl rfl ?_
    refine WL.take rfl ?_
    refine WL.move rfl rfl ?_
    refine WL.take rfl ?_
    refine WL.lit1 (b := w249.heap.size) Try.underlying23 Try.el40 rfl rfl rfl rfl (by intro v hv; simp only [List.mem_cons, List.not_mem_nil, or_false] at hv; rcases hv with rfl <;> rfl) (Nat.le_refl _) rfl ?_
    rintro A250 w251 - hO252 hGw251
    have hO252 := hO252.low (b' := w.heap.size) hB.size
    have hB := ext_trans hB hGw251
    have ha := ha0.ext hB
    have hb := hb0.ext hB
    have hc := hc0.ext hB
    have hO13 := hO13.ext hGw251
    have hO20 := hO20.ext hGw251
    have hO23 := hO23.ext hGw251
    have hO26 := hO26.ext hGw251
    have hO32 := hO32.ext hGw251
    have hO36 := hO36.ext hGw251
    have hO40 := hO40.ext hGw251
    have hO43 := hO43.ext hGw251
    have hO46 := hO46.ext hGw251
    have hO52 := hO52.ext hGw251
    have hO56 := hO56.ext hGw251
    have hO60 := hO60.ext hGw251
    have hO66 := hO66.ext hGw251
    have hO70 := hO70.ext hGw251
    have hO76 := hO76.ext hGw251
    have hO81 := hO81.ext hGw251
    have hO87 := hO87.ext hGw251
    have hO91 := hO91.ext hGw251
    have hO97 := hO97.ext hGw251
    have hO102 := hO102.ext hGw251
    have hO108 := hO108.ext hGw251
    have hO112 := hO112.ext hGw251
    have hO118 := hO118.ext hGw251
    have hO122 := hO122.ext hGw251
    have hO128 := hO128.ext hGw251
    have hO132 := hO132.ext hGw251
    have hO138 := hO138.ext hGw251
    have hO143 := hO143.ext hGw251
    have hO149 := hO149.ext hGw251
    have hO153 := hO153.ext hGw251
    have hO159 := hO159.ext hGw251
    have hO163 := hO163.ext hGw251
    have hO169 := hO169.ext hGw251
    have hO173 := hO173.ext hGw251
    have hO179 := hO179.ext hGw251
    have hO184 := hO184.ext hGw251
    have hO190 := hO190.ext hGw251
    have hO194 := hO194.ext hGw251
    have hO200 := hO200.ext hGw251
    have hO204 := hO204.ext hGw251
    have hO210 := hO210.ext hGw251
    have hO214 := hO214.ext hGw251
    have hO220 := hO220.ext hGw251
    have hO224 := hO224.ext hGw251
    have hO230 := hO230.ext hGw251
    have hO235 := hO235.ext hGw251
    have hO241 := hO241.ext hGw251
    have hO247 := hO247.ext hGw251
    change Own _ _ _ _ _ _ _ (us [1]) at hO252
    refine WL.take rfl ?_
    refine WL.lit1 (b := w251.heap.size) Try.underlying39 Try.el23 rfl rfl rfl rfl (by intro v hv; simp only [List.mem_cons, List.not_mem_nil, or_false] at hv; rcases hv with rfl | rfl <;> rfl) (Nat.le_refl _) rfl ?_
    rintro A253 w254 - hO255 hGw254
    have hO255 := hO255.low (b' := w.heap.size) hB.size
    have hB := ext_trans hB hGw254
    have ha := ha0.ext hB
    have hb := hb0.ext hB
    have hc := hc0.ext hB
    have hO13 := hO13.ext hGw254
    have hO20 := hO20.ext hGw254
    have hO23 := hO23.ext hGw254
    have hO26 := hO26.ext hGw254
    have hO32 := hO32.ext hGw254
    have hO36 := hO36.ext hGw254
    have hO40 := hO40.ext hGw254
    have hO43 := hO43.ext hGw254
    have hO46 := hO46.ext hGw254
    have hO52 := hO52.ext hGw254
    have hO56 := hO56.ext hGw254
    have hO60 := hO60.ext hGw254
    have hO66 := hO66.ext hGw254
    have hO70 := hO70.ext hGw254
    have hO76 := hO76.ext hGw254
    have hO81 := hO81.ext hGw254
    have hO87 := hO87.ext hGw254
    have hO91 := hO91.ext hGw254
    have hO97 := hO97.ext hGw254
    have hO102 := hO102.ext hGw254
    have hO108 := hO108.ext hGw254
    have hO112 := hO112.ext hGw254
    have hO118 := hO118.ext hGw254
    have hO122 := hO122.ext hGw254
    have hO128 := hO128.ext hGw254
    have hO132 := hO132.ext hGw254
    have hO138 := hO138.ext hGw254
    have hO143 := hO143.ext hGw254
    have hO149 := hO149.ext hGw254
    have hO153 := hO153.ext hGw254
    have hO159 := hO159.ext hGw254
    have hO163 := hO163.ext hGw254
    have hO169 := hO169.ext hGw254
    have hO173 := hO173.ext hGw254
    have hO179 := hO179.ext hGw254
    have hO184 := hO184.ext hGw254
    have hO190 := hO190.ext hGw254
    have hO194 := hO194.ext hGw254
    have hO200 := hO200.ext hGw254
    have hO204 := hO204.ext hGw254
    have hO210 := hO210.ext hGw254
    have hO214 := hO214.ext hGw254
    have hO220 := hO220.ext hGw254
    have hO224 := hO224.ext hGw254
    have hO230 := hO230.ext hGw254
    have hO235 := hO235.ext hGw254
    have hO241 := hO241.ext hGw254
    have hO247 := hO247.ext hGw254
    have hO252 := hO252.ext hGw254
    have hN256 : NatsR w254.heap.size w254 [.slice Aa ma ca, .slice A250 1 1] [xa, [1]] := (NatsR.cons ha.norm (NatsR.cons hO252.rd.norm (NatsR.nil _ _)))
    refine WL.take rfl ?_
    refine WL.call Try.func31 rfl Try.nm31 rfl rfl (Mul_c hO255.rd hN256 (LimAll.cons hLa (LimAll.cons (by intro x hx; simp only [List.mem_cons, List.not_mem_nil, or_false] at hx; omega) LimAll.nil)) 1048576 (LenAll.cons (by first | omega | (simp; done) | (simp; omega)) (LenAll.cons (by first | omega | (simp; done) | (simp; omega)) (LenAll.nil _))) (by simp)) ?_
    rintro _ w257 ⟨A258, m259, cp260, rfl, hGw257, hO261, hm262⟩
    have hO261 := hO261.low (b' := w.heap.size) hB.size
    have hB := ext_trans hB hGw257
    have ha := ha0.ext hB
    have hb := hb0.ext hB
    have hc := hc0.ext hB
    have hO13 := hO13.ext hGw257
    have hO20 := hO20.ext hGw257
    have hO23 := hO23.ext hGw257
    have hO26 := hO26.ext hGw257
    have hO32 := hO32.ext hGw257
    have hO36 := hO36.ext hGw257
    have hO40 := hO40.ext hGw257
    have hO43 := hO43.ext hGw257
    have hO46 := hO46.ext hGw257
    have hO52 := hO52.ext hGw257
    have hO56 := hO56.ext hGw257
    have hO60 := hO60.ext hGw257
    have hO66 := hO66.ext hGw257
    have hO70 := hO70.ext hGw257
    have hO76 := hO76.ext hGw257
    have hO81 := hO81.ext hGw257
    have hO87 := hO87.ext hGw257
    have hO91 := hO91.ext hGw257
    have hO97 := hO97.ext hGw257
    have hO102 := hO102.ext hGw257
    have hO108 := hO108.ext hGw257
    have hO112 := hO112.ext hGw257
    have hO118 := hO118.ext hGw257
    have hO122 := hO122.ext hGw257
    have hO128 := hO128.ext hGw257
    have hO132 := hO132.ext hGw257
    have hO138 := hO138.ext hGw257
    have hO143 := hO143.ext hGw257
    have hO149 := hO149.ext hGw257
    have hO153 := hO153.ext hGw257
    have hO159 := hO159.ext hGw257
    have hO163 := hO163.ext hGw257
    have hO169 := hO169.ext hGw257
    have hO173 := hO173.ext hGw257
    have hO179 := hO179.ext hGw257
    have hO184 := hO184.ext hGw257
    have hO190 := hO190.ext hGw257
    have hO194 := hO194.ext hGw257
    have hO200 := hO200.ext hGw257
    have hO204 := hO204.ext hGw257
    have hO210 := hO210.ext hGw257
    have hO214 := hO214.ext hGw257
    have hO220 := hO220.ext hGw257
    have hO224 := hO224.ext hGw257
    have hO230 := hO230.ext hGw257
    have hO235 := hO235.ext hGw257
    have hO241 := hO241.ext hGw257
    have hO247 := hO247.ext hGw257
    have hO252 := hO252.ext hGw257
    have hO255 := hO255.ext hGw257
    have hO261_l := hO261.rd.ulen
    try simp only [List.length_cons, List.length_nil] at hm262
    refine WL.take rfl ?_
    refine WL.move rfl rfl ?_
    refine WL.take rfl ?_
    refine WL.call Try.func19 rfl Try.nm19 rfl rfl (Trim_c ha (by omega)) ?_
    rintro _ w263 ⟨A264, m265, cp266, rfl, hGw263, hO267, hm268⟩
    have hO267 := hO267.low (b' := w.heap.size) hB.size
    have hB := ext_trans hB hGw263
    have ha := ha0.ext hB
    have hb := hb0.ext hB
    have hc := hc0.ext hB
    have hO13 := hO13.ext hGw263
    have hO20 := hO20.ext hGw263
    have hO23 := hO23.ext hGw263
    have hO26 := hO26.ext hGw263
    have hO32 := hO32.ext hGw263
    have hO36 := hO36.ext hGw263
    have hO40 := hO40.ext hGw263
    have hO43 := hO43.ext hGw263
    have hO46 := hO46.ext hGw263
    have hO52 := hO52.ext hGw263
    have hO56 := hO56.ext hGw263
    have hO60 := hO60.ext hGw263
    have hO66 := hO66.ext hGw263
    have hO70 := hO70.ext hGw263
    have hO76 := hO76.ext hGw263
    have hO81 := hO81.ext hGw263
    have hO87 := hO87.ext hGw263
    have hO91 := hO91.ext hGw263
    have hO97 := hO97.ext hGw263
    have hO102 := hO102.ext hGw263
    have hO108 := hO108.ext hGw263
    have hO112 := hO112.ext hGw263
    have hO118 := hO118.ext hGw263
    have hO122 := hO122.ext hGw263
    have hO128 := hO128.ext hGw263
    have hO132 := hO132.ext hGw263
    have hO138 := hO138.ext hGw263
    have hO143 := hO143.ext hGw263
    have hO149 := hO149.ext hGw263
    have hO153 := hO153.ext hGw263
    have hO159 := hO159.ext hGw263
    have hO163 := hO163.ext hGw263
    have hO169 := hO169.ext hGw263
    have hO173 := hO173.ext hGw263
    have hO179 := hO179.ext hGw263
    have hO184 := hO184.ext hGw263
    have hO190 := hO190.ext hGw263
    have hO194 := hO194.ext hGw263
    have hO200 := hO200.ext hGw263
    have hO204 := hO204.ext hGw263
    have hO210 := hO210.ext hGw263
    have hO214 := hO214.ext hGw263
    have hO220 := hO220.ext hGw263
    have hO224 := hO224.ext hGw263
    have hO230 := hO230.ext hGw263
    have hO235 := hO235.ext hGw263
    have hO241 := hO241.ext hGw263
    have hO247 := hO247.ext hGw263
    have hO252 := hO252.ext hGw263
    have hO255 := hO255.ext hGw263
    have hO261 := hO261.ext hGw263
    have hO267_l := hO267.rd.ulen
    refine WL.take rfl ?_
    refine WL.call Try.func18 rfl Try.nm18 rfl rfl (same_t hO261.rd hO267.rd (by first | with_reducible rfl | (refine digs_congr ?_; simp; done) | (refine digs_congr ?_; simp; omega) | (refine digs_congr ?_; simp only [prodN_cons, prodN_nil, sumN_cons, sumN_nil, nv_digs, Nat.mul_one, Nat.add_zero, Nat.mul_add, Nat.add_mul] <;> ac_rfl) | (refine digs_lit (k := _) ?_ ?_ ?_ <;> simp; done) | (rw [trimL_digs _ hLa]; refine digs_congr ?_; simp; done) | (rw [trimL_digs _ hLa]; refine digs_congr ?_; simp; omega))) ?_
    rintro _ w269 ⟨rfl, hGw269⟩
    have hB := ext_trans hB hGw269
    have ha := ha0.ext hB
    have hb := hb0.ext hB
    have hc := hc0.ext hB
    have hO13 := hO13.ext hGw269
    have hO20 := hO20.ext hGw269
    have hO23 := hO23.ext hGw269
    have hO26 := hO26.ext hGw269
    have hO32 := hO32.ext hGw269
    have hO36 := hO36.ext hGw269
    have hO40 := hO40.ext hGw269
    have hO43 := hO43.ext hGw269
    have hO46 := hO46.ext hGw269
    have hO52 := hO52.ext hGw269
    have hO56 := hO56.ext hGw269
    have hO60 := hO60.ext hGw269
    have hO66 := hO66.ext hGw269
    have hO70 := hO70.ext hGw269
    have hO76 := hO76.ext hGw269
    have hO81 := hO81.ext hGw269
    have hO87 := hO87.ext hGw269
    have hO91 := hO91.ext hGw269
    have hO97 := hO97.ext hGw269
    have hO102 := hO102.ext hGw269
    have hO108 := hO108.ext hGw269
    have hO112 := hO112.ext hGw269
    have hO118 := hO118.ext hGw269
    have hO122 := hO122.ext hGw269
    have hO128 := hO128.ext hGw269
    have hO132 := hO132.ext hGw269
    have hO138 := hO138.ext hGw269
    have hO143 := hO143.ext hGw269
    have hO149 := hO149.ext hGw269
    have hO153 := hO153.ext hGw269
    have hO159 := hO159.ext hGw269
    have hO163 := hO163.ext hGw269
    have hO169 := hO169.ext hGw269
    have hO173 := hO173.ext hGw269
    have hO179 := hO179.ext hGw269
    have hO184 := hO184.ext hGw269
    have hO190 := hO190.ext hGw269
    have hO194 := hO194.ext hGw269
    have hO200 := hO200.ext hGw269
    have hO204 := hO204.ext hGw269
    have hO210 := hO210.ext hGw269
    have hO214 := hO214.ext hGw269
    have hO220 := hO220.ext hGw269
    have hO224 := hO224.ext hGw269
    have hO230 := hO230.ext hGw269
    have hO235 := hO235.ext hGw269
    have hO241 := hO241.ext hGw269
    have hO247 := hO247.ext hGw269
    have hO252 := hO252.ext hGw269
    have hO255 := hO255.ext hGw269
    have hO261 := hO261.ext hGw269
    have hO267 := hO267.ext hGw269
    refine WL.pick rfl rfl rfl ?_
    refine WL.assign rfl rfl ?_
    refine WL.done ?_
    refine W.ret ?_
    refine ⟨_, rfl, ?_⟩
    exact ⟨rfl, hB⟩

theorem NatOrders_c {w : World} {Ba : Nat} {Aa : Option Addr} {ma ca : Nat} {xa : List Nat} (ha : Rd Ba w 1 Aa ma ca (us xa)) {Bb : Nat} {Ab : Option Addr} {mb cb : Nat} {xb : List Nat} (hb : Rd Bb w 1 Ab mb cb (us xb)) {Bc : Nat} {Ac : Option Addr} {mc cc : Nat} {xc : List Nat} (hc : Rd Bc w 1 Ac mc cc (us xc)) (hLa : Lim xa) (hLb : Lim xb) (hLc : Lim xc) :
    Calls Try.prog 7 #[.slice Aa ma ca, .slice Ab mb cb, .slice Ac mc cc] w fun e w2 => ∃ v, e = .returned v ∧ (fun v w2 => v = .bool true ∧ w.grownBy w2 none) v w2 := by
  have ha := ha.norm
  have ha_l := ha.ulen
  have ha_x := ha.max
  simp only [maxLen] at ha_x
  have ha_c := ha.cap
  have hb := hb.norm
  have hb_l := hb.ulen
  have hb_x := hb.max
  simp only [maxLen] at hb_x
  have hb_c := hb.cap
  have hc := hc.norm
  have hc_l := hc.ulen
  have hc_x := hc.max
  simp only [maxLen] at hc_x
  have hc_c := hc.cap
  have ha0 := ha
  have hb0 := hb
  have hc0 := hc
  have hab := cmpI_cases (nv xa) (nv xb)
  have hbc := cmpI_cases (nv xb) (nv xc)
  have hac := cmpI_cases (nv xa) (nv xc)
  have hba := cmpI_cases (nv xb) (nv xa)
  have hlit : cmpI (nv [1]) (nv [0, 1]) = -1 := by decide
  have hB := ext_refl w
  refine calls_of_W (vs := [.slice Aa ma ca, .slice Ab mb cb, .slice Ac mc cc]) [6] Try.func7 rfl rfl rfl rfl ?_
  refine W.seq ?_
  refine W.region ?_
  refine WL.assign rfl rfl ?_
  refine WL.done ?_
  refine W.seq ?_
  refine W.seq ?_
  refine W.region ?_
  refine WL.move rfl rfl ?_
  refine WL.move rfl rfl ?_
  refine WL.move rfl rfl ?_
  refine WL.lit1 (b := w.heap.size) Try.underlying39 Try.el23 rfl rfl rfl rfl (by intro v hv; simp only [List.mem_cons, List.not_mem_nil, or_false] at hv; rcases hv with rfl | rfl | rfl <;> rfl) (Nat.le_refl _) rfl ?_
  rintro A11 w12 - hO13 hGw12
  have hO13 := hO13.low (b' := w.heap.size) hB.size
  have hB := ext_trans hB hGw12
  have ha := ha0.ext hB
  have hb := hb0.ext hB
  have hc := hc0.ext hB
  have hN14 : NatsR w12.heap.size w12 [.slice Aa ma ca, .slice Ab mb cb, .slice Ac mc cc] [xa, xb, xc] := (NatsR.cons ha.norm (NatsR.cons hb.norm (NatsR.cons hc.norm (NatsR.nil _ _))))
  refine WL.call Try.func15 rfl Try.nm15 rfl rfl (long_c hO13.rd hN14 (200) (by omega)) ?_
  rintro _ w15 ⟨b16, rfl, hGw15, hlong⟩
  have hB := ext_trans hB hGw15
  have ha := ha0.ext hB
  have hb := hb0.ext hB
  have hc := hc0.ext hB
  have hO13 := hO13.ext hGw15
  refine WL.done ?_
  refine W.cond2 rfl (fun c17 => ?_) (fun c17 => ?_)
  · skip
    refine W.seq ?_
    refine W.region ?_
    refine WL.assign rfl rfl ?_
    refine WL.done ?_
    refine W.ret ?_
    refine ⟨_, rfl, ?_⟩
    exact ⟨rfl, hB⟩
  · skip
    have hla : xa.length ≤ 200 := hlong c17 0 (by simp)
    have hlb : xb.length ≤ 200 := hlong c17 1 (by simp)
    have hlc : xc.length ≤ 200 := hlong c17 2 (by simp)
    refine W.skip ?_
    refine W.seq ?_
    refine W.region ?_
    refine WL.move rfl rfl ?_
    refine WL.move rfl rfl ?_
    refine WL.call Try.func28 rfl Try.nm28 rfl rfl (Cmp_c ha hb hLa hLb) ?_
    rintro _ w18 ⟨rfl, hGw18⟩
    have hB := ext_trans hB hGw18
    have ha := ha0.ext hB
    have hb := hb0.ext hB
    have hc := hc0.ext hB
    have hO13 := hO13.ext hGw18
    refine WL.move rfl rfl ?_
    refine WL.move rfl rfl ?_
    refine WL.call Try.func28 rfl Try.nm28 rfl rfl (Cmp_c hb hc hLb hLc) ?_
    rintro _ w19 ⟨rfl, hGw19⟩
    have hB := ext_trans hB hGw19
    have ha := ha0.ext hB
    have hb := hb0.ext hB
    have hc := hc0.ext hB
    have hO13 := hO13.ext hGw19
    refine WL.move rfl rfl ?_
    refine WL.move rfl rfl ?_
    refine WL.call Try.func28 rfl Try.nm28 rfl rfl (Cmp_c ha hc hLa hLc) ?_
    rintro _ w20 ⟨rfl, hGw20⟩
    have hB := ext_trans hB hGw20
    have ha := ha0.ext hB
    have hb := hb0.ext hB
    have hc := hc0.ext hB
    have hO13 := hO13.ext hGw20
    refine WL.assign rfl rfl ?_
    refine WL.assign rfl rfl ?_
    refine WL.assign rfl rfl ?_
    refine WL.done ?_
    refine W.seq ?_
    refine W.seq ?_
    refine W.region ?_
    refine WL.lit1 (b := w20.heap.size) Try.underlying23 Try.el40 rfl rfl rfl rfl (by intro v hv; simp only [List.mem_cons, List.not_mem_nil, or_false] at hv; rcases hv with rfl <;> rfl) (Nat.le_refl _) rfl ?_
    rintro A21 w22 - hO23 hGw22
    have hO23 := hO23.low (b' := w.heap.size) hB.size
    have hB := ext_trans hB hGw22
    have ha := ha0.ext hB
    have hb := hb0.ext hB
    have hc := hc0.ext hB
    have hO13 := hO13.ext hGw22
    change Own _ _ _ _ _ _ _ (us [1]) at hO23
    refine WL.lit1 (b := w22.heap.size) Try.underlying23 Try.el40 rfl rfl rfl rfl (by intro v hv; simp only [List.mem_cons, List.not_mem_nil, or_false] at hv; rcases hv with rfl | rfl <;> rfl) (Nat.le_refl _) rfl ?_
    rintro A24 w25 - hO26 hGw25
    have hO26 := hO26.low (b' := w.heap.size) hB.size
    have hB := ext_trans hB hGw25
    have ha := ha0.ext hB
    have hb := hb0.ext hB
    have hc := hc0.ext hB
    have hO13 := hO13.ext hGw25
    have hO23 := hO23.ext hGw25
    change Own _ _ _ _ _ _ _ (us [0, 1]) at hO26
    refine WL.call Try.func28 rfl Try.nm28 rfl rfl (Cmp_c hO23.rd hO26.rd (by intro x hx; simp only [List.mem_cons, List.not_mem_nil, or_false] at hx; omega) (by intro x hx; simp only [List.mem_cons, List.not_mem_nil, or_false] at hx; omega)) ?_
    rintro _ w27 ⟨rfl, hGw27⟩
    have hB := ext_trans hB hGw27
    have ha := ha0.ext hB
    have hb := hb0.ext hB
    have hc := hc0.ext hB
    have hO13 := hO13.ext hGw27
    have hO23 := hO23.ext hGw27
    have hO26 := hO26.ext hGw27
    refine WL.neq rfl rfl rfl (fun c28 => ?_) (fun c28 => ?_)
    · exfalso
      omega
    · refine WL.move rfl rfl ?_
      refine WL.take rfl ?_
      refine WL.move rfl rfl ?_
      refine WL.take rfl ?_
      refine WL.lss rfl rfl rfl (fun c29 => ?_) (fun c29 => ?_)
      · exfalso
        omega
      · refine WL.pick rfl rfl rfl ?_
        refine WL.move rfl rfl ?_
        refine WL.take rfl ?_
        refine WL.move rfl rfl ?_
        refine WL.take rfl ?_
        refine WL.gtr rfl rfl rfl (fun c30 => ?_) (fun c30 => ?_)
        · exfalso
          omega
        · refine WL.pick rfl rfl rfl ?_
          refine WL.move rfl rfl ?_
          refine WL.take rfl ?_
          refine WL.move rfl rfl ?_
          refine WL.take rfl ?_
          refine WL.move rfl rfl ?_
          refine WL.take rfl ?_
          refine WL.call Try.func28 rfl Try.nm28 rfl rfl (Cmp_c hb ha hLb hLa) ?_
          rintro _ w31 ⟨rfl, hGw31⟩
          have hB := ext_trans hB hGw31
          have ha := ha0.ext hB
          have hb := hb0.ext hB
          have hc := hc0.ext hB
          have hO13 := hO13.ext hGw31
          have hO23 := hO23.ext hGw31
          have hO26 := hO26.ext hGw31
          refine WL.take rfl ?_
          refine WL.move rfl rfl ?_
          refine WL.take rfl ?_
          refine WL.neg (r := -(cmpI (nv xa) (nv xb))) rfl (wi64 (by omega) (by omega) (by omega)) rfl ?_
          refine WL.take rfl ?_
          refine WL.neq rfl rfl rfl (fun c32 => ?_) (fun c32 => ?_)
          · exfalso
            omega
          · refine WL.pick rfl rfl rfl ?_
            refine WL.done ?_
            refine W.condF rfl ?_
            refine W.skip ?_
            refine W.cut (σ := Unit) (fun _u w1 => w31 = w1) (fun _u => [(0, .slice Aa ma ca), (1, .slice Ab mb cb), (2, .slice Ac mc cc), (7, .int .i64 (cmpI (nv xa) (nv xb)))]) ?_ ?_
            · refine W.seq ?_
              refine W.region ?_
              refine WL.move rfl rfl ?_
              refine WL.leq rfl rfl rfl (fun c33 => ?_) (fun c33 => ?_)
              · refine WL.move rfl rfl ?_
                refine WL.take rfl ?_
                refine WL.move rfl rfl ?_
                refine WL.take rfl ?_
                refine WL.leq rfl rfl rfl (fun c34 => ?_) (fun c34 => ?_)
                · refine WL.pick rfl rfl rfl ?_
                  refine WL.move rfl rfl ?_
                  refine WL.take rfl ?_
                  refine WL.move rfl rfl ?_
                  refine WL.take rfl ?_
                  refine WL.gtr rfl rfl rfl (fun c35 => ?_) (fun c35 => ?_)
                  · exfalso
                    omega
                  · refine WL.pick rfl rfl rfl ?_
                    refine WL.move rfl rfl ?_
                    refine WL.take rfl ?_
                    refine WL.move rfl rfl ?_
                    refine WL.take rfl ?_
                    refine WL.eql rfl rfl rfl (fun c36 => ?_) (fun c36 => ?_)
                    · refine WL.take rfl ?_
                      refine WL.move rfl rfl ?_
                      refine WL.take rfl ?_
                      refine WL.move rfl rfl ?_
                      refine WL.take rfl ?_
                      refine WL.eql rfl rfl rfl (fun c37 => ?_) (fun c37 => ?_)
                      · refine WL.take rfl ?_
                        refine WL.pick rfl rfl rfl ?_
                        refine WL.take rfl ?_
                        refine WL.move rfl rfl ?_
                        refine WL.take rfl ?_
                        refine WL.move rfl rfl ?_
                        refine WL.take rfl ?_
                        refine WL.neq rfl rfl rfl (fun c38 => ?_) (fun c38 => ?_)
                        · exfalso
                          omega
                        · refine WL.take rfl ?_
                          refine WL.pick rfl rfl rfl ?_
                          refine WL.pick rfl rfl rfl ?_
                          refine WL.done ?_
                          refine W.condF rfl ?_
                          refine W.skip ?_
                          refine ⟨(), ⟨rfl, rfl, rfl, rfl, trivial⟩, ?_⟩
                          rfl
                      · refine WL.take rfl ?_
                        refine WL.pick rfl rfl rfl ?_
                        refine WL.take rfl ?_
                        refine WL.move rfl rfl ?_
                        refine WL.pass rfl rfl rfl ?_
                        refine WL.pass rfl rfl rfl ?_
                        refine WL.take rfl ?_
                        refine WL.pick rfl rfl rfl ?_
                        refine WL.pick rfl rfl rfl ?_
                        refine WL.done ?_
                        refine W.condF rfl ?_
                        refine W.skip ?_
                        refine ⟨(), ⟨rfl, rfl, rfl, rfl, trivial⟩, ?_⟩
                        rfl
                    · refine WL.take rfl ?_
                      refine WL.move rfl rfl ?_
                      refine WL.pass rfl rfl rfl ?_
                      refine WL.pass rfl rfl rfl ?_
                      refine WL.take rfl ?_
                      refine WL.pick rfl rfl rfl ?_
                      refine WL.take rfl ?_
                      refine WL.move rfl rfl ?_
                      refine WL.pass rfl rfl rfl ?_
                      refine WL.pass rfl rfl rfl ?_
                      refine WL.take rfl ?_
                      refine WL.pick rfl rfl rfl ?_
                      refine WL.pick rfl rfl rfl ?_
                      refine WL.done ?_
                      refine W.condF rfl ?_
                      refine W.skip ?_
                      refine ⟨(), ⟨rfl, rfl, rfl, rfl, trivial⟩, ?_⟩
                      rfl
                · refine WL.pick rfl rfl rfl ?_
                  refine WL.move rfl rfl ?_
                  refine WL.pass rfl rfl rfl ?_
                  refine WL.pass rfl rfl rfl ?_
                  refine WL.pick rfl rfl rfl ?_
                  refine WL.move rfl rfl ?_
                  refine WL.take rfl ?_
                  refine WL.move rfl rfl ?_
                  refine WL.take rfl ?_
                  refine WL.eql rfl rfl rfl (fun c39 => ?_) (fun c39 => ?_)
                  · refine WL.take rfl ?_
                    refine WL.move rfl rfl ?_
                    refine WL.take rfl ?_
                    refine WL.move rfl rfl ?_
                    refine WL.take rfl ?_
                    refine WL.eql rfl rfl rfl (fun c40 => ?_) (fun c40 => ?_)
                    · refine WL.take rfl ?_
                      refine WL.pick rfl rfl rfl ?_
                      refine WL.take rfl ?_
                      refine WL.move rfl rfl ?_
                      refine WL.take rfl ?_
                      refine WL.move rfl rfl ?_
                      refine WL.take rfl ?_
                      refine WL.neq rfl rfl rfl (fun c41 => ?_) (fun c41 => ?_)
                      · exfalso
                        omega
                      · refine WL.take rfl ?_
                        refine WL.pick rfl rfl rfl ?_
                        refine WL.pick rfl rfl rfl ?_
                        refine WL.done ?_
                        refine W.condF rfl ?_
                        refine W.skip ?_
                        refine ⟨(), ⟨rfl, rfl, rfl, rfl, trivial⟩, ?_⟩
                        rfl
                    · refine WL.take rfl ?_
                      refine WL.pick rfl rfl rfl ?_
                      refine WL.take rfl ?_
                      refine WL.move rfl rfl ?_
                      refine WL.pass rfl rfl rfl ?_
                      refine WL.pass rfl rfl rfl ?_
                      refine WL.take rfl ?_
                      refine WL.pick rfl rfl rfl ?_
                      refine WL.pick rfl rfl rfl ?_
                      refine WL.done ?_
                      refine W.condF rfl ?_
                      refine W.skip ?_
                      refine ⟨(), ⟨rfl, rfl, rfl, rfl, trivial⟩, ?_⟩
                      rfl
                  · refine WL.take rfl ?_
                    refine WL.move rfl rfl ?_
                    refine WL.pass rfl rfl rfl ?_
                    refine WL.pass rfl rfl rfl ?_
                    refine WL.take rfl ?_
                    refine WL.pick rfl rfl rfl ?_
                    refine WL.take rfl ?_
                    refine WL.move rfl rfl ?_
                    refine WL.pass rfl rfl rfl ?_
                    refine WL.pass rfl rfl rfl ?_
                    refine WL.take rfl ?_
                    refine WL.pick rfl rfl rfl ?_
                    refine WL.pick rfl rfl rfl ?_
                    refine WL.done ?_
                    refine W.condF rfl ?_
                    refine W.skip ?_
                    refine ⟨(), ⟨rfl, rfl, rfl, rfl, trivial⟩, ?_⟩
                    rfl
              · refine WL.move rfl rfl ?_
                refine WL.pass rfl rfl rfl ?_
                refine WL.pass rfl rfl rfl ?_
                refine WL.pick rfl rfl rfl ?_
                refine WL.move rfl rfl ?_
                refine WL.pass rfl rfl rfl ?_
                refine WL.pass rfl rfl rfl ?_
                refine WL.pick rfl rfl rfl ?_
                refine WL.move rfl rfl ?_
                refine WL.take rfl ?_
                refine WL.move rfl rfl ?_
                refine WL.take rfl ?_
                refine WL.eql rfl rfl rfl (fun c42 => ?_) (fun c42 => ?_)
                · refine WL.take rfl ?_
                  refine WL.move rfl rfl ?_
                  refine WL.take rfl ?_
                  refine WL.move rfl rfl ?_
                  refine WL.take rfl ?_
                  refine WL.eql rfl rfl rfl (fun c43 => ?_) (fun c43 => ?_)
                  · refine WL.take rfl ?_
                    refine WL.pick rfl rfl rfl ?_
                    refine WL.take rfl ?_
                    refine WL.move rfl rfl ?_
                    refine WL.take rfl ?_
                    refine WL.move rfl rfl ?_
                    refine WL.take rfl ?_
                    refine WL.neq rfl rfl rfl (fun c44 => ?_) (fun c44 => ?_)
                    · exfalso
                      omega
                    · refine WL.take rfl ?_
                      refine WL.pick rfl rfl rfl ?_
                      refine WL.pick rfl rfl rfl ?_
                      refine WL.done ?_
                      refine W.condF rfl ?_
                      refine W.skip ?_
                      refine ⟨(), ⟨rfl, rfl, rfl, rfl, trivial⟩, ?_⟩
                      rfl
                  · refine WL.take rfl ?_
                    refine WL.pick rfl rfl rfl ?_
                    refine WL.take rfl ?_
                    refine WL.move rfl rfl ?_
                    refine WL.pass rfl rfl rfl ?_
                    refine WL.pass rfl rfl rfl ?_
                    refine WL.take rfl ?_
                    refine WL.pick rfl rfl rfl ?_
                    refine WL.pick rfl rfl rfl ?_
                    refine WL.done ?_
                    refine W.condF rfl ?_
                    refine W.skip ?_
                    refine ⟨(), ⟨rfl, rfl, rfl, rfl, trivial⟩, ?_⟩
                    rfl
                · refine WL.take rfl ?_
                  refine WL.move rfl rfl ?_
                  refine WL.pass rfl rfl rfl ?_
                  refine WL.pass rfl rfl rfl ?_
                  refine WL.take rfl ?_
                  refine WL.pick rfl rfl rfl ?_
                  refine WL.take rfl ?_
                  refine WL.move rfl rfl ?_
                  refine WL.pass rfl rfl rfl ?_
                  refine WL.pass rfl rfl rfl ?_
                  refine WL.take rfl ?_
                  refine WL.pick rfl rfl rfl ?_
                  refine WL.pick rfl rfl rfl ?_
                  refine WL.done ?_
                  refine W.condF rfl ?_
                  refine W.skip ?_
                  refine ⟨(), ⟨rfl, rfl, rfl, rfl, trivial⟩, ?_⟩
                  rfl
            · rintro _u w45 rfl
              refine W.cut (σ := Unit) (fun _u w1 => w.grownBy w1 none) (fun _u => [(0, .slice Aa ma ca), (1, .slice Ab mb cb)]) ?_ ?_
              · refine W.seq ?_
                refine W.region ?_
                refine WL.move rfl rfl ?_
                refine WL.eql rfl rfl rfl (fun c46 => ?_) (fun c46 => ?_)
                · refine WL.move rfl rfl ?_
                  refine WL.call Try.func19 rfl Try.nm19 rfl rfl (Trim_c ha (by omega)) ?_
                  rintro _ w47 ⟨A48, m49, cp50, rfl, hGw47, hO51, hm52⟩
                  have hO51 := hO51.low (b' := w.heap.size) hB.size
                  have hB := ext_trans hB hGw47
                  have ha := ha0.ext hB
                  have hb := hb0.ext hB
                  have hc := hc0.ext hB
                  have hO13 := hO13.ext hGw47
                  have hO23 := hO23.ext hGw47
                  have hO26 := hO26.ext hGw47
                  have hO51_l := hO51.rd.ulen
                  refine WL.move rfl rfl ?_
                  refine WL.call Try.func19 rfl Try.nm19 rfl rfl (Trim_c hb (by omega)) ?_
                  rintro _ w53 ⟨A54, m55, cp56, rfl, hGw53, hO57, hm58⟩
                  have hO57 := hO57.low (b' := w.heap.size) hB.size
                  have hB := ext_trans hB hGw53
                  have ha := ha0.ext hB
                  have hb := hb0.ext hB
                  have hc := hc0.ext hB
                  have hO13 := hO13.ext hGw53
                  have hO23 := hO23.ext hGw53
                  have hO26 := hO26.ext hGw53
                  have hO51 := hO51.ext hGw53
                  have hO57_l := hO57.rd.ulen
                  refine WL.call Try.func18 rfl Try.nm18 rfl rfl (same_t hO51.rd hO57.rd ((trimL_inj hLa hLb).2 (by omega))) ?_
                  rintro _ w59 ⟨rfl, hGw59⟩
                  have hB := ext_trans hB hGw59
                  have ha := ha0.ext hB
                  have hb := hb0.ext hB
                  have hc := hc0.ext hB
                  have hO13 := hO13.ext hGw59
                  have hO23 := hO23.ext hGw59
                  have hO26 := hO26.ext hGw59
                  have hO51 := hO51.ext hGw59
                  have hO57 := hO57.ext hGw59
                  refine WL.neqB rfl rfl Try.underlying4 rfl rfl ?_
                  refine WL.move rfl rfl ?_
                  refine WL.take rfl ?_
                  refine WL.move rfl rfl ?_
                  refine WL.take rfl ?_
                  refine WL.move rfl rfl ?_
                  refine WL.take rfl ?_
                  refine WL.lit1 (b := w59.heap.size) Try.underlying39 Try.el23 rfl rfl rfl rfl (by intro v hv; simp only [List.mem_cons, List.not_mem_nil, or_false] at hv; rcases hv with rfl | rfl <;> rfl) (Nat.le_refl _) rfl ?_
                  rintro A60 w61 - hO62 hGw61
                  have hO62 := hO62.low (b' := w.heap.size) hB.size
                  have hB := ext_trans hB hGw61
                  have ha := ha0.ext hB
                  have hb := hb0.ext hB
                  have hc := hc0.ext hB
                  have hO13 := hO13.ext hGw61
                  have hO23 := hO23.ext hGw61
                  have hO26 := hO26.ext hGw61
                  have hO51 := hO51.ext hGw61
                  have hO57 := hO57.ext hGw61
                  have hN63 : NatsR w61.heap.size w61 [.slice Aa ma ca, .slice Ac mc cc] [xa, xc] := (NatsR.cons ha.norm (NatsR.cons hc.norm (NatsR.nil _ _)))
                  refine WL.take rfl ?_
                  refine WL.call Try.func29 rfl Try.nm29 rfl rfl (Add_c hO62.rd hN63 (LimAll.cons hLa (LimAll.cons hLc LimAll.nil)) 1048576 (LenAll.cons (by first | omega | (simp; done) | (simp; omega)) (LenAll.cons (by first | omega | (simp; done) | (simp; omega)) (LenAll.nil _))) (by omega) (by simp)) ?_
                  rintro _ w64 ⟨A65, m66, cp67, rfl, hGw64, hO68, hm69⟩
                  have hO68 := hO68.low (b' := w.heap.size) hB.size
                  have hB := ext_trans hB hGw64
                  have ha := ha0.ext hB
                  have hb := hb0.ext hB
                  have hc := hc0.ext hB
                  have hO13 := hO13.ext hGw64
                  have hO23 := hO23.ext hGw64
                  have hO26 := hO26.ext hGw64
                  have hO51 := hO51.ext hGw64
                  have hO57 := hO57.ext hGw64
                  have hO62 := hO62.ext hGw64
                  have hO68_l := hO68.rd.ulen
                  refine WL.take rfl ?_
                  refine WL.move rfl rfl ?_
                  refine WL.take rfl ?_
                  refine WL.move rfl rfl ?_
                  refine WL.take rfl ?_
                  refine WL.lit1 (b := w64.heap.size) Try.underlying39 Try.el23 rfl rfl rfl rfl (by intro v hv; simp only [List.mem_cons, List.not_mem_nil, or_false] at hv; rcases hv with rfl | rfl <;> rfl) (Nat.le_refl _) rfl ?_
                  rintro A70 w71 - hO72 hGw71
                  have hO72 := hO72.low (b' := w.heap.size) hB.size
                  have hB := ext_trans hB hGw71
                  have ha := ha0.ext hB
                  have hb := hb0.ext hB
                  have hc := hc0.ext hB
                  have hO13 := hO13.ext hGw71
                  have hO23 := hO23.ext hGw71
                  have hO26 := hO26.ext hGw71
                  have hO51 := hO51.ext hGw71
                  have hO57 := hO57.ext hGw71
                  have hO62 := hO62.ext hGw71
                  have hO68 := hO68.ext hGw71
                  have hN73 : NatsR w71.heap.size w71 [.slice Ab mb cb, .slice Ac mc cc] [xb, xc] := (NatsR.cons hb.norm (NatsR.cons hc.norm (NatsR.nil _ _)))
                  refine WL.take rfl ?_
                  refine WL.call Try.func29 rfl Try.nm29 rfl rfl (Add_c hO72.rd hN73 (LimAll.cons hLb (LimAll.cons hLc LimAll.nil)) 1048576 (LenAll.cons (by first | omega | (simp; done) | (simp; omega)) (LenAll.cons (by first | omega | (simp; done) | (simp; omega)) (LenAll.nil _))) (by omega) (by simp)) ?_
                  rintro _ w74 ⟨A75, m76, cp77, rfl, hGw74, hO78, hm79⟩
                  have hO78 := hO78.low (b' := w.heap.size) hB.size
                  have hB := ext_trans hB hGw74
                  have ha := ha0.ext hB
                  have hb := hb0.ext hB
                  have hc := hc0.ext hB
                  have hO13 := hO13.ext hGw74
                  have hO23 := hO23.ext hGw74
                  have hO26 := hO26.ext hGw74
                  have hO51 := hO51.ext hGw74
                  have hO57 := hO57.ext hGw74
                  have hO62 := hO62.ext hGw74
                  have hO68 := hO68.ext hGw74
                  have hO72 := hO72.ext hGw74
                  have hO78_l := hO78.rd.ulen
                  refine WL.take rfl ?_
                  refine WL.call Try.func28 rfl Try.nm28 rfl rfl (Cmp_c hO68.rd hO78.rd (digs_lim _) (digs_lim _)) ?_
                  rintro _ w80 ⟨rfl, hGw80⟩
                  have hB := ext_trans hB hGw80
                  have ha := ha0.ext hB
                  have hb := hb0.ext hB
                  have hc := hc0.ext hB
                  have hO13 := hO13.ext hGw80
                  have hO23 := hO23.ext hGw80
                  have hO26 := hO26.ext hGw80
                  have hO51 := hO51.ext hGw80
                  have hO57 := hO57.ext hGw80
                  have hO62 := hO62.ext hGw80
                  have hO68 := hO68.ext hGw80
                  have hO72 := hO72.ext hGw80
                  have hO78 := hO78.ext hGw80
                  have hac2 := cmpI_cases (nv (digs (sumN [xa, xc]))) (nv (digs (sumN [xb, xc])))
                  have e1 : nv (digs (sumN [xa, xc])) = nv xa + nv xc := by simp
                  have e2 : nv (digs (sumN [xb, xc])) = nv xb + nv xc := by simp
                  refine WL.take rfl ?_
                  refine WL.move rfl rfl ?_
                  refine WL.take rfl ?_
                  refine WL.neq rfl rfl rfl (fun c81 => ?_) (fun c81 => ?_)
                  · exfalso
                    omega
                  · refine WL.pick rfl rfl rfl ?_
                    refine WL.done ?_
                    refine W.condF rfl ?_
                    refine W.skip ?_
                    refine ⟨(), ⟨rfl, rfl, trivial⟩, ?_⟩
                    exact hB
                · refine WL.move rfl rfl ?_
                  refine WL.call Try.func19 rfl Try.nm19 rfl rfl (Trim_c ha (by omega)) ?_
                  rintro _ w82 ⟨A83, m84, cp85, rfl, hGw82, hO86, hm87⟩
                  have hO86 := hO86.low (b' := w.heap.size) hB.size
                  have hB := ext_trans hB hGw82
                  have ha := ha0.ext hB
                  have hb := hb0.ext hB
                  have hc := hc0.ext hB
                  have hO13 := hO13.ext hGw82
                  have hO23 := hO23.ext hGw82
                  have hO26 := hO26.ext hGw82
                  have hO86_l := hO86.rd.ulen
                  refine WL.move rfl rfl ?_
                  refine WL.call Try.func19 rfl Try.nm19 rfl rfl (Trim_c hb (by omega)) ?_
                  rintro _ w88 ⟨A89, m90, cp91, rfl, hGw88, hO92, hm93⟩
                  have hO92 := hO92.low (b' := w.heap.size) hB.size
                  have hB := ext_trans hB hGw88
                  have ha := ha0.ext hB
                  have hb := hb0.ext hB
                  have hc := hc0.ext hB
                  have hO13 := hO13.ext hGw88
                  have hO23 := hO23.ext hGw88
                  have hO26 := hO26.ext hGw88
                  have hO86 := hO86.ext hGw88
                  have hO92_l := hO92.rd.ulen
                  refine WL.call Try.func18 rfl Try.nm18 rfl rfl (same_f hO86.rd hO92.rd (fun h => absurd ((trimL_inj hLa hLb).1 h) (by omega))) ?_
                  rintro _ w94 ⟨rfl, hGw94⟩
                  have hB := ext_trans hB hGw94
                  have ha := ha0.ext hB
                  have hb := hb0.ext hB
                  have hc := hc0.ext hB
                  have hO13 := hO13.ext hGw94
                  have hO23 := hO23.ext hGw94
                  have hO26 := hO26.ext hGw94
                  have hO86 := hO86.ext hGw94
                  have hO92 := hO92.ext hGw94
                  refine WL.neqB rfl rfl Try.underlying4 rfl rfl ?_
                  refine WL.move rfl rfl ?_
                  refine WL.take rfl ?_
                  refine WL.move rfl rfl ?_
                  refine WL.take rfl ?_
                  refine WL.move rfl rfl ?_
                  refine WL.take rfl ?_
                  refine WL.lit1 (b := w94.heap.size) Try.underlying39 Try.el23 rfl rfl rfl rfl (by intro v hv; simp only [List.mem_cons, List.not_mem_nil, or_false] at hv; rcases hv with rfl | rfl <;> rfl) (Nat.le_refl _) rfl ?_
                  rintro A95 w96 - hO97 hGw96
                  have hO97 := hO97.low (b' := w.heap.size) hB.size
                  have hB := ext_trans hB hGw96
                  have ha := ha0.ext hB
                  have hb := hb0.ext hB
                  have hc := hc0.ext hB
                  have hO13 := hO13.ext hGw96
                  have hO23 := hO23.ext hGw96
                  have hO26 := hO26.ext hGw96
                  have hO86 := hO86.ext hGw96
                  have hO92 := hO92.ext hGw96
                  have hN98 : NatsR w96.heap.size w96 [.slice Aa ma ca, .slice Ac mc cc] [xa, xc] := (NatsR.cons ha.norm (NatsR.cons hc.norm (NatsR.nil _ _)))
                  refine WL.take rfl ?_
                  refine WL.call Try.func29 rfl Try.nm29 rfl rfl (Add_c hO97.rd hN98 (LimAll.cons hLa (LimAll.cons hLc LimAll.nil)) 1048576 (LenAll.cons (by first | omega | (simp; done) | (simp; omega)) (LenAll.cons (by first | omega | (simp; done) | (simp; omega)) (LenAll.nil _))) (by omega) (by simp)) ?_
                  rintro _ w99 ⟨A100, m101, cp102, rfl, hGw99, hO103, hm104⟩
                  have hO103 := hO103.low (b' := w.heap.size) hB.size
                  have hB := ext_trans hB hGw99
                  have ha := ha0.ext hB
                  have hb := hb0.ext hB
                  have hc := hc0.ext hB
                  have hO13 := hO13.ext hGw99
                  have hO23 := hO23.ext hGw99
                  have hO26 := hO26.ext hGw99
                  have hO86 := hO86.ext hGw99
                  have hO92 := hO92.ext hGw99
                  have hO97 := hO97.ext hGw99
                  have hO103_l := hO103.rd.ulen
                  refine WL.take rfl ?_
                  refine WL.move rfl rfl ?_
                  refine WL.take rfl ?_
                  refine WL.move rfl rfl ?_
                  refine WL.take rfl ?_
                  refine WL.lit1 (b := w99.heap.size) Try.underlying39 Try.el23 rfl rfl rfl rfl (by intro v hv; simp only [List.mem_cons, List.not_mem_nil, or_false] at hv; rcases hv with rfl | rfl <;> rfl) (Nat.le_refl _) rfl ?_
                  rintro A105 w106 - hO107 hGw106
                  have hO107 := hO107.low (b' := w.heap.size) hB.size
                  have hB := ext_trans hB hGw106
                  have ha := ha0.ext hB
                  have hb := hb0.ext hB
                  have hc := hc0.ext hB
                  have hO13 := hO13.ext hGw106
                  have hO23 := hO23.ext hGw106
                  have hO26 := hO26.ext hGw106
                  have hO86 := hO86.ext hGw106
                  have hO92 := hO92.ext hGw106
                  have hO97 := hO97.ext hGw106
                  have hO103 := hO103.ext hGw106
                  have hN108 : NatsR w106.heap.size w106 [.slice Ab mb cb, .slice Ac mc cc] [xb, xc] := (NatsR.cons hb.norm (NatsR.cons hc.norm (NatsR.nil _ _)))
                  refine WL.take rfl ?_
                  refine WL.call Try.func29 rfl Try.nm29 rfl rfl (Add_c hO107.rd hN108 (LimAll.cons hLb (LimAll.cons hLc LimAll.nil)) 1048576 (LenAll.cons (by first | omega | (simp; done) | (simp; omega)) (LenAll.cons (by first | omega | (simp; done) | (simp; omega)) (LenAll.nil _))) (by omega) (by simp)) ?_
                  rintro _ w109 ⟨A110, m111, cp112, rfl, hGw109, hO113, hm114⟩
                  have hO113 := hO113.low (b' := w.heap.size) hB.size
                  have hB := ext_trans hB hGw109
                  have ha := ha0.ext hB
                  have hb := hb0.ext hB
                  have hc := hc0.ext hB
                  have hO13 := hO13.ext hGw109
                  have hO23 := hO23.ext hGw109
                  have hO26 := hO26.ext hGw109
                  have hO86 := hO86.ext hGw109
                  have hO92 := hO92.ext hGw109
                  have hO97 := hO97.ext hGw109
                  have hO103 := hO103.ext hGw109
                  have hO107 := hO107.ext hGw109
                  have hO113_l := hO113.rd.ulen
                  refine WL.take rfl ?_
                  refine WL.call Try.func28 rfl Try.nm28 rfl rfl (Cmp_c hO103.rd hO113.rd (digs_lim _) (digs_lim _)) ?_
                  rintro _ w115 ⟨rfl, hGw115⟩
                  have hB := ext_trans hB hGw115
                  have ha := ha0.ext hB
                  have hb := hb0.ext hB
                  have hc := hc0.ext hB
                  have hO13 := hO13.ext hGw115
                  have hO23 := hO23.ext hGw115
                  have hO26 := hO26.ext hGw115
                  have hO86 := hO86.ext hGw115
                  have hO92 := hO92.ext hGw115
                  have hO97 := hO97.ext hGw115
                  have hO103 := hO103.ext hGw115
                  have hO107 := hO107.ext hGw115
                  have hO113 := hO113.ext hGw115
                  have hac2 := cmpI_cases (nv (digs (sumN [xa, xc]))) (nv (digs (sumN [xb, xc])))
                  have e1 : nv (digs (sumN [xa, xc])) = nv xa + nv xc := by simp
                  have e2 : nv (digs (sumN [xb, xc])) = nv xb + nv xc := by simp
                  refine WL.take rfl ?_
                  refine WL.move rfl rfl ?_
                  refine WL.take rfl ?_
                  refine WL.neq rfl rfl rfl (fun c116 => ?_) (fun c116 => ?_)
                  · exfalso
                    omega
                  · refine WL.pick rfl rfl rfl ?_
                    refine WL.done ?_
                    refine W.condF rfl ?_
                    refine W.skip ?_
                    refine ⟨(), ⟨rfl, rfl, trivial⟩, ?_⟩
                    exact hB
              · rintro _u w117 hB
                have ha := ha0.ext hB
                have hb := hb0.ext hB
                refine W.seq ?_
                refine W.region ?_
                refine WL.move rfl rfl ?_
                refine WL.move rfl rfl ?_
                refine WL.lit1 (b := w117.heap.size) Try.underlying39 Try.el23 rfl rfl rfl rfl (by intro v hv; simp only [List.mem_cons, List.not_mem_nil, or_false] at hv; rcases hv with rfl | rfl <;> rfl) (Nat.le_refl _) rfl ?_
                rintro A118 w119 - hO120 hGw119
                have hO120 := hO120.low (b' := w.heap.size) hB.size
                have hB := ext_trans hB hGw119
                have ha := ha0.ext hB
                have hb := hb0.ext hB
                have hN121 : NatsR w119.heap.size w119 [.slice Aa ma ca, .slice Ab mb cb] [xa, xb] := (NatsR.cons ha.norm (NatsR.cons hb.norm (NatsR.nil _ _)))
                refine WL.call Try.func29 rfl Try.nm29 rfl rfl (Add_c hO120.rd hN121 (LimAll.cons hLa (LimAll.cons hLb LimAll.nil)) 1048576 (LenAll.cons (by first | omega | (simp; done) | (simp; omega)) (LenAll.cons (by first | omega | (simp; done) | (simp; omega)) (LenAll.nil _))) (by omega) (by simp)) ?_
                rintro _ w122 ⟨A123, m124, cp125, rfl, hGw122, hO126, hm127⟩
                have hO126 := hO126.low (b' := w.heap.size) hB.size
                have hB := ext_trans hB hGw122
                have ha := ha0.ext hB
                have hb := hb0.ext hB
                have hO120 := hO120.ext hGw122
                have hO126_l := hO126.rd.ulen
                refine WL.move rfl rfl ?_
                refine WL.call Try.func26 rfl Try.nm26 rfl rfl (Sub_ge hO126.rd hb (digs_lim _) hLb (by omega) (by simp)) ?_
                rintro _ w128 ⟨A129, m130, cp131, rfl, hGw128, hO132, hm133⟩
                have hO132 := hO132.low (b' := w.heap.size) hB.size
                have hB := ext_trans hB hGw128
                have ha := ha0.ext hB
                have hb := hb0.ext hB
                have hO120 := hO120.ext hGw128
                have hO126 := hO126.ext hGw128
                have hO132_l := hO132.rd.ulen
                refine WL.move rfl rfl ?_
                refine WL.extract rfl rfl rfl ?_
                refine WL.extract rfl rfl rfl ?_
                refine WL.assign rfl rfl ?_
                refine WL.assign rfl rfl ?_
                refine WL.done ?_
                refine W.seq ?_
                refine W.region ?_
                refine WL.move rfl rfl ?_
                refine WL.eql rfl rfl rfl (fun c134 => ?_) (fun c134 => ?_)
                · refine WL.move rfl rfl ?_
                  refine WL.take rfl ?_
                  refine WL.move rfl rfl ?_
                  refine WL.take rfl ?_
                  refine WL.move rfl rfl ?_
                  refine WL.take rfl ?_
                  refine WL.call Try.func19 rfl Try.nm19 rfl rfl (Trim_c ha (by omega)) ?_
                  rintro _ w135 ⟨A136, m137, cp138, rfl, hGw135, hO139, hm140⟩
                  have hO139 := hO139.low (b' := w.heap.size) hB.size
                  have hB := ext_trans hB hGw135
                  have ha := ha0.ext hB
                  have hb := hb0.ext hB
                  have hO120 := hO120.ext hGw135
                  have hO126 := hO126.ext hGw135
                  have hO132 := hO132.ext hGw135
                  have hO139_l := hO139.rd.ulen
                  refine WL.take rfl ?_
                  refine WL.call Try.func18 rfl Try.nm18 rfl rfl (same_t hO132.rd hO139.rd (by first | with_reducible rfl | (refine digs_congr ?_; simp; done) | (refine digs_congr ?_; simp; omega) | (refine digs_congr ?_; simp only [prodN_cons, prodN_nil, sumN_cons, sumN_nil, nv_digs, Nat.mul_one, Nat.add_zero, Nat.mul_add, Nat.add_mul] <;> ac_rfl) | (refine digs_lit (k := _) ?_ ?_ ?_ <;> simp; done) | (rw [trimL_digs _ hLa]; refine digs_congr ?_; simp; done) | (rw [trimL_digs _ hLa]; refine digs_congr ?_; simp; omega))) ?_
                  rintro _ w141 ⟨rfl, hGw141⟩
                  have hB := ext_trans hB hGw141
                  have ha := ha0.ext hB
                  have hb := hb0.ext hB
                  have hO120 := hO120.ext hGw141
                  have hO126 := hO126.ext hGw141
                  have hO132 := hO132.ext hGw141
                  have hO139 := hO139.ext hGw141
                  refine WL.pick rfl rfl rfl ?_
                  refine WL.assign rfl rfl ?_
                  refine WL.done ?_
                  refine W.ret ?_
                  refine ⟨_, rfl, ?_⟩
                  exact ⟨rfl, hB⟩
                · exfalso
                  omega

theorem Rd.nilU {w : World} : Rd 0 w 1 none 0 0 (us []) := Rd.nil (by simp [maxLen])
theorem NatsR.one {B : Nat} {w : World} {cells : List Value} {xss : List (List Nat)} (h : NatsR B w cells xss) : ∀ u ∈ cells, u.oneCell' = true := fun u hu => by
  obtain ⟨j, hj, rfl⟩ := List.getElem_of_mem hu
  have h1 := (h.all j (by rw [← h.len]; exact hj)).1
  have h2 : cells.getD j undef = cells[j] := by simp [List.getD_eq_getElem?_getD, hj]
  rw [h2] at h1
  rw [h1]; rfl
theorem NatsR.append {B : Nat} {w : World} {c1 c2 : List Value} {x1 x2 : List (List Nat)} (h : NatsR B w c1 x1) (h' : NatsR B w c2 x2) : NatsR B w (c1 ++ c2) (x1 ++ x2) := by
  have hl := h.len
  refine ⟨by simp [h.len, h'.len], fun j hj => ?_⟩
  rcases Nat.lt_or_ge j x1.length with hc | hc
  · have e1 : (c1 ++ c2).getD j undef = c1.getD j undef := by simp only [List.getD_eq_getElem?_getD]; rw [List.getElem?_append_left (by omega)]
    have e2 : (x1 ++ x2).getD j [] = x1.getD j [] := by simp only [List.getD_eq_getElem?_getD]; rw [List.getElem?_append_left hc]
    rw [e1, e2]; exact h.all j hc
  · have e1 : (c1 ++ c2).getD j undef = c2.getD (j - x1.length) undef := by simp only [List.getD_eq_getElem?_getD]; rw [List.getElem?_append_right (by omega), hl]
    have e2 : (x1 ++ x2).getD j [] = x2.getD (j - x1.length) [] := by simp only [List.getD_eq_getElem?_getD]; rw [List.getElem?_append_right hc]
    rw [e1, e2]; exact h'.all _ (by simp at hj; omega)
theorem getD_app_all {p : List Nat → Prop} {a b : List (List Nat)} (ha : ∀ i, i < a.length → p (a.getD i [])) (hb : ∀ i, i < b.length → p (b.getD i [])) (i : Nat) (hi : i < (a ++ b).length) : p ((a ++ b).getD i []) := by
  rcases Nat.lt_or_ge i a.length with hc | hc
  · have e : (a ++ b).getD i [] = a.getD i [] := by simp only [List.getD_eq_getElem?_getD]; rw [List.getElem?_append_left hc]
    rw [e]; exact ha i hc
  · have e : (a ++ b).getD i [] = b.getD (i - a.length) [] := by simp only [List.getD_eq_getElem?_getD]; rw [List.getElem?_append_right hc]
    rw [e]; exact hb _ (by simp at hi; omega)
theorem LimAll.append {a b : List (List Nat)} (ha : LimAll a) (hb : LimAll b) : LimAll (a ++ b) := getD_app_all ha hb
theorem LenAll.append {K : Nat} {a b : List (List Nat)} (ha : LenAll K a) (hb : LenAll K b) : LenAll K (a ++ b) := getD_app_all (p := fun x => x.length ≤ K) ha hb
theorem sumN_append (a b : List (List Nat)) : sumN (a ++ b) = sumN a + sumN b := by simp [sumN]
theorem prodN_append (a b : List (List Nat)) : prodN (a ++ b) = prodN a * prodN b := by
  induction a with
  | nil => simp
  | cons x l ih => simp [ih, Nat.mul_assoc]

theorem NatSums_c {w : World} {Ba : Nat} {Aa : Option Addr} {ma ca : Nat} {cellsa : List Value} (hTa : Rd Ba w 1 Aa ma ca cellsa) {Ea : Nat} {xssa : List (List Nat)} (hNa : NatsR Ea w cellsa xssa) (hLa : LimAll xssa) (hza : ma * 24 ≤ 140737488351232) {Bb : Nat} {Ab : Option Addr} {mb cb : Nat} {cellsb : List Value} (hTb : Rd Bb w 1 Ab mb cb cellsb) {Eb : Nat} {xssb : List (List Nat)} (hNb : NatsR Eb w cellsb xssb) (hLb : LimAll xssb) (hzb : mb * 24 ≤ 140737488351232) :
    Calls Try.prog 5 #[.slice Aa ma ca, .slice Ab mb cb] w fun e w2 => ∃ v, e = .returned v ∧ (fun v w2 => v = .bool true ∧ w.grownBy w2 none) v w2 := by
  have hTa := hTa.norm
  have hNa := hNa.norm
  have hTa0 := hTa
  have hNa0 := hNa
  have hTa_l := hTa.len
  have hNa_l := hNa.len
  have hTa_x := hTa.max
  simp only [maxLen] at hTa_x
  have hTa_c := hTa.cap
  have hmla : xssa.length = ma := by omega
  have hTb := hTb.norm
  have hNb := hNb.norm
  have hTb0 := hTb
  have hNb0 := hNb
  have hTb_l := hTb.len
  have hNb_l := hNb.len
  have hTb_x := hTb.max
  simp only [maxLen] at hTb_x
  have hTb_c := hTb.cap
  have hmlb : xssb.length = mb := by omega
  have hB := ext_refl w
  refine calls_of_W (vs := [.slice Aa ma ca, .slice Ab mb cb]) [4] Try.func5 rfl rfl rfl rfl ?_
  refine W.seq ?_
  refine W.region ?_
  refine WL.assign rfl rfl ?_
  refine WL.done ?_
  refine W.seq ?_
  refine W.seq ?_
  refine W.region ?_
  refine WL.move rfl rfl ?_
  refine WL.call Try.func15 rfl Try.nm15 rfl rfl (long_c hTa hNa (12) (by omega)) ?_
  rintro _ w11 ⟨b12, rfl, hGw11, hlong1⟩
  have hB := ext_trans hB hGw11
  have hTa := hTa0.ext hB
  have hTb := hTb0.ext hB
  have hNa := hNa0.ext hB
  have hNb := hNb0.ext hB
  rcases b12 with _ | _
  · have hKa := hlong1 rfl
    refine WL.move rfl rfl ?_
    refine WL.take rfl ?_
    refine WL.move rfl rfl ?_
    refine WL.take rfl ?_
    refine WL.call Try.func15 rfl Try.nm15 rfl rfl (long_c hTb hNb (12) (by omega)) ?_
    rintro _ w13 ⟨b14, rfl, hGw13, hlong2⟩
    have hB := ext_trans hB hGw13
    have hTa := hTa0.ext hB
    have hTb := hTb0.ext hB
    have hNa := hNa0.ext hB
    have hNb := hNb0.ext hB
    rcases b14 with _ | _
    · have hKb := hlong2 rfl
      refine WL.pick rfl rfl rfl ?_
      refine WL.done ?_
      refine W.condF rfl ?_
      refine W.skip ?_
      refine W.seq ?_
      refine W.seq ?_
      refine W.region ?_
      refine WL.move rfl rfl ?_
      refine WL.len Try.underlying39 rfl rfl ?_
      refine WL.move rfl rfl ?_
      refine WL.len Try.underlying39 rfl rfl ?_
      refine WL.add (r := ((ma + mb : Nat) : Int)) rfl rfl (wi64 (by omega) (by omega) (by omega)) rfl ?_
      refine WL.gtr rfl rfl rfl (fun c15 => ?_) (fun c15 => ?_)
      · refine WL.done ?_
        refine W.condT rfl ?_
        refine W.seq ?_
        refine W.region ?_
        refine WL.assign rfl rfl ?_
        refine WL.done ?_
        refine W.ret ?_
        refine ⟨_, rfl, ?_⟩
        exact ⟨rfl, hB⟩
      · refine WL.done ?_
        refine W.condF rfl ?_
        refine W.skip ?_
        refine W.seq ?_
        refine W.region ?_
        refine WL.lit1 (b := w13.heap.size) Try.underlying39 Try.el23 rfl rfl rfl rfl (fun _ h => by cases h) (Nat.le_refl _) rfl ?_
        rintro A16 w17 - hO18 hGw17
        have hO18 := hO18.low (b' := w.heap.size) hB.size
        have hB := ext_trans hB hGw17
        have hTa := hTa0.ext hB
        have hTb := hTb0.ext hB
        have hNa := hNa0.ext hB
        have hNb := hNb0.ext hB
        have hN19 : NatsR w17.heap.size w17 [] [] := (NatsR.nil _ _)
        refine WL.move rfl rfl ?_
        refine WL.append (ma) (cellsa) Try.underlying39 Try.el23 rfl rfl hO18 hTa hNa.one (by simp only [maxLen]; omega) (by omega) hB.size (by omega) rfl rfl ?_
        have hOld24 := hO18
        intro A20 cp21 w22 hO23 hGw22 hblw22
        have hB := ext_own hB hGw22 (fun g hg => (hOld24.bl_ge g hg).1)
        have hTa := hTa0.ext hB
        have hTb := hTb0.ext hB
        have hNa := hNa0.ext hB
        have hNb := hNb0.ext hB
        refine WL.move rfl rfl ?_
        refine WL.append (ma + mb) ((cellsa ++ cellsb)) Try.underlying39 Try.el23 rfl rfl hO23 hTb hNb.one (by simp only [maxLen]; omega) (by omega) hB.size (by omega) rfl rfl ?_
        have hOld28 := hO23
        intro A25 cp26 w27 hAll hGw27 hblw27
        have hB := ext_own hB hGw27 (fun g hg => (hOld28.bl_ge g hg).1)
        have hTa := hTa0.ext hB
        have hTb := hTb0.ext hB
        have hNa := hNa0.ext hB
        have hNb := hNb0.ext hB
        refine WL.assign rfl rfl ?_
        refine WL.done ?_
        refine W.seq ?_
        refine W.seq ?_
        refine W.region ?_
        refine WL.call Try.func29 rfl Try.nm29 rfl rfl (Add_c (Rd.nil (B := 0) (by simp [maxLen])) (NatsR.nil 0 _) LimAll.nil 1 (LenAll.nil _) (by omega) (by simp)) ?_
        rintro _ w29 ⟨A30, m31, cp32, rfl, hGw29, hO33, hm34⟩
        have hO33 := hO33.low (b' := w.heap.size) hB.size
        have hB := ext_trans hB hGw29
        have hTa := hTa0.ext hB
        have hTb := hTb0.ext hB
        have hNa := hNa0.ext hB
        have hNb := hNb0.ext hB
        have hAll := hAll.ext hGw29
        have hO33_l := hO33.rd.ulen
        refine WL.call Try.func18 rfl Try.nm18 rfl rfl (same_t hO33.rd Rd.nilU (by rw [sumN_nil]; rfl)) ?_
        rintro _ w35 ⟨rfl, hGw35⟩
        have hB := ext_trans hB hGw35
        have hTa := hTa0.ext hB
        have hTb := hTb0.ext hB
        have hNa := hNa0.ext hB
        have hNb := hNb0.ext hB
        have hAll := hAll.ext hGw35
        have hO33 := hO33.ext hGw35
        refine WL.not rfl rfl ?_
        refine WL.move rfl rfl ?_
        refine WL.take rfl ?_
        refine WL.call Try.func31 rfl Try.nm31 rfl rfl (Mul_c (Rd.nil (B := 0) (by simp [maxLen])) (NatsR.nil 0 _) LimAll.nil 1 (LenAll.nil _) (by simp)) ?_
        rintro _ w36 ⟨A37, m38, cp39, rfl, hGw36, hO40, hm41⟩
        have hO40 := hO40.low (b' := w.heap.size) hB.size
        have hB := ext_trans hB hGw36
        have hTa := hTa0.ext hB
        have hTb := hTb0.ext hB
        have hNa := hNa0.ext hB
        have hNb := hNb0.ext hB
        have hAll := hAll.ext hGw36
        have hO33 := hO33.ext hGw36
        have hO40_l := hO40.rd.ulen
        refine WL.take rfl ?_
        refine WL.lit1 (b := w36.heap.size) Try.underlying23 Try.el40 rfl rfl rfl rfl (by intro v hv; simp only [List.mem_cons, List.not_mem_nil, or_false] at hv; rcases hv with rfl <;> rfl) (Nat.le_refl _) rfl ?_
        rintro A42 w43 - hO44 hGw43
        have hO44 := hO44.low (b' := w.heap.size) hB.size
        have hB := ext_trans hB hGw43
        have hTa := hTa0.ext hB
        have hTb := hTb0.ext hB
        have hNa := hNa0.ext hB
        have hNb := hNb0.ext hB
        have hAll := hAll.ext hGw43
        have hO33 := hO33.ext hGw43
        have hO40 := hO40.ext hGw43
        change Own _ _ _ _ _ _ _ (us [1]) at hO44
        refine WL.take rfl ?_
        refine WL.call Try.func18 rfl Try.nm18 rfl rfl (same_t hO40.rd hO44.rd (digs_lit prodN_nil (by decide) (by decide))) ?_
        rintro _ w45 ⟨rfl, hGw45⟩
        have hB := ext_trans hB hGw45
        have hTa := hTa0.ext hB
        have hTb := hTb0.ext hB
        have hNa := hNa0.ext hB
        have hNb := hNb0.ext hB
        have hAll := hAll.ext hGw45
        have hO33 := hO33.ext hGw45
        have hO40 := hO40.ext hGw45
        have hO44 := hO44.ext hGw45
        refine WL.take rfl ?_
        refine WL.not rfl rfl ?_
        refine WL.pick rfl rfl rfl ?_
        refine WL.done ?_
        refine W.condF rfl ?_
        refine W.skip ?_
        refine W.seq ?_
        refine W.region ?_
        refine WL.move rfl rfl ?_
        have hNall := hNa.norm.append hNb.norm
        have hNall_l : (xssa ++ xssb).length = ma + mb := by simp; omega
        refine WL.call Try.func29 rfl Try.nm29 rfl rfl (Add_c hAll.rd hNall (LimAll.append hLa hLb) 12 (LenAll.append hKa hKb) (by omega) (by omega)) ?_
        rintro _ w46 ⟨A47, m48, cp49, rfl, hGw46, hO50, hm51⟩
        have hO50 := hO50.low (b' := w.heap.size) hB.size
        have hB := ext_trans hB hGw46
        have hTa := hTa0.ext hB
        have hTb := hTb0.ext hB
        have hNa := hNa0.ext hB
        have hNb := hNb0.ext hB
        have hAll := hAll.ext hGw46
        have hO33 := hO33.ext hGw46
        have hO40 := hO40.ext hGw46
        have hO44 := hO44.ext hGw46
        have hO50_l := hO50.rd.ulen
        refine WL.move rfl rfl ?_
        refine WL.call Try.func29 rfl Try.nm29 rfl rfl (Add_c hTa hNa hLa 12 hKa (by omega) (by omega)) ?_
        rintro _ w52 ⟨A53, m54, cp55, rfl, hGw52, hO56, hm57⟩
        have hO56 := hO56.low (b' := w.heap.size) hB.size
        have hB := ext_trans hB hGw52
        have hTa := hTa0.ext hB
        have hTb := hTb0.ext hB
        have hNa := hNa0.ext hB
        have hNb := hNb0.ext hB
        have hAll := hAll.ext hGw52
        have hO33 := hO33.ext hGw52
        have hO40 := hO40.ext hGw52
        have hO44 := hO44.ext hGw52
        have hO50 := hO50.ext hGw52
        have hO56_l := hO56.rd.ulen
        refine WL.move rfl rfl ?_
        refine WL.call Try.func29 rfl Try.nm29 rfl rfl (Add_c hTb hNb hLb 12 hKb (by omega) (by omega)) ?_
        rintro _ w58 ⟨A59, m60, cp61, rfl, hGw58, hO62, hm63⟩
        have hO62 := hO62.low (b' := w.heap.size) hB.size
        have hB := ext_trans hB hGw58
        have hTa := hTa0.ext hB
        have hTb := hTb0.ext hB
        have hNa := hNa0.ext hB
        have hNb := hNb0.ext hB
        have hAll := hAll.ext hGw58
        have hO33 := hO33.ext hGw58
        have hO40 := hO40.ext hGw58
        have hO44 := hO44.ext hGw58
        have hO50 := hO50.ext hGw58
        have hO56 := hO56.ext hGw58
        have hO62_l := hO62.rd.ulen
        refine WL.call Try.func30 rfl Try.nm30 rfl rfl (rAdd_c hO56.rd hO62.rd (digs_lim _) (digs_lim _) (by omega) (by omega)) ?_
        rintro _ w64 ⟨A65, m66, cp67, rfl, hGw64, hO68, hm69⟩
        have hO68 := hO68.low (b' := w.heap.size) hB.size
        have hB := ext_trans hB hGw64
        have hTa := hTa0.ext hB
        have hTb := hTb0.ext hB
        have hNa := hNa0.ext hB
        have hNb := hNb0.ext hB
        have hAll := hAll.ext hGw64
        have hO33 := hO33.ext hGw64
        have hO40 := hO40.ext hGw64
        have hO44 := hO44.ext hGw64
        have hO50 := hO50.ext hGw64
        have hO56 := hO56.ext hGw64
        have hO62 := hO62.ext hGw64
        have hO68_l := hO68.rd.ulen
        refine WL.call Try.func18 rfl Try.nm18 rfl rfl (same_t hO50.rd hO68.rd (digs_congr (by rw [sumN_append, nv_digs, nv_digs]))) ?_
        rintro _ w70 ⟨rfl, hGw70⟩
        have hB := ext_trans hB hGw70
        have hTa := hTa0.ext hB
        have hTb := hTb0.ext hB
        have hNa := hNa0.ext hB
        have hNb := hNb0.ext hB
        have hAll := hAll.ext hGw70
        have hO33 := hO33.ext hGw70
        have hO40 := hO40.ext hGw70
        have hO44 := hO44.ext hGw70
        have hO50 := hO50.ext hGw70
        have hO56 := hO56.ext hGw70
        have hO62 := hO62.ext hGw70
        have hO68 := hO68.ext hGw70
        refine WL.move rfl rfl ?_
        refine WL.take rfl ?_
        refine WL.move rfl rfl ?_
        refine WL.take rfl ?_
        have hNall := hNa.norm.append hNb.norm
        have hNall_l : (xssa ++ xssb).length = ma + mb := by simp; omega
        refine WL.call Try.func31 rfl Try.nm31 rfl rfl (Mul_c hAll.rd hNall (LimAll.append hLa hLb) 12 (LenAll.append hKa hKb) (by omega)) ?_
        rintro _ w71 ⟨A72, m73, cp74, rfl, hGw71, hO75, hm76⟩
        have hO75 := hO75.low (b' := w.heap.size) hB.size
        have hB := ext_trans hB hGw71
        have hTa := hTa0.ext hB
        have hTb := hTb0.ext hB
        have hNa := hNa0.ext hB
        have hNb := hNb0.ext hB
        have hAll := hAll.ext hGw71
        have hO33 := hO33.ext hGw71
        have hO40 := hO40.ext hGw71
        have hO44 := hO44.ext hGw71
        have hO50 := hO50.ext hGw71
        have hO56 := hO56.ext hGw71
        have hO62 := hO62.ext hGw71
        have hO68 := hO68.ext hGw71
        have hO75_l := hO75.rd.ulen
        try simp only [List.length_cons, List.length_nil] at hm76
        refine WL.take rfl ?_
        refine WL.move rfl rfl ?_
        refine WL.take rfl ?_
        refine WL.call Try.func31 rfl Try.nm31 rfl rfl (Mul_c hTa hNa hLa 12 hKa (by omega)) ?_
        rintro _ w77 ⟨A78, m79, cp80, rfl, hGw77, hO81, hm82⟩
        have hO81 := hO81.low (b' := w.heap.size) hB.size
        have hB := ext_trans hB hGw77
        have hTa := hTa0.ext hB
        have hTb := hTb0.ext hB
        have hNa := hNa0.ext hB
        have hNb := hNb0.ext hB
        have hAll := hAll.ext hGw77
        have hO33 := hO33.ext hGw77
        have hO40 := hO40.ext hGw77
        have hO44 := hO44.ext hGw77
        have hO50 := hO50.ext hGw77
        have hO56 := hO56.ext hGw77
        have hO62 := hO62.ext hGw77
        have hO68 := hO68.ext hGw77
        have hO75 := hO75.ext hGw77
        have hO81_l := hO81.rd.ulen
        try simp only [List.length_cons, List.length_nil] at hm82
        refine WL.take rfl ?_
        refine WL.move rfl rfl ?_
        refine WL.take rfl ?_
        refine WL.call Try.func31 rfl Try.nm31 rfl rfl (Mul_c hTb hNb hLb 12 hKb (by omega)) ?_
        rintro _ w83 ⟨A84, m85, cp86, rfl, hGw83, hO87, hm88⟩
        have hO87 := hO87.low (b' := w.heap.size) hB.size
        have hB := ext_trans hB hGw83
        have hTa := hTa0.ext hB
        have hTb := hTb0.ext hB
        have hNa := hNa0.ext hB
        have hNb := hNb0.ext hB
        have hAll := hAll.ext hGw83
        have hO33 := hO33.ext hGw83
        have hO40 := hO40.ext hGw83
        have hO44 := hO44.ext hGw83
        have hO50 := hO50.ext hGw83
        have hO56 := hO56.ext hGw83
        have hO62 := hO62.ext hGw83
        have hO68 := hO68.ext hGw83
        have hO75 := hO75.ext hGw83
        have hO81 := hO81.ext hGw83
        have hO87_l := hO87.rd.ulen
        try simp only [List.length_cons, List.length_nil] at hm88
        refine WL.take rfl ?_
        refine WL.call Try.func32 rfl Try.nm32 rfl rfl (rMul_c hO81.rd hO87.rd (digs_lim _) (digs_lim _) (by omega) (by omega)) ?_
        rintro _ w89 ⟨A90, m91, cp92, rfl, hGw89, hO93, hm94⟩
        have hO93 := hO93.low (b' := w.heap.size) hB.size
        have hB := ext_trans hB hGw89
        have hTa := hTa0.ext hB
        have hTb := hTb0.ext hB
        have hNa := hNa0.ext hB
        have hNb := hNb0.ext hB
        have hAll := hAll.ext hGw89
        have hO33 := hO33.ext hGw89
        have hO40 := hO40.ext hGw89
        have hO44 := hO44.ext hGw89
        have hO50 := hO50.ext hGw89
        have hO56 := hO56.ext hGw89
        have hO62 := hO62.ext hGw89
        have hO68 := hO68.ext hGw89
        have hO75 := hO75.ext hGw89
        have hO81 := hO81.ext hGw89
        have hO87 := hO87.ext hGw89
        have hO93_l := hO93.rd.ulen
        refine WL.take rfl ?_
        refine WL.call Try.func18 rfl Try.nm18 rfl rfl (same_t hO75.rd hO93.rd (digs_congr (by rw [prodN_append, nv_digs, nv_digs]))) ?_
        rintro _ w95 ⟨rfl, hGw95⟩
        have hB := ext_trans hB hGw95
        have hTa := hTa0.ext hB
        have hTb := hTb0.ext hB
        have hNa := hNa0.ext hB
        have hNb := hNb0.ext hB
        have hAll := hAll.ext hGw95
        have hO33 := hO33.ext hGw95
        have hO40 := hO40.ext hGw95
        have hO44 := hO44.ext hGw95
        have hO50 := hO50.ext hGw95
        have hO56 := hO56.ext hGw95
        have hO62 := hO62.ext hGw95
        have hO68 := hO68.ext hGw95
        have hO75 := hO75.ext hGw95
        have hO81 := hO81.ext hGw95
        have hO87 := hO87.ext hGw95
        have hO93 := hO93.ext hGw95
        refine WL.pick rfl rfl rfl ?_
        refine WL.assign rfl rfl ?_
        refine WL.done ?_
        refine W.ret ?_
        refine ⟨_, rfl, ?_⟩
        exact ⟨rfl, hB⟩
    · refine WL.pick rfl rfl rfl ?_
      refine WL.done ?_
      refine W.condT rfl ?_
      refine W.seq ?_
      refine W.region ?_
      refine WL.assign rfl rfl ?_
      refine WL.done ?_
      refine W.ret ?_
      refine ⟨_, rfl, ?_⟩
      exact ⟨rfl, hB⟩
  · refine WL.move rfl rfl ?_
    refine WL.pass rfl rfl rfl ?_
    refine WL.pass rfl rfl rfl ?_
    refine WL.pick rfl rfl rfl ?_
    refine WL.done ?_
    refine W.condT rfl ?_
    refine W.seq ?_
    refine W.region ?_
    refine WL.assign rfl rfl ?_
    refine WL.done ?_
    refine W.ret ?_
    refine ⟨_, rfl, ?_⟩
    exact ⟨rfl, hB⟩
end Go.Proofs.Ythfpcebcfjlkmaa
