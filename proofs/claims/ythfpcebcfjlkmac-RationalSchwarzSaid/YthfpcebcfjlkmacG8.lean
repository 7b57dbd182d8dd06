/- Contracts of functions of the program, and what they lean on: W19, W20. -/
import Derived.Test.YthfpcebcfjlkmacG7
set_option linter.unusedSimpArgs false
set_option linter.unusedVariables false
namespace Go.Proofs.Ythfpcebcfjlkmac
open Go.RowKit
theorem is_fwd {n : Bool} {x y : List Nat} {q : Rat} (hx : Lim x) (hy : Lim y) (hq : val n (nv x) (nv y) = q) (h0 : nv y ≠ 0) (tx : trimL x = x) (ty : trimL y = y) (hg : Nat.gcd (nv x) (nv y) = 1) (hn : ¬ (n = true ∧ nv x = 0)) : n = qneg q ∧ x = digs (qnum q) ∧ y = digs q.den := by
  subst hq
  rw [val_qnum h0, val_den h0, hg, Nat.div_one, Nat.div_one, ← trimL_digs _ hx, ← trimL_digs _ hy, tx, ty]
  refine ⟨?_, rfl, rfl⟩
  by_cases h : nv x = 0
  · rw [h, val_n0, qneg_zero]
    cases n
    · rfl
    · exact absurd ⟨rfl, h⟩ hn
  · rw [val_qneg h h0]
theorem is_bwd {n : Bool} {x y : List Nat} {q : Rat} (h : n = qneg q ∧ x = digs (qnum q) ∧ y = digs q.den) : nv y ≠ 0 ∧ trimL x = x ∧ trimL y = y ∧ Nat.gcd (nv x) (nv y) = 1 ∧ ¬ (n = true ∧ nv x = 0) := by
  obtain ⟨rfl, rfl, rfl⟩ := h
  rw [nv_digs, nv_digs]
  refine ⟨q.den_nz, trimL_digs_self _, trimL_digs_self _, q_coprime q, fun ⟨h1, h2⟩ => ?_⟩
  rw [qnum_eq_zero] at h2
  subst h2
  cases h1
def qOf (X Y : Int) : Rat := val (decide (X < 0) != decide (Y < 0)) X.natAbs Y.natAbs
theorem qOf_eq {X Y : Int} {a b : Bool} {n m : Nat} (ha : decide (X < 0) = a) (hb : decide (Y < 0) = b) (hn : X.natAbs = n) (hm : Y.natAbs = m) : val (a != b) n m = qOf X Y := by subst ha; subst hb; subst hn; subst hm; rfl
theorem canon_last {l : List Nat} (hL : Lim l) (h : 0 < l.length → l.getD (l.length - 1) 0 ≠ 0) : trimL l = l := canon_of_ge hL fun h0 => by
  have h1 := nv_take_succ l (l.length - 1)
  rw [Nat.sub_add_cancel h0, List.take_length] at h1
  have h2 := Nat.le_mul_of_pos_right (4294967296 ^ (l.length - 1)) (Nat.pos_of_ne_zero (h h0))
  omega
theorem canon_len {l : List Nat} (h : trimL l = l) (h0 : 0 < l.length) : l.getD (l.length - 1) 0 ≠ 0 := by
  have h1 : sigL l = l.length := congrArg List.length h
  have := sigL_last (l := l) (by omega)
  rw [h1] at this; exact this
theorem cmp_eq {a b : Bool} {n d m e : Nat} {p q : Rat} (hp : val a n d = p) (hq : val b m e = q) (h : sg p = sg q) : sg p * cmpI (n * e) (m * d) = sg (p - q) := by
  by_cases h0 : p = 0
  · have h1 : sg p = 0 := sg_zero.2 h0
    rw [h1] at h ⊢
    have h2 := sg_zero.1 h.symm
    rw [h0, h2, Int.zero_mul]; exact (sg_zero.2 (by grind)).symm
  · have h1 : q ≠ 0 := fun e => h0 (sg_zero.1 (by rw [h, sg_zero.2 e]))
    have hn : n ≠ 0 := by rintro rfl; exact h0 (by rw [← hp]; exact val_n0 _ _)
    have hd : d ≠ 0 := by rintro rfl; exact h0 (by rw [← hp]; exact val_d0 _ _)
    have hm : m ≠ 0 := by rintro rfl; exact h1 (by rw [← hq]; exact val_n0 _ _)
    have he : e ≠ 0 := by rintro rfl; exact h1 (by rw [← hq]; exact val_d0 _ _)
    have ga : sg p = if a then -1 else 1 := by
      cases a
      · exact sg_pos (by rw [← hp, val_qneg hn hd]) h0
      · exact sg_neg (by rw [← hp, val_qneg hn hd])
    have gb : sg q = if b then -1 else 1 := by
      cases b
      · exact sg_pos (by rw [← hq, val_qneg hm he]) h1
      · exact sg_neg (by rw [← hq, val_qneg hm he])
    have hab : a = b := by cases a <;> cases b <;> simp_all
    subst hab; subst hp; subst hq
    rw [ga, Rat.sub_eq_add_neg, ← val_neg, val_add hd he, sg_mk _ (Nat.mul_ne_zero hd he)]
    generalize n * e = u at *; generalize m * d = v at *
    rcases cmpI_cases u v with ⟨h, c⟩ | ⟨h, c⟩ | ⟨h, c⟩ <;> rw [c] <;> cases a <;> simp only [sgn, Bool.not_true, Bool.not_false, if_true, if_false, Bool.false_eq_true] <;> symm
    · rw [Int.sign_eq_neg_one_of_neg (by omega)]; rfl
    · rw [Int.sign_eq_one_of_pos (by omega)]; rfl
    · rw [show (u : Int) + -(v : Int) = 0 by omega]; rfl
    · rw [show -(u : Int) + (v : Int) = 0 by omega]; rfl
    · rw [Int.sign_eq_one_of_pos (by omega)]; rfl
    · rw [Int.sign_eq_neg_one_of_neg (by omega)]; rfl
theorem natAbs_len1 (X : Int) (h : X.natAbs < 18446744073709551616) : (digs (X.natAbs - 1)).length ≤ 2 := digs_len (by omega)
theorem natAbs_len (X : Int) (h : X.natAbs < 18446744073709551616) : (digs X.natAbs).length ≤ 2 := digs_len (by omega)

theorem isTr_c {w : World} {Ba : Nat} {Aa : Option Addr} {ma ca : Nat} {xa : List Nat} (ha : Rd Ba w 1 Aa ma ca (us xa)) (hLa : Lim xa) (hs : ma ≤ 1099511627776) :
    Calls Try.prog 43 #[.slice Aa ma ca] w fun e w2 => ∃ v, e = .returned v ∧ (fun v w2 => ∃ b : Bool, v = .bool b ∧ w.grownBy w2 none ∧ (b = true → trimL xa = xa) ∧ (b = false → trimL xa ≠ xa)) v w2 := by
  have ha := ha.norm
  have ha_l := ha.ulen
  have ha_x := ha.max
  simp only [maxLen] at ha_x
  have ha_c := ha.cap
  have ha0 := ha
  have hcl := @canon_len xa
  have hB := ext_refl w
  refine calls_of_W (vs := [.slice Aa ma ca]) [2] Try.func43 rfl rfl rfl rfl ?_
  refine W.seq ?_
  refine W.region ?_
  refine WL.assign rfl rfl ?_
  refine WL.done ?_
  refine W.seq ?_
  refine W.region ?_
  refine WL.move rfl rfl ?_
  refine WL.len Try.underlying23 rfl rfl ?_
  refine WL.eql rfl rfl rfl (fun c11 => ?_) (fun c11 => ?_)
  · refine WL.move rfl rfl ?_
    refine WL.pass rfl rfl rfl ?_
    refine WL.pass rfl rfl rfl ?_
    refine WL.pass rfl rfl rfl ?_
    refine WL.pass rfl rfl rfl ?_
    refine WL.pass rfl rfl rfl ?_
    refine WL.pass rfl rfl rfl ?_
    refine WL.pass rfl rfl rfl ?_
    refine WL.pick rfl rfl rfl ?_
    refine WL.assign rfl rfl ?_
    refine WL.done ?_
    refine W.ret ?_
    refine ⟨_, rfl, ?_⟩
    first
    | exact ⟨true, rfl, hB, (fun _ => canon_last hLa (fun _ => by omega)), fun h => by cases h⟩
    | exact ⟨true, rfl, hB, (fun _ => canon_last hLa (fun _ => by rw [ha_l]; omega)), fun h => by cases h⟩
    | exact ⟨false, rfl, hB, (fun h => by cases h), fun _ h => by have h2 := hcl h (by omega); rw [ha_l] at h2; omega⟩
  · refine WL.move rfl rfl ?_
    refine WL.take rfl ?_
    refine WL.move rfl rfl ?_
    refine WL.take rfl ?_
    refine WL.move rfl rfl ?_
    refine WL.take rfl ?_
    refine WL.len Try.underlying23 rfl rfl ?_
    refine WL.take rfl ?_
    refine WL.sub (r := ((ma - 1 : Nat) : Int)) rfl rfl (wi64 (by omega) (by omega) (by omega)) rfl ?_
    refine WL.take rfl ?_
    refine WL.index1 (ma - 1) Try.underlying23 Try.el48 rfl rfl (by omega) (by omega) ha rfl ?_
    refine WL.take rfl ?_
    refine WL.load Try.underlying48 rfl rfl (Rd.at_ ha (us_at (by omega))) rfl ?_
    refine WL.take rfl ?_
    refine WL.neq rfl rfl rfl (fun c12 => ?_) (fun c12 => ?_)
    · refine WL.pick rfl rfl rfl ?_
      refine WL.assign rfl rfl ?_
      refine WL.done ?_
      refine W.ret ?_
      refine ⟨_, rfl, ?_⟩
      first
      | exact ⟨true, rfl, hB, (fun _ => canon_last hLa (fun _ => by omega)), fun h => by cases h⟩
      | exact ⟨true, rfl, hB, (fun _ => canon_last hLa (fun _ => by rw [ha_l]; omega)), fun h => by cases h⟩
      | exact ⟨false, rfl, hB, (fun h => by cases h), fun _ h => by have h2 := hcl h (by omega); rw [ha_l] at h2; omega⟩
    · refine WL.pick rfl rfl rfl ?_
      refine WL.assign rfl rfl ?_
      refine WL.done ?_
      refine W.ret ?_
      refine ⟨_, rfl, ?_⟩
      first
      | exact ⟨true, rfl, hB, (fun _ => canon_last hLa (fun _ => by omega)), fun h => by cases h⟩
      | exact ⟨true, rfl, hB, (fun _ => canon_last hLa (fun _ => by rw [ha_l]; omega)), fun h => by cases h⟩
      | exact ⟨false, rfl, hB, (fun h => by cases h), fun _ h => by have h2 := hcl h (by omega); rw [ha_l] at h2; omega⟩

theorem qIs_c {w : World} {Ban : Nat} {Aan : Option Addr} {man can : Nat} {xan : List Nat} (han : Rd Ban w 1 Aan man can (us xan)) {Bad : Nat} {Aad : Option Addr} {mad cad : Nat} {xad : List Nat} (had : Rd Bad w 1 Aad mad cad (us xad)) {na : Bool} (hLan : Lim xan) (hLad : Lim xad) (qa : Rat) (hqa : val na (nv xan) (nv xad) = qa) (hsa : man ≤ 4194304 ∧ mad ≤ 4194304) :
    Calls Try.prog 19 #[.agg #[.bool na, .slice Aan man can, .slice Aad mad cad]] w fun e w2 => ∃ v, e = .returned v ∧ (fun v w2 => ∃ b : Bool, v = .bool b ∧ w.grownBy w2 none ∧ (b = true → na = qneg qa ∧ xan = digs (qnum qa) ∧ xad = digs (Rat.den qa)) ∧ (b = false → ¬ (na = qneg qa ∧ xan = digs (qnum qa) ∧ xad = digs (Rat.den qa)))) v w2 := by
  have han := han.norm
  have han_l := han.ulen
  have han_x := han.max
  simp only [maxLen] at han_x
  have han_c := han.cap
  have had := had.norm
  have had_l := had.ulen
  have had_x := had.max
  simp only [maxLen] at had_x
  have had_c := had.cap
  have han0 := han
  have had0 := had
  have hB := ext_refl w
  refine calls_of_W (vs := [.agg #[.bool na, .slice Aan man can, .slice Aad mad cad]]) [2] Try.func19 rfl rfl rfl rfl ?_
  refine W.seq ?_
  refine W.region ?_
  refine WL.box Try.el25 rfl rfl rfl ?_
  intro g11 w12 hg_g11 hVg11 hGw12
  change Own _ _ _ _ _ _ _ [.bool na, .slice Aan man can, .slice Aad mad cad] at hVg11
  have hVg11 := hVg11.low (b' := w.heap.size) hB.size
  have hB := ext_trans hB hGw12
  have han := han0.ext hB
  have had := had0.ext hB
  refine WL.assign rfl rfl ?_
  refine WL.done ?_
  refine W.seq ?_
  refine W.seq ?_
  refine W.region ?_
  refine WL.fieldA (off := 2) Try.fla25_2 rfl rfl ?_
  refine WL.load Try.underlying23 rfl rfl (hVg11.vcells 2 _ rfl) rfl ?_
  refine WL.call Try.func24 rfl Try.nm24 rfl rfl (nought_c had hLad (by omega)) ?_
  rintro _ w13 ⟨bz1, rfl, hGw13, z1_t, z1_f⟩
  have hB := ext_trans hB hGw13
  have han := han0.ext hB
  have had := had0.ext hB
  have hVg11 := hVg11.ext hGw13
  rcases bz1 with _ | _
  · have z1 := z1_f rfl
    refine WL.move rfl rfl ?_
    refine WL.take rfl ?_
    refine WL.fieldA (off := 1) Try.fla25_1 rfl rfl ?_
    refine WL.take rfl ?_
    refine WL.load Try.underlying23 rfl rfl (hVg11.vcells 1 _ rfl) rfl ?_
    refine WL.take rfl ?_
    refine WL.call Try.func43 rfl Try.nm43 rfl rfl (isTr_c han hLan (by omega)) ?_
    rintro _ w14 ⟨bt1, rfl, hGw14, t1_t, t1_f⟩
    have hB := ext_trans hB hGw14
    have han := han0.ext hB
    have had := had0.ext hB
    have hVg11 := hVg11.ext hGw14
    rcases bt1 with _ | _
    · have t1 := t1_f rfl
      refine WL.take rfl ?_
      refine WL.not rfl rfl ?_
      refine WL.pick rfl rfl rfl ?_
      refine WL.move rfl rfl ?_
      refine WL.pass rfl rfl rfl ?_
      refine WL.pass rfl rfl rfl ?_
      refine WL.pass rfl rfl rfl ?_
      refine WL.pass rfl rfl rfl ?_
      refine WL.pick rfl rfl rfl ?_
      refine WL.done ?_
      refine W.condT rfl ?_
      refine W.seq ?_
      refine W.region ?_
      refine WL.assign rfl rfl ?_
      refine WL.done ?_
      refine W.ret ?_
      refine ⟨_, rfl, ?_⟩
      first
      | exact ⟨true, rfl, hB, (fun _ => is_fwd hLan hLad hqa z1 t1 t2 o (fun ⟨h1, h2⟩ => by first | exact z2 h2 | (rw [h1] at *; simp_all; done))), fun h => by cases h⟩
      | exact ⟨false, rfl, hB, (fun h => by cases h), fun _ h => by
        obtain ⟨h1, h2, h3, h4, h5⟩ := is_bwd h
        first | exact h1 z1 | exact t1 h2 | exact t2 h3 | exact o h4 | exact h5 ⟨by first | rfl | assumption, z2⟩⟩
    · have t1 := t1_t rfl
      refine WL.take rfl ?_
      refine WL.not rfl rfl ?_
      refine WL.pick rfl rfl rfl ?_
      refine WL.move rfl rfl ?_
      refine WL.take rfl ?_
      refine WL.fieldA (off := 2) Try.fla25_2 rfl rfl ?_
      refine WL.take rfl ?_
      refine WL.load Try.underlying23 rfl rfl (hVg11.vcells 2 _ rfl) rfl ?_
      refine WL.take rfl ?_
      refine WL.call Try.func43 rfl Try.nm43 rfl rfl (isTr_c had hLad (by omega)) ?_
      rintro _ w15 ⟨bt2, rfl, hGw15, t2_t, t2_f⟩
      have hB := ext_trans hB hGw15
      have han := han0.ext hB
      have had := had0.ext hB
      have hVg11 := hVg11.ext hGw15
      rcases bt2 with _ | _
      · have t2 := t2_f rfl
        refine WL.take rfl ?_
        refine WL.not rfl rfl ?_
        refine WL.pick rfl rfl rfl ?_
        refine WL.done ?_
        refine W.condT rfl ?_
        refine W.seq ?_
        refine W.region ?_
        refine WL.assign rfl rfl ?_
        refine WL.done ?_
        refine W.ret ?_
        refine ⟨_, rfl, ?_⟩
        first
        | exact ⟨true, rfl, hB, (fun _ => is_fwd hLan hLad hqa z1 t1 t2 o (fun ⟨h1, h2⟩ => by first | exact z2 h2 | (rw [h1] at *; simp_all; done))), fun h => by cases h⟩
        | exact ⟨false, rfl, hB, (fun h => by cases h), fun _ h => by
          obtain ⟨h1, h2, h3, h4, h5⟩ := is_bwd h
          first | exact h1 z1 | exact t1 h2 | exact t2 h3 | exact o h4 | exact h5 ⟨by first | rfl | assumption, z2⟩⟩
      · have t2 := t2_t rfl
        refine WL.take rfl ?_
        refine WL.not rfl rfl ?_
        refine WL.pick rfl rfl rfl ?_
        refine WL.done ?_
        refine W.condF rfl ?_
        refine W.skip ?_
        refine W.seq ?_
        refine W.region ?_
        refine WL.fieldA (off := 1) Try.fla25_1 rfl rfl ?_
        refine WL.load Try.underlying23 rfl rfl (hVg11.vcells 1 _ rfl) rfl ?_
        refine WL.fieldA (off := 2) Try.fla25_2 rfl rfl ?_
        refine WL.load Try.underlying23 rfl rfl (hVg11.vcells 2 _ rfl) rfl ?_
        refine WL.call Try.func45 rfl Try.nm45 rfl rfl (Gcd_c han had hLan hLad (by omega) (by omega)) ?_
        rintro _ w16 ⟨A17, m18, cp19, rfl, hGw16, hg, hm20⟩
        have hg := hg.low (b' := w.heap.size) hB.size
        have hB := ext_trans hB hGw16
        have han := han0.ext hB
        have hVg11 := hVg11.ext hGw16
        have hg_l := hg.rd.ulen
        have hgl := hg.rd.ulen
        have hgv := nv_digs (Nat.gcd (nv xan) (nv xad))
        refine WL.call Try.func44 rfl Try.nm44 rfl rfl (isOne_c hg.rd (digs_lim _) (by omega)) ?_
        rintro _ w21 ⟨bo, rfl, hGw21, o_t, o_f⟩
        have hB := ext_trans hB hGw21
        have han := han0.ext hB
        have hVg11 := hVg11.ext hGw21
        rcases bo with _ | _
        · have o := o_f rfl
          rw [nv_digs] at o
          refine WL.move rfl rfl ?_
          refine WL.pass rfl rfl rfl ?_
          refine WL.pass rfl rfl rfl ?_
          refine WL.pass rfl rfl rfl ?_
          refine WL.passU rfl rfl ?_
          refine WL.passU rfl rfl ?_
          refine WL.passU rfl rfl ?_
          refine WL.pass rfl rfl rfl ?_
          refine WL.pass rfl rfl rfl ?_
          refine WL.pick rfl rfl rfl ?_
          refine WL.assign rfl rfl ?_
          refine WL.done ?_
          refine W.ret ?_
          refine ⟨_, rfl, ?_⟩
          first
          | exact ⟨true, rfl, hB, (fun _ => is_fwd hLan hLad hqa z1 t1 t2 o (fun ⟨h1, h2⟩ => by first | exact z2 h2 | (rw [h1] at *; simp_all; done))), fun h => by cases h⟩
          | exact ⟨false, rfl, hB, (fun h => by cases h), fun _ h => by
            obtain ⟨h1, h2, h3, h4, h5⟩ := is_bwd h
            first | exact h1 z1 | exact t1 h2 | exact t2 h3 | exact o h4 | exact h5 ⟨by first | rfl | assumption, z2⟩⟩
        · have o := o_t rfl
          rw [nv_digs] at o
          refine WL.move rfl rfl ?_
          refine WL.take rfl ?_
          refine WL.fieldA (off := 0) Try.fla25_0 rfl rfl ?_
          refine WL.take rfl ?_
          refine WL.load Try.underlying4 rfl rfl (hVg11.vcells 0 _ rfl) rfl ?_
          refine WL.take rfl ?_
          refine WL.move rfl rfl ?_
          rcases na with _ | _
          · refine WL.pass rfl rfl rfl ?_
            refine WL.pass rfl rfl rfl ?_
            refine WL.pass rfl rfl rfl ?_
            refine WL.take rfl ?_
            refine WL.pick rfl rfl rfl ?_
            refine WL.take rfl ?_
            refine WL.not rfl rfl ?_
            refine WL.pick rfl rfl rfl ?_
            refine WL.assign rfl rfl ?_
            refine WL.done ?_
            refine W.ret ?_
            refine ⟨_, rfl, ?_⟩
            first
            | exact ⟨true, rfl, hB, (fun _ => is_fwd hLan hLad hqa z1 t1 t2 o (fun ⟨h1, h2⟩ => by first | exact z2 h2 | (rw [h1] at *; simp_all; done))), fun h => by cases h⟩
            | exact ⟨false, rfl, hB, (fun h => by cases h), fun _ h => by
              obtain ⟨h1, h2, h3, h4, h5⟩ := is_bwd h
              first | exact h1 z1 | exact t1 h2 | exact t2 h3 | exact o h4 | exact h5 ⟨by first | rfl | assumption, z2⟩⟩
          · refine WL.take rfl ?_
            refine WL.fieldA (off := 1) Try.fla25_1 rfl rfl ?_
            refine WL.take rfl ?_
            refine WL.load Try.underlying23 rfl rfl (hVg11.vcells 1 _ rfl) rfl ?_
            refine WL.take rfl ?_
            refine WL.call Try.func24 rfl Try.nm24 rfl rfl (nought_c han hLan (by omega)) ?_
            rintro _ w23 ⟨bz2, rfl, hGw23, z2_t, z2_f⟩
            have hB := ext_trans hB hGw23
            rcases bz2 with _ | _
            · have z2 := z2_f rfl
              refine WL.take rfl ?_
              refine WL.pick rfl rfl rfl ?_
              refine WL.take rfl ?_
              refine WL.not rfl rfl ?_
              refine WL.pick rfl rfl rfl ?_
              refine WL.assign rfl rfl ?_
              refine WL.done ?_
              refine W.ret ?_
              refine ⟨_, rfl, ?_⟩
              first
              | exact ⟨true, rfl, hB, (fun _ => is_fwd hLan hLad hqa z1 t1 t2 o (fun ⟨h1, h2⟩ => by first | exact z2 h2 | (rw [h1] at *; simp_all; done))), fun h => by cases h⟩
              | exact ⟨false, rfl, hB, (fun h => by cases h), fun _ h => by
                obtain ⟨h1, h2, h3, h4, h5⟩ := is_bwd h
                first | exact h1 z1 | exact t1 h2 | exact t2 h3 | exact o h4 | exact h5 ⟨by first | rfl | assumption, z2⟩⟩
            · have z2 := z2_t rfl
              refine WL.take rfl ?_
              refine WL.pick rfl rfl rfl ?_
              refine WL.take rfl ?_
              refine WL.not rfl rfl ?_
              refine WL.pick rfl rfl rfl ?_
              refine WL.assign rfl rfl ?_
              refine WL.done ?_
              refine W.ret ?_
              refine ⟨_, rfl, ?_⟩
              first
              | exact ⟨true, rfl, hB, (fun _ => is_fwd hLan hLad hqa z1 t1 t2 o (fun ⟨h1, h2⟩ => by first | exact z2 h2 | (rw [h1] at *; simp_all; done))), fun h => by cases h⟩
              | exact ⟨false, rfl, hB, (fun h => by cases h), fun _ h => by
                obtain ⟨h1, h2, h3, h4, h5⟩ := is_bwd h
                first | exact h1 z1 | exact t1 h2 | exact t2 h3 | exact o h4 | exact h5 ⟨by first | rfl | assumption, z2⟩⟩
  · have z1 := z1_t rfl
    refine WL.move rfl rfl ?_
    refine WL.pass rfl rfl rfl ?_
    refine WL.pass rfl rfl rfl ?_
    refine WL.pass rfl rfl rfl ?_
    refine WL.pass rfl rfl rfl ?_
    refine WL.pick rfl rfl rfl ?_
    refine WL.move rfl rfl ?_
    refine WL.pass rfl rfl rfl ?_
    refine WL.pass rfl rfl rfl ?_
    refine WL.pass rfl rfl rfl ?_
    refine WL.pass rfl rfl rfl ?_
    refine WL.pick rfl rfl rfl ?_
    refine WL.done ?_
    refine W.condT rfl ?_
    refine W.seq ?_
    refine W.region ?_
    refine WL.assign rfl rfl ?_
    refine WL.done ?_
    refine W.ret ?_
    refine ⟨_, rfl, ?_⟩
    first
    | exact ⟨true, rfl, hB, (fun _ => is_fwd hLan hLad hqa z1 t1 t2 o (fun ⟨h1, h2⟩ => by first | exact z2 h2 | (rw [h1] at *; simp_all; done))), fun h => by cases h⟩
    | exact ⟨false, rfl, hB, (fun h => by cases h), fun _ h => by
      obtain ⟨h1, h2, h3, h4, h5⟩ := is_bwd h
      first | exact h1 z1 | exact t1 h2 | exact t2 h3 | exact o h4 | exact h5 ⟨by first | rfl | assumption, z2⟩⟩

theorem qCmp_c {w : World} {Ban : Nat} {Aan : Option Addr} {man can : Nat} {xan : List Nat} (han : Rd Ban w 1 Aan man can (us xan)) {Bad : Nat} {Aad : Option Addr} {mad cad : Nat} {xad : List Nat} (had : Rd Bad w 1 Aad mad cad (us xad)) {Bbn : Nat} {Abn : Option Addr} {mbn cbn : Nat} {xbn : List Nat} (hbn : Rd Bbn w 1 Abn mbn cbn (us xbn)) {Bbd : Nat} {Abd : Option Addr} {mbd cbd : Nat} {xbd : List Nat} (hbd : Rd Bbd w 1 Abd mbd cbd (us xbd)) {na : Bool} (hLan : Lim xan) (hLad : Lim xad) (qa : Rat) (hqa : val na (nv xan) (nv xad) = qa) {nb : Bool} (hLbn : Lim xbn) (hLbd : Lim xbd) (qb : Rat) (hqb : val nb (nv xbn) (nv xbd) = qb) (hsa : man ≤ 4194304 ∧ mad ≤ 4194304) (hsb : mbn ≤ 4194304 ∧ mbd ≤ 4194304) :
    Calls Try.prog 13 #[.agg #[.bool na, .slice Aan man can, .slice Aad mad cad], .agg #[.bool nb, .slice Abn mbn cbn, .slice Abd mbd cbd]] w fun e w2 => ∃ v, e = .returned v ∧ (fun v w2 => v = .int .i64 (sg (qa - qb)) ∧ w.grownBy w2 none) v w2 := by
  have han := han.norm
  have han_l := han.ulen
  have han_x := han.max
  simp only [maxLen] at han_x
  have han_c := han.cap
  have had := had.norm
  have had_l := had.ulen
  have had_x := had.max
  simp only [maxLen] at had_x
  have had_c := had.cap
  have hbn := hbn.norm
  have hbn_l := hbn.ulen
  have hbn_x := hbn.max
  simp only [maxLen] at hbn_x
  have hbn_c := hbn.cap
  have hbd := hbd.norm
  have hbd_l := hbd.ulen
  have hbd_x := hbd.max
  simp only [maxLen] at hbd_x
  have hbd_c := hbd.cap
  have han0 := han
  have had0 := had
  have hbn0 := hbn
  have hbd0 := hbd
  have hcl := @cmp_lt qa qb
  have hcg := @cmp_gt qa qb
  have hce := cmp_eq hqa hqb
  have hsa := sg_range qa
  have hsb := sg_range qb
  have hss := sg_range (qa - qb)
  have hB := ext_refl w
  refine calls_of_W (vs := [.agg #[.bool na, .slice Aan man can, .slice Aad mad cad], .agg #[.bool nb, .slice Abn mbn cbn, .slice Abd mbd cbd]]) [4] Try.func13 rfl rfl rfl rfl ?_
  refine W.seq ?_
  refine W.region ?_
  refine WL.box Try.el25 rfl rfl rfl ?_
  intro g11 w12 hg_g11 hVg11 hGw12
  change Own _ _ _ _ _ _ _ [.bool na, .slice Aan man can, .slice Aad mad cad] at hVg11
  have hVg11 := hVg11.low (b' := w.heap.size) hB.size
  have hB := ext_trans hB hGw12
  have han := han0.ext hB
  have had := had0.ext hB
  have hbn := hbn0.ext hB
  have hbd := hbd0.ext hB
  refine WL.box Try.el25 rfl rfl rfl ?_
  intro g13 w14 hg_g13 hVg13 hGw14
  change Own _ _ _ _ _ _ _ [.bool nb, .slice Abn mbn cbn, .slice Abd mbd cbd] at hVg13
  have hlt_g11_g13 : g11 < g13 := by rw [hg_g13]; exact (hVg11.bl_ge _ rfl).2
  have hVg13 := hVg13.low (b' := w.heap.size) hB.size
  have hB := ext_trans hB hGw14
  have han := han0.ext hB
  have had := had0.ext hB
  have hbn := hbn0.ext hB
  have hbd := hbd0.ext hB
  have hVg11 := hVg11.ext hGw14
  refine WL.assign rfl rfl ?_
  refine WL.done ?_
  refine W.seq ?_
  refine W.region ?_
  refine WL.loadV (cs := [.bool na, .slice Aan man can, .slice Aad mad cad]) Try.el25 Try.agg25 rfl rfl hVg11.vcells rfl ?_
  refine WL.call Try.func34 rfl Try.nm34 rfl rfl (qSign_c han had hLan hLad qa hqa (by omega)) ?_
  rintro _ w15 ⟨rfl, hGw15⟩
  have hB := ext_trans hB hGw15
  have han := han0.ext hB
  have had := had0.ext hB
  have hbn := hbn0.ext hB
  have hbd := hbd0.ext hB
  have hVg11 := hVg11.ext hGw15
  have hVg13 := hVg13.ext hGw15
  refine WL.assign rfl rfl ?_
  refine WL.done ?_
  refine W.seq ?_
  refine W.seq ?_
  refine W.region ?_
  refine WL.loadV (cs := [.bool nb, .slice Abn mbn cbn, .slice Abd mbd cbd]) Try.el25 Try.agg25 rfl rfl hVg13.vcells rfl ?_
  refine WL.call Try.func34 rfl Try.nm34 rfl rfl (qSign_c hbn hbd hLbn hLbd qb hqb (by omega)) ?_
  rintro _ w16 ⟨rfl, hGw16⟩
  have hB := ext_trans hB hGw16
  have han := han0.ext hB
  have had := had0.ext hB
  have hbn := hbn0.ext hB
  have hbd := hbd0.ext hB
  have hVg11 := hVg11.ext hGw16
  have hVg13 := hVg13.ext hGw16
  refine WL.assign rfl rfl ?_
  refine WL.done ?_
  refine W.seq ?_
  refine W.region ?_
  refine WL.move rfl rfl ?_
  refine WL.move rfl rfl ?_
  refine WL.neq rfl rfl rfl (fun c17 => ?_) (fun c17 => ?_)
  · refine WL.done ?_
    refine W.condT rfl ?_
    refine W.seq ?_
    refine W.seq ?_
    refine W.region ?_
    refine WL.move rfl rfl ?_
    refine WL.move rfl rfl ?_
    refine WL.lss rfl rfl rfl (fun c18 => ?_) (fun c18 => ?_)
    · refine WL.done ?_
      refine W.condT rfl ?_
      refine W.seq ?_
      refine W.region ?_
      refine WL.assign rfl rfl ?_
      refine WL.done ?_
      refine W.ret ?_
      refine ⟨_, rfl, ?_⟩
      first
      | exact ⟨by rw [hcl (by omega)], hB⟩
      | exact ⟨by rw [hcg (by omega)], hB⟩
      | exact ⟨rfl, hB⟩
    · refine WL.done ?_
      refine W.condF rfl ?_
      refine W.skip ?_
      refine W.seq ?_
      refine W.region ?_
      refine WL.assign rfl rfl ?_
      refine WL.done ?_
      refine W.ret ?_
      refine ⟨_, rfl, ?_⟩
      first
      | exact ⟨by rw [hcl (by omega)], hB⟩
      | exact ⟨by rw [hcg (by omega)], hB⟩
      | exact ⟨rfl, hB⟩
  · refine WL.done ?_
    refine W.condF rfl ?_
    refine W.skip ?_
    refine W.seq ?_
    refine W.drawT 14 [⟨[], [5], true⟩, ⟨[], [2], true⟩, ⟨[1], [], false⟩, ⟨[], [3], true⟩, ⟨[3], [], false⟩, ⟨[2, 4], [], false⟩, ⟨[5], [], false⟩, ⟨[], [3], true⟩, ⟨[7], [], false⟩, ⟨[], [2], true⟩, ⟨[9], [], false⟩, ⟨[8, 10], [], false⟩, ⟨[11], [], false⟩, ⟨[6, 12], [], false⟩] [[(5, .int .i64 (sg (qa)))], [(2, .pointer (some ⟨g11, 0, none⟩))], [], [(3, .pointer (some ⟨g13, 0, none⟩))], [], [], [], [(3, .pointer (some ⟨g13, 0, none⟩))], [], [(2, .pointer (some ⟨g11, 0, none⟩))], [], [], [], []] (fun iQ => [fun v wQ => v = .int .i64 (sg (qa)), fun v wQ => v = .pointer (some ((⟨g11, 0, none⟩ : Addr).add 1)), fun v wQ => v = .slice Aan man can, fun v wQ => v = .pointer (some ((⟨g13, 0, none⟩ : Addr).add 2)), fun v wQ => v = .slice Abd mbd cbd, fun v wQ => ∃ A25, v = .slice A25 2 2 ∧ (Own w.heap.size wQ 23 1 A25 2 2 [.slice Aan man can, .slice Abd mbd cbd]) ∧ (NatsR wQ.heap.size wQ [.slice Aan man can, .slice Abd mbd cbd] [xan, xbd]) ∧ (∀ k, bl A25 = some k → k ≠ g11) ∧ (∀ k, bl A25 = some k → k ≠ g13), fun v wQ => ∃ A31 m32 c33, v = .slice A31 m32 c33 ∧ (Own w.heap.size wQ 48 1 A31 m32 c33 (us (digs (nv xan * nv xbd)))) ∧ (m32 ≤ man + mbd) ∧ (∀ k, bl A31 = some k → k ≠ g11) ∧ (∀ k, bl A31 = some k → k ≠ g13), fun v wQ => v = .pointer (some ((⟨g13, 0, none⟩ : Addr).add 1)), fun v wQ => v = .slice Abn mbn cbn, fun v wQ => v = .pointer (some ((⟨g11, 0, none⟩ : Addr).add 2)), fun v wQ => v = .slice Aad mad cad, fun v wQ => ∃ A39, v = .slice A39 2 2 ∧ (Own w.heap.size wQ 23 1 A39 2 2 [.slice Abn mbn cbn, .slice Aad mad cad]) ∧ (NatsR wQ.heap.size wQ [.slice Abn mbn cbn, .slice Aad mad cad] [xbn, xad]) ∧ (∀ k, bl A39 = some k → k ≠ g11) ∧ (∀ k, bl A39 = some k → k ≠ g13), fun v wQ => ∃ A45 m46 c47, v = .slice A45 m46 c47 ∧ (Own w.heap.size wQ 48 1 A45 m46 c47 (us (digs (nv xbn * nv xad)))) ∧ (m46 ≤ mbn + mad) ∧ (∀ k, bl A45 = some k → k ≠ g11) ∧ (∀ k, bl A45 = some k → k ≠ g13), fun v wQ => v = .int .i64 (cmpI (nv xan * nv xbd) (nv xbn * nv xad))].getD iQ (fun _ _ => True)) Try.mixed (by kernel_rfl) ?_ ?_ ?_
    · refine Vs_monoT _ ?_
      intro VQ hVQ vQ wQ1 wQ2 hQ1 hQ2
      simp only [List.mem_cons, List.not_mem_nil, or_false] at hVQ
      rcases hVQ with rfl | rfl | rfl | rfl | rfl | rfl | rfl | rfl | rfl | rfl | rfl | rfl | rfl | rfl
      · exact hQ1
      · exact hQ1
      · exact hQ1
      · exact hQ1
      · exact hQ1
      · obtain ⟨A25, hQe, hO27, hN28, hap_hO27_g11, hap_hO27_g13⟩ := hQ1
        exact ⟨A25, hQe, hO27.ext hQ2, (hN28.ext hQ2).norm, hap_hO27_g11, hap_hO27_g13⟩
      · obtain ⟨A31, m32, c33, hQe, hl, hlm, hap_hl_g11, hap_hl_g13⟩ := hQ1
        exact ⟨A31, m32, c33, hQe, hl.ext hQ2, hlm, hap_hl_g11, hap_hl_g13⟩
      · exact hQ1
      · exact hQ1
      · exact hQ1
      · exact hQ1
      · obtain ⟨A39, hQe, hO41, hN42, hap_hO41_g11, hap_hO41_g13⟩ := hQ1
        exact ⟨A39, hQe, hO41.ext hQ2, (hN42.ext hQ2).norm, hap_hO41_g11, hap_hO41_g13⟩
      · obtain ⟨A45, m46, c47, hQe, hr, hrm, hap_hr_g11, hap_hr_g13⟩ := hQ1
        exact ⟨A45, m46, c47, hQe, hr.ext hQ2, hrm, hap_hr_g11, hap_hr_g13⟩
      · exact hQ1
    · refine ⟨⟨rfl, ⟨rfl, trivial⟩, ?_⟩, ⟨rfl, ⟨rfl, trivial⟩, ?_⟩, ⟨rfl, trivial, ?_⟩, ⟨rfl, ⟨rfl, trivial⟩, ?_⟩, ⟨rfl, trivial, ?_⟩, ⟨rfl, trivial, ?_⟩, ⟨rfl, trivial, ?_⟩, ⟨rfl, ⟨rfl, trivial⟩, ?_⟩, ⟨rfl, trivial, ?_⟩, ⟨rfl, ⟨rfl, trivial⟩, ?_⟩, ⟨rfl, trivial, ?_⟩, ⟨rfl, trivial, ?_⟩, ⟨rfl, trivial, ?_⟩, ⟨rfl, trivial, ?_⟩, trivial⟩
      · intro w19 hE
        intro R
        refine WL.move rfl rfl ?_
        exact WL.done ⟨_, rfl, rfl, rfl⟩
      · intro w20 hE
        intro R
        refine WL.fieldA (off := 1) Try.fla25_1 rfl rfl ?_
        exact WL.done ⟨_, rfl, rfl, rfl⟩
      · intro w21 hE
        have hE := hE rfl
        have hB := ext_trans hB hE
        have hVg11 := hVg11.ext hE
        rintro _ rfl
        intro R
        refine WL.load Try.underlying23 rfl rfl (hVg11.vcells 1 _ rfl) rfl ?_
        exact WL.done ⟨_, rfl, ext_refl _, rfl⟩
      · intro w22 hE
        intro R
        refine WL.fieldA (off := 2) Try.fla25_2 rfl rfl ?_
        exact WL.done ⟨_, rfl, rfl, rfl⟩
      · intro w23 hE
        have hE := hE rfl
        have hB := ext_trans hB hE
        have hVg13 := hVg13.ext hE
        rintro _ rfl
        intro R
        refine WL.load Try.underlying23 rfl rfl (hVg13.vcells 2 _ rfl) rfl ?_
        exact WL.done ⟨_, rfl, ext_refl _, rfl⟩
      · intro w24 hE
        have hE := hE rfl
        have hB := ext_trans hB hE
        have han := han0.ext hB
        have hbd := hbd0.ext hB
        have hVg11 := hVg11.ext hE
        have hVg13 := hVg13.ext hE
        rintro _ rfl
        rintro _ rfl
        intro R
        refine WL.lit1 (b := w24.heap.size) Try.underlying63 Try.el23 rfl rfl rfl rfl (by intro v hv; simp only [List.mem_cons, List.not_mem_nil, or_false] at hv; rcases hv with rfl | rfl <;> rfl) (Nat.le_refl _) rfl ?_
        rintro A25 w26 - hO27 hGw26
        have hap_hO27_g11 := ap_new hO27 (hVg11.bl_ge _ rfl).2
        have hap_hO27_g13 := ap_new hO27 (hVg13.bl_ge _ rfl).2
        have hO27 := hO27.low (b' := w.heap.size) hB.size
        have hB := ext_trans hB hGw26
        have han := han0.ext hB
        have hbd := hbd0.ext hB
        have hN28 : NatsR w26.heap.size w26 [.slice Aan man can, .slice Abd mbd cbd] [xan, xbd] := (NatsR.cons han.norm (NatsR.cons hbd.norm (NatsR.nil _ _)))
        exact WL.done ⟨_, rfl, hGw26, ⟨A25, rfl, hO27, hN28, hap_hO27_g11, hap_hO27_g13⟩⟩
      · intro w29 hE
        have hE := hE rfl
        have hB := ext_trans hB hE
        have hVg11 := hVg11.ext hE
        have hVg13 := hVg13.ext hE
        rintro _ ⟨A25, rfl, hO27, hN28, hap_hO27_g11, hap_hO27_g13⟩
        intro R
        refine WL.call Try.func36 rfl Try.nm36 rfl rfl (Mul2_c hO27.rd hN28 hLan hLbd (by omega)) ?_
        rintro _ w30 ⟨A31, m32, c33, rfl, hGw30, hl, hlm⟩
        have hap_hl_g11 := ap_new hl (hVg11.bl_ge _ rfl).2
        have hap_hl_g13 := ap_new hl (hVg13.bl_ge _ rfl).2
        have hl := hl.low (b' := w.heap.size) hB.size
        have hB := ext_trans hB hGw30
        have hl_l := hl.rd.ulen
        exact WL.done ⟨_, rfl, hGw30, ⟨A31, m32, c33, rfl, hl, hlm, hap_hl_g11, hap_hl_g13⟩⟩
      · intro w34 hE
        intro R
        refine WL.fieldA (off := 1) Try.fla25_1 rfl rfl ?_
        exact WL.done ⟨_, rfl, rfl, rfl⟩
      · intro w35 hE
        have hE := hE rfl
        have hB := ext_trans hB hE
        have hVg13 := hVg13.ext hE
        rintro _ rfl
        intro R
        refine WL.load Try.underlying23 rfl rfl (hVg13.vcells 1 _ rfl) rfl ?_
        exact WL.done ⟨_, rfl, ext_refl _, rfl⟩
      · intro w36 hE
        intro R
        refine WL.fieldA (off := 2) Try.fla25_2 rfl rfl ?_
        exact WL.done ⟨_, rfl, rfl, rfl⟩
      · intro w37 hE
        have hE := hE rfl
        have hB := ext_trans hB hE
        have hVg11 := hVg11.ext hE
        rintro _ rfl
        intro R
        refine WL.load Try.underlying23 rfl rfl (hVg11.vcells 2 _ rfl) rfl ?_
        exact WL.done ⟨_, rfl, ext_refl _, rfl⟩
      · intro w38 hE
        have hE := hE rfl
        have hB := ext_trans hB hE
        have had := had0.ext hB
        have hbn := hbn0.ext hB
        have hVg11 := hVg11.ext hE
        have hVg13 := hVg13.ext hE
        rintro _ rfl
        rintro _ rfl
        intro R
        refine WL.lit1 (b := w38.heap.size) Try.underlying63 Try.el23 rfl rfl rfl rfl (by intro v hv; simp only [List.mem_cons, List.not_mem_nil, or_false] at hv; rcases hv with rfl | rfl <;> rfl) (Nat.le_refl _) rfl ?_
        rintro A39 w40 - hO41 hGw40
        have hap_hO41_g11 := ap_new hO41 (hVg11.bl_ge _ rfl).2
        have hap_hO41_g13 := ap_new hO41 (hVg13.bl_ge _ rfl).2
        have hO41 := hO41.low (b' := w.heap.size) hB.size
        have hB := ext_trans hB hGw40
        have had := had0.ext hB
        have hbn := hbn0.ext hB
        have hN42 : NatsR w40.heap.size w40 [.slice Abn mbn cbn, .slice Aad mad cad] [xbn, xad] := (NatsR.cons hbn.norm (NatsR.cons had.norm (NatsR.nil _ _)))
        exact WL.done ⟨_, rfl, hGw40, ⟨A39, rfl, hO41, hN42, hap_hO41_g11, hap_hO41_g13⟩⟩
      · intro w43 hE
        have hE := hE rfl
        have hB := ext_trans hB hE
        have hVg11 := hVg11.ext hE
        have hVg13 := hVg13.ext hE
        rintro _ ⟨A39, rfl, hO41, hN42, hap_hO41_g11, hap_hO41_g13⟩
        intro R
        refine WL.call Try.func36 rfl Try.nm36 rfl rfl (Mul2_c hO41.rd hN42 hLbn hLad (by omega)) ?_
        rintro _ w44 ⟨A45, m46, c47, rfl, hGw44, hr, hrm⟩
        have hap_hr_g11 := ap_new hr (hVg11.bl_ge _ rfl).2
        have hap_hr_g13 := ap_new hr (hVg13.bl_ge _ rfl).2
        have hr := hr.low (b' := w.heap.size) hB.size
        have hB := ext_trans hB hGw44
        have hr_l := hr.rd.ulen
        exact WL.done ⟨_, rfl, hGw44, ⟨A45, m46, c47, rfl, hr, hrm, hap_hr_g11, hap_hr_g13⟩⟩
      · intro w48 hE
        have hE := hE rfl
        have hB := ext_trans hB hE
        rintro _ ⟨A31, m32, c33, rfl, hl, hlm, hap_hl_g11, hap_hl_g13⟩
        rintro _ ⟨A45, m46, c47, rfl, hr, hrm, hap_hr_g11, hap_hr_g13⟩
        intro R
        refine WL.call Try.func35 rfl Try.nm35 rfl rfl (Cmp_c hl.rd hr.rd (digs_lim _) (digs_lim _)) ?_
        rintro _ w49 ⟨rfl, hGw49⟩
        have hB := ext_trans hB hGw49
        rw [nv_digs, nv_digs]
        exact WL.done ⟨_, rfl, hGw49, rfl⟩
    · intro vals w50 hT hVs
      have hB := ext_trans hB hT
      have hv0 : vals 0 = _ := hVs 0 (by decide)
      have hv1 : vals 1 = _ := hVs 1 (by decide)
      have hv2 : vals 2 = _ := hVs 2 (by decide)
      have hv3 : vals 3 = _ := hVs 3 (by decide)
      have hv4 : vals 4 = _ := hVs 4 (by decide)
      obtain ⟨A25, hv5, hO27, hN28, hap_hO27_g11, hap_hO27_g13⟩ := hVs 5 (by decide)
      obtain ⟨A31, m32, c33, hv6, hl, hlm, hap_hl_g11, hap_hl_g13⟩ := hVs 6 (by decide)
      have hv7 : vals 7 = _ := hVs 7 (by decide)
      have hv8 : vals 8 = _ := hVs 8 (by decide)
      have hv9 : vals 9 = _ := hVs 9 (by decide)
      have hv10 : vals 10 = _ := hVs 10 (by decide)
      obtain ⟨A39, hv11, hO41, hN42, hap_hO41_g11, hap_hO41_g13⟩ := hVs 11 (by decide)
      obtain ⟨A45, m46, c47, hv12, hr, hrm, hap_hr_g11, hap_hr_g13⟩ := hVs 12 (by decide)
      have hv13 : vals 13 = _ := hVs 13 (by decide)
      rw [show (List.filterMap (fun i => Option.map (fun t => (t, vals i)) (dstAt _ i)) (List.range _)) = [(17, .int .i64 (sg (qa))), (18, .pointer (some ((⟨g11, 0, none⟩ : Addr).add 1))), (19, .slice Aan man can), (20, .pointer (some ((⟨g13, 0, none⟩ : Addr).add 2))), (21, .slice Abd mbd cbd), (22, .slice A25 2 2), (23, .slice A31 m32 c33), (24, .pointer (some ((⟨g13, 0, none⟩ : Addr).add 1))), (25, .slice Abn mbn cbn), (26, .pointer (some ((⟨g11, 0, none⟩ : Addr).add 2))), (27, .slice Aad mad cad), (28, .slice A39 2 2), (29, .slice A45 m46 c47), (30, .int .i64 (cmpI (nv xan * nv xbd) (nv xbn * nv xad)))] from by
        show [(17, vals 0), (18, vals 1), (19, vals 2), (20, vals 3), (21, vals 4), (22, vals 5), (23, vals 6), (24, vals 7), (25, vals 8), (26, vals 9), (27, vals 10), (28, vals 11), (29, vals 12), (30, vals 13)] = _
        rw [hv0, hv1, hv2, hv3, hv4, hv5, hv6, hv7, hv8, hv9, hv10, hv11, hv12, hv13]]
      refine WA.step [14] (by decide +kernel) rfl ?_
      intro iQ hQ
      simp only [List.mem_cons, List.not_mem_nil, or_false] at hQ
      obtain rfl := hQ
      · refine ⟨_, rfl, ?_⟩
        refine WL.mul (r := (sg (qa - qb))) rfl rfl (by rw [hce (by omega)]; exact wi64 (by omega) (by omega) rfl) rfl ?_
        refine WL.done ?_
        refine WA.step [15] (by decide +kernel) rfl ?_
        intro iQ hQ
        simp only [List.mem_cons, List.not_mem_nil, or_false] at hQ
        obtain rfl := hQ
        · refine ⟨_, rfl, ?_⟩
          refine WL.assign rfl rfl ?_
          refine WL.done ?_
          refine WA.done (by decide +kernel) ?_
          refine W.ret ?_
          refine ⟨_, rfl, ?_⟩
          first
          | exact ⟨by rw [hcl (by omega)], hB⟩
          | exact ⟨by rw [hcg (by omega)], hB⟩
          | exact ⟨rfl, hB⟩

theorem rMake_c {w : World} {Bn : Nat} {An : Option Addr} {mn cn : Nat} {xn : List Nat} (hn : Rd Bn w 1 An mn cn (us xn)) {Bd : Nat} {Ad : Option Addr} {md cd : Nat} {xd : List Nat} (hd : Rd Bd w 1 Ad md cd (us xd)) {ne : Bool} (hLn : Lim xn) (hLd : Lim xd) (hsn : mn ≤ 33554432) (hsd : md ≤ 33554432) (q : Rat) (hq : val ne (nv xn) (nv xd) = q) :
    Calls Try.prog 33 #[.bool ne, .slice An mn cn, .slice Ad md cd] w fun e w2 => ∃ v, e = .returned v ∧ (fun v w2 => ∃ A2 m2 c2 A3 m3 c3, v = .agg #[.bool (qneg (q)), .slice A2 m2 c2, .slice A3 m3 c3] ∧ w.grownBy w2 none ∧ Own w.heap.size w2 48 1 A2 m2 c2 (us (digs (qnum (q)))) ∧ Own w.heap.size w2 48 1 A3 m3 c3 (us (digs (Rat.den (q)))) ∧ m2 ≤ mn ∧ m3 ≤ md + 1) v w2 := by
  have hn := hn.norm
  have hn_l := hn.ulen
  have hn_x := hn.max
  simp only [maxLen] at hn_x
  have hn_c := hn.cap
  have hd := hd.norm
  have hd_l := hd.ulen
  have hd_x := hd.max
  simp only [maxLen] at hd_x
  have hd_c := hd.cap
  have hn0 := hn
  have hd0 := hd
  have hgl1 := gcd_len hLn hLd
  have hdn := div_len hLn (Nat.gcd (nv xn) (nv xd))
  have hdd := div_len hLd (Nat.gcd (nv xn) (nv xd))
  have hB := ext_refl w
  refine calls_of_Wc (vs := [.bool ne, .slice An mn cn, .slice Ad md cd]) [.cell 6 25] Try.func33 rfl rfl rfl rfl ?_
  refine W.seq ?_
  refine W.region ?_
  refine WL.alloc Try.el25 rfl ?_
  intro g11 w12 hg_g11 hVg11 hGw12
  change Own _ _ _ _ _ _ _ [.bool false, .slice none 0 0, .slice none 0 0] at hVg11
  have hVg11 := hVg11.low (b' := w.heap.size) hB.size
  have hB := ext_trans hB hGw12
  have hn := hn0.ext hB
  have hd := hd0.ext hB
  refine WL.done ?_
  refine W.seq ?_
  refine W.seq ?_
  refine W.region ?_
  refine WL.move rfl rfl ?_
  refine WL.call Try.func60 rfl Try.nm60 rfl rfl (Zero_c hn hLn (by omega)) ?_
  rintro _ w13 ⟨bz, rfl, hGw13, hz1, hz2⟩
  have hB := ext_trans hB hGw13
  have hn := hn0.ext hB
  have hd := hd0.ext hB
  have hVg11 := hVg11.ext hGw13
  rcases bz with _ | _
  · have z1 := hz2 rfl
    refine WL.move rfl rfl ?_
    refine WL.take rfl ?_
    refine WL.move rfl rfl ?_
    refine WL.take rfl ?_
    refine WL.call Try.func60 rfl Try.nm60 rfl rfl (Zero_c hd hLd (by omega)) ?_
    rintro _ w14 ⟨bz, rfl, hGw14, hz1, hz2⟩
    have hB := ext_trans hB hGw14
    have hn := hn0.ext hB
    have hd := hd0.ext hB
    have hVg11 := hVg11.ext hGw14
    rcases bz with _ | _
    · have z2 := hz2 rfl
      refine WL.pick rfl rfl rfl ?_
      refine WL.done ?_
      refine W.condF rfl ?_
      refine W.skip ?_
      refine W.seq ?_
      refine W.region ?_
      refine WL.move rfl rfl ?_
      refine WL.move rfl rfl ?_
      refine WL.call Try.func61 rfl Try.nm61 rfl rfl (rGcd_c hn hd hLn hLd (by omega) (by omega)) ?_
      rintro _ w15 ⟨A16, m17, cp18, rfl, hGw15, hg, hm19⟩
      have hg := hg.low (b' := w.heap.size) hB.size
      have hB := ext_trans hB hGw15
      have hn := hn0.ext hB
      have hd := hd0.ext hB
      have hVg11 := hVg11.ext hGw15
      have hg_l := hg.rd.ulen
      have hgl := hg.rd.ulen
      have hgv := nv_digs (Nat.gcd (nv xn) (nv xd))
      have hgp : 0 < Nat.gcd (nv xn) (nv xd) := Nat.gcd_pos_of_pos_left _ (by omega)
      refine WL.assign rfl rfl ?_
      refine WL.done ?_
      refine W.seq ?_
      refine W.region ?_
      refine WL.move rfl rfl ?_
      refine WL.move rfl rfl ?_
      refine WL.call Try.func31 rfl Try.nm31 rfl rfl (rDivMod_c hn hg.rd hLn (digs_lim _) (by omega) (by omega) (by omega)) ?_
      rintro _ w20 ⟨A21, m22, cp23, A24, m25, cp26, rfl, hGw20, h1q, h1r, hm27⟩
      have hap_h1q_g11 := ap_new h1q (hVg11.bl_ge _ rfl).2
      have h1q := h1q.low (b' := w.heap.size) hB.size
      have h1r := h1r.low (b' := w.heap.size) hB.size
      have hB := ext_trans hB hGw20
      have hd := hd0.ext hB
      have hVg11 := hVg11.ext hGw20
      have hg := hg.ext hGw20
      have h1q_l := h1q.rd.ulen
      have h1r_l := h1r.rd.ulen
      refine WL.move rfl rfl ?_
      refine WL.extract rfl rfl rfl ?_
      refine WL.extract rfl rfl rfl ?_
      refine WL.assign rfl rfl ?_
      refine WL.assign rfl rfl ?_
      refine WL.done ?_
      refine W.seq ?_
      refine W.region ?_
      refine WL.move rfl rfl ?_
      refine WL.move rfl rfl ?_
      refine WL.call Try.func31 rfl Try.nm31 rfl rfl (rDivMod_c hd hg.rd hLd (digs_lim _) (by omega) (by omega) (by omega)) ?_
      rintro _ w28 ⟨A29, m30, cp31, A32, m33, cp34, rfl, hGw28, h2q, h2r, hm35⟩
      have hap_h2q_g11 := ap_new h2q (hVg11.bl_ge _ rfl).2
      have h2q := h2q.low (b' := w.heap.size) hB.size
      have h2r := h2r.low (b' := w.heap.size) hB.size
      have hB := ext_trans hB hGw28
      have hVg11 := hVg11.ext hGw28
      have hg := hg.ext hGw28
      have h1q := h1q.ext hGw28
      have h2q_l := h2q.rd.ulen
      have h2r_l := h2r.rd.ulen
      refine WL.move rfl rfl ?_
      refine WL.extract rfl rfl rfl ?_
      refine WL.extract rfl rfl rfl ?_
      refine WL.assign rfl rfl ?_
      refine WL.assign rfl rfl ?_
      refine WL.done ?_
      refine W.seq ?_
      refine W.region ?_
      refine WL.move rfl rfl ?_
      refine WL.move rfl rfl ?_
      refine WL.move rfl rfl ?_
      refine WL.build (cells := #[.bool ne, .slice A21 m22 cp23, .slice A29 m30 cp31]) Try.bld25 rfl rfl rfl ?_
      refine WL.storeV Try.el25 rfl rfl rfl rfl hVg11 ?_
      have hOld37 := hVg11
      intro w36 hVg11 hGw36
      change Own _ _ _ _ _ _ _ [.bool ne, .slice A21 m22 cp23, .slice A29 m30 cp31] at hVg11
      have hB := ext_own hB hGw36 (fun g hg => (hOld37.bl_ge g hg).1)
      have h1q := h1q.grown hGw36 (ap_row hap_h1q_g11)
      have h2q := h2q.grown hGw36 (ap_row hap_h2q_g11)
      refine WL.done ?_
      refine W.ret ?_
      refine ⟨[.agg #[.bool ne, .slice A21 m22 cp23, .slice A29 m30 cp31]], ⟨_, _, _, rfl, rfl, run_loadV (cs := [.bool ne, .slice A21 m22 cp23, .slice A29 m30 cp31]) Try.el25 Try.agg25 rfl hVg11.vcells, rfl⟩, ?_⟩
      first
      | (rw [nv_digs] at h1q h2q
         have e1 := h1q.rd.ulen
         have e2 := h2q.rd.ulen
         rw [← hq, val_qneg (by omega) (by omega), val_qnum (by omega), val_den (by omega)]
         exact ⟨_, _, _, _, _, _, rfl, hB, h1q, h2q, by omega⟩)
      | (have e0 : q = 0 := by
           rw [← hq]; first | (rw [z1]; exact val_n0 _ _) | (rw [z2]; exact val_d0 _ _)
         subst e0
         exact ⟨_, _, _, _, _, _, rfl, hB, h1, h2, by omega⟩)
    · have z2 := hz1 rfl
      refine WL.pick rfl rfl rfl ?_
      refine WL.done ?_
      refine W.condT rfl ?_
      refine W.seq ?_
      refine W.region ?_
      refine WL.lit1 (b := w14.heap.size) Try.underlying23 Try.el48 rfl rfl rfl rfl (fun _ h => by cases h) (Nat.le_refl _) rfl ?_
      rintro A38 w39 - h1 hGw39
      have hap_h1_g11 := ap_new h1 (hVg11.bl_ge _ rfl).2
      have h1 := h1.low (b' := w.heap.size) hB.size
      have hB := ext_trans hB hGw39
      have hVg11 := hVg11.ext hGw39
      change Own _ _ _ _ _ _ _ (us []) at h1
      refine WL.lit1 (b := w39.heap.size) Try.underlying23 Try.el48 rfl rfl rfl rfl (by intro v hv; simp only [List.mem_cons, List.not_mem_nil, or_false] at hv; rcases hv with rfl <;> rfl) (Nat.le_refl _) rfl ?_
      rintro A40 w41 - h2 hGw41
      have hap_h2_g11 := ap_new h2 (hVg11.bl_ge _ rfl).2
      have h2 := h2.low (b' := w.heap.size) hB.size
      have hB := ext_trans hB hGw41
      have hVg11 := hVg11.ext hGw41
      have h1 := h1.ext hGw41
      change Own _ _ _ _ _ _ _ (us [1]) at h2
      refine WL.build (cells := #[.bool false, .slice A38 0 0, .slice A40 1 1]) Try.bld25 rfl rfl rfl ?_
      refine WL.storeV Try.el25 rfl rfl rfl rfl hVg11 ?_
      have hOld43 := hVg11
      intro w42 hVg11 hGw42
      change Own _ _ _ _ _ _ _ [.bool false, .slice A38 0 0, .slice A40 1 1] at hVg11
      have hB := ext_own hB hGw42 (fun g hg => (hOld43.bl_ge g hg).1)
      have h1 := h1.grown hGw42 (ap_row hap_h1_g11)
      have h2 := h2.grown hGw42 (ap_row hap_h2_g11)
      refine WL.done ?_
      refine W.ret ?_
      refine ⟨[.agg #[.bool false, .slice A38 0 0, .slice A40 1 1]], ⟨_, _, _, rfl, rfl, run_loadV (cs := [.bool false, .slice A38 0 0, .slice A40 1 1]) Try.el25 Try.agg25 rfl hVg11.vcells, rfl⟩, ?_⟩
      first
      | (rw [nv_digs] at h1q h2q
         have e1 := h1q.rd.ulen
         have e2 := h2q.rd.ulen
         rw [← hq, val_qneg (by omega) (by omega), val_qnum (by omega), val_den (by omega)]
         exact ⟨_, _, _, _, _, _, rfl, hB, h1q, h2q, by omega⟩)
      | (have e0 : q = 0 := by
           rw [← hq]; first | (rw [z1]; exact val_n0 _ _) | (rw [z2]; exact val_d0 _ _)
         subst e0
         exact ⟨_, _, _, _, _, _, rfl, hB, h1, h2, by omega⟩)
  · have z1 := hz1 rfl
    refine WL.move rfl rfl ?_
    refine WL.pass rfl rfl rfl ?_
    refine WL.pass rfl rfl rfl ?_
    refine WL.pick rfl rfl rfl ?_
    refine WL.done ?_
    refine W.condT rfl ?_
    refine W.seq ?_
    refine W.region ?_
    refine WL.lit1 (b := w13.heap.size) Try.underlying23 Try.el48 rfl rfl rfl rfl (fun _ h => by cases h) (Nat.le_refl _) rfl ?_
    rintro A44 w45 - h1 hGw45
    have hap_h1_g11 := ap_new h1 (hVg11.bl_ge _ rfl).2
    have h1 := h1.low (b' := w.heap.size) hB.size
    have hB := ext_trans hB hGw45
    have hVg11 := hVg11.ext hGw45
    change Own _ _ _ _ _ _ _ (us []) at h1
    refine WL.lit1 (b := w45.heap.size) Try.underlying23 Try.el48 rfl rfl rfl rfl (by intro v hv; simp only [List.mem_cons, List.not_mem_nil, or_false] at hv; rcases hv with rfl <;> rfl) (Nat.le_refl _) rfl ?_
    rintro A46 w47 - h2 hGw47
    have hap_h2_g11 := ap_new h2 (hVg11.bl_ge _ rfl).2
    have h2 := h2.low (b' := w.heap.size) hB.size
    have hB := ext_trans hB hGw47
    have hVg11 := hVg11.ext hGw47
    have h1 := h1.ext hGw47
    change Own _ _ _ _ _ _ _ (us [1]) at h2
    refine WL.build (cells := #[.bool false, .slice A44 0 0, .slice A46 1 1]) Try.bld25 rfl rfl rfl ?_
    refine WL.storeV Try.el25 rfl rfl rfl rfl hVg11 ?_
    have hOld49 := hVg11
    intro w48 hVg11 hGw48
    change Own _ _ _ _ _ _ _ [.bool false, .slice A44 0 0, .slice A46 1 1] at hVg11
    have hB := ext_own hB hGw48 (fun g hg => (hOld49.bl_ge g hg).1)
    have h1 := h1.grown hGw48 (ap_row hap_h1_g11)
    have h2 := h2.grown hGw48 (ap_row hap_h2_g11)
    refine WL.done ?_
    refine W.ret ?_
    refine ⟨[.agg #[.bool false, .slice A44 0 0, .slice A46 1 1]], ⟨_, _, _, rfl, rfl, run_loadV (cs := [.bool false, .slice A44 0 0, .slice A46 1 1]) Try.el25 Try.agg25 rfl hVg11.vcells, rfl⟩, ?_⟩
    first
    | (rw [nv_digs] at h1q h2q
       have e1 := h1q.rd.ulen
       have e2 := h2q.rd.ulen
       rw [← hq, val_qneg (by omega) (by omega), val_qnum (by omega), val_den (by omega)]
       exact ⟨_, _, _, _, _, _, rfl, hB, h1q, h2q, by omega⟩)
    | (have e0 : q = 0 := by
         rw [← hq]; first | (rw [z1]; exact val_n0 _ _) | (rw [z2]; exact val_d0 _ _)
       subst e0
       exact ⟨_, _, _, _, _, _, rfl, hB, h1, h2, by omega⟩)

theorem rqTrim_c {w : World} {Ban : Nat} {Aan : Option Addr} {man can : Nat} {xan : List Nat} (han : Rd Ban w 1 Aan man can (us xan)) {Bad : Nat} {Aad : Option Addr} {mad cad : Nat} {xad : List Nat} (had : Rd Bad w 1 Aad mad cad (us xad)) {na : Bool} (hLan : Lim xan) (hLad : Lim xad) (qa : Rat) (hqa : val na (nv xan) (nv xad) = qa) (hsa : man ≤ 4194304 ∧ mad ≤ 4194304) :
    Calls Try.prog 27 #[.agg #[.bool na, .slice Aan man can, .slice Aad mad cad]] w fun e w2 => ∃ v, e = .returned v ∧ (fun v w2 => ∃ A2 m2 c2 A3 m3 c3, v = .agg #[.bool (qneg (qa)), .slice A2 m2 c2, .slice A3 m3 c3] ∧ w.grownBy w2 none ∧ Own w.heap.size w2 48 1 A2 m2 c2 (us (digs (qnum (qa)))) ∧ Own w.heap.size w2 48 1 A3 m3 c3 (us (digs (Rat.den (qa)))) ∧ m2 ≤ man ∧ m3 ≤ mad + 1) v w2 := by
  have han := han.norm
  have han_l := han.ulen
  have han_x := han.max
  simp only [maxLen] at han_x
  have han_c := han.cap
  have had := had.norm
  have had_l := had.ulen
  have had_x := had.max
  simp only [maxLen] at had_x
  have had_c := had.cap
  have han0 := han
  have had0 := had
  have hB := ext_refl w
  refine calls_of_Wc (vs := [.agg #[.bool na, .slice Aan man can, .slice Aad mad cad]]) [.cell 2 25] Try.func27 rfl rfl rfl rfl ?_
  refine W.seq ?_
  refine W.region ?_
  refine WL.box Try.el25 rfl rfl rfl ?_
  intro g11 w12 hg_g11 hVg11 hGw12
  change Own _ _ _ _ _ _ _ [.bool na, .slice Aan man can, .slice Aad mad cad] at hVg11
  have hVg11 := hVg11.low (b' := w.heap.size) hB.size
  have hB := ext_trans hB hGw12
  have han := han0.ext hB
  have had := had0.ext hB
  refine WL.alloc Try.el25 rfl ?_
  intro g13 w14 hg_g13 hVg13 hGw14
  change Own _ _ _ _ _ _ _ [.bool false, .slice none 0 0, .slice none 0 0] at hVg13
  have hlt_g11_g13 : g11 < g13 := by rw [hg_g13]; exact (hVg11.bl_ge _ rfl).2
  have hVg13 := hVg13.low (b' := w.heap.size) hB.size
  have hB := ext_trans hB hGw14
  have han := han0.ext hB
  have had := had0.ext hB
  have hVg11 := hVg11.ext hGw14
  refine WL.done ?_
  refine W.seq ?_
  refine W.region ?_
  refine WL.fieldA (off := 0) Try.fla25_0 rfl rfl ?_
  refine WL.load Try.underlying4 rfl rfl (hVg11.vcells 0 _ rfl) rfl ?_
  refine WL.fieldA (off := 1) Try.fla25_1 rfl rfl ?_
  refine WL.load Try.underlying23 rfl rfl (hVg11.vcells 1 _ rfl) rfl ?_
  refine WL.fieldA (off := 2) Try.fla25_2 rfl rfl ?_
  refine WL.load Try.underlying23 rfl rfl (hVg11.vcells 2 _ rfl) rfl ?_
  refine WL.call Try.func33 rfl Try.nm33 rfl rfl (rMake_c han had hLan hLad (by omega) (by omega) qa hqa) ?_
  rintro _ w15 ⟨A16, m17, c18, A19, m20, c21, rfl, hGw15, hrn, hrd, hrm⟩
  have hap_hrn_g13 := ap_new hrn (hVg13.bl_ge _ rfl).2
  have hap_hrd_g13 := ap_new hrd (hVg13.bl_ge _ rfl).2
  have hrn := hrn.low (b' := w.heap.size) hB.size
  have hrd := hrd.low (b' := w.heap.size) hB.size
  have hB := ext_trans hB hGw15
  have hVg13 := hVg13.ext hGw15
  have hrn_l := hrn.rd.ulen
  have hrd_l := hrd.rd.ulen
  refine WL.storeV Try.el25 rfl rfl rfl rfl hVg13 ?_
  have hOld23 := hVg13
  intro w22 hVg13 hGw22
  change Own _ _ _ _ _ _ _ [.bool (qneg (qa)), .slice A16 m17 c18, .slice A19 m20 c21] at hVg13
  have hB := ext_own hB hGw22 (fun g hg => (hOld23.bl_ge g hg).1)
  have hrn := hrn.grown hGw22 (ap_row hap_hrn_g13)
  have hrd := hrd.grown hGw22 (ap_row hap_hrd_g13)
  refine WL.done ?_
  refine W.ret ?_
  refine ⟨[.agg #[.bool (qneg (qa)), .slice A16 m17 c18, .slice A19 m20 c21]], ⟨_, _, _, rfl, rfl, run_loadV (cs := [.bool (qneg (qa)), .slice A16 m17 c18, .slice A19 m20 c21]) Try.el25 Try.agg25 rfl hVg13.vcells, rfl⟩, ?_⟩
  exact ⟨_, _, _, _, _, _, rfl, hB, hrn, hrd, by omega⟩

theorem rSame_c {w : World} {Ban : Nat} {Aan : Option Addr} {man can : Nat} {xan : List Nat} (han : Rd Ban w 1 Aan man can (us xan)) {Bad : Nat} {Aad : Option Addr} {mad cad : Nat} {xad : List Nat} (had : Rd Bad w 1 Aad mad cad (us xad)) {Bbn : Nat} {Abn : Option Addr} {mbn cbn : Nat} {xbn : List Nat} (hbn : Rd Bbn w 1 Abn mbn cbn (us xbn)) {Bbd : Nat} {Abd : Option Addr} {mbd cbd : Nat} {xbd : List Nat} (hbd : Rd Bbd w 1 Abd mbd cbd (us xbd)) {na nb : Bool} :
    Calls Try.prog 30 #[.agg #[.bool na, .slice Aan man can, .slice Aad mad cad], .agg #[.bool nb, .slice Abn mbn cbn, .slice Abd mbd cbd]] w fun e w2 => ∃ v, e = .returned v ∧ (fun v w2 => ∃ b : Bool, v = .bool b ∧ w.grownBy w2 none ∧ (b = true → na = nb ∧ xan = xbn ∧ xad = xbd) ∧ (b = false → ¬ (na = nb ∧ xan = xbn ∧ xad = xbd))) v w2 := by
  have han := han.norm
  have han_l := han.ulen
  have han_x := han.max
  simp only [maxLen] at han_x
  have han_c := han.cap
  have had := had.norm
  have had_l := had.ulen
  have had_x := had.max
  simp only [maxLen] at had_x
  have had_c := had.cap
  have hbn := hbn.norm
  have hbn_l := hbn.ulen
  have hbn_x := hbn.max
  simp only [maxLen] at hbn_x
  have hbn_c := hbn.cap
  have hbd := hbd.norm
  have hbd_l := hbd.ulen
  have hbd_x := hbd.max
  simp only [maxLen] at hbd_x
  have hbd_c := hbd.cap
  have han0 := han
  have had0 := had
  have hbn0 := hbn
  have hbd0 := hbd
  have hB := ext_refl w
  refine calls_of_W (vs := [.agg #[.bool na, .slice Aan man can, .slice Aad mad cad], .agg #[.bool nb, .slice Abn mbn cbn, .slice Abd mbd cbd]]) [4] Try.func30 rfl rfl rfl rfl ?_
  refine W.seq ?_
  refine W.region ?_
  refine WL.box Try.el25 rfl rfl rfl ?_
  intro g11 w12 hg_g11 hVg11 hGw12
  change Own _ _ _ _ _ _ _ [.bool na, .slice Aan man can, .slice Aad mad cad] at hVg11
  have hVg11 := hVg11.low (b' := w.heap.size) hB.size
  have hB := ext_trans hB hGw12
  have han := han0.ext hB
  have had := had0.ext hB
  have hbn := hbn0.ext hB
  have hbd := hbd0.ext hB
  refine WL.box Try.el25 rfl rfl rfl ?_
  intro g13 w14 hg_g13 hVg13 hGw14
  change Own _ _ _ _ _ _ _ [.bool nb, .slice Abn mbn cbn, .slice Abd mbd cbd] at hVg13
  have hlt_g11_g13 : g11 < g13 := by rw [hg_g13]; exact (hVg11.bl_ge _ rfl).2
  have hVg13 := hVg13.low (b' := w.heap.size) hB.size
  have hB := ext_trans hB hGw14
  have han := han0.ext hB
  have had := had0.ext hB
  have hbn := hbn0.ext hB
  have hbd := hbd0.ext hB
  have hVg11 := hVg11.ext hGw14
  refine WL.assign rfl rfl ?_
  refine WL.done ?_
  refine W.seq ?_
  refine W.region ?_
  refine WL.fieldA (off := 0) Try.fla25_0 rfl rfl ?_
  refine WL.load Try.underlying4 rfl rfl (hVg11.vcells 0 _ rfl) rfl ?_
  refine WL.fieldA (off := 0) Try.fla25_0 rfl rfl ?_
  refine WL.load Try.underlying4 rfl rfl (hVg13.vcells 0 _ rfl) rfl ?_
  refine WL.eqB (r := (na == nb)) rfl rfl Try.underlying4 rfl rfl ?_
  refine WL.move rfl rfl ?_
  rcases hg15 : (na == nb) with _ | _
  · refine WL.pass rfl rfl rfl ?_
    refine WL.pass rfl rfl rfl ?_
    refine WL.pass rfl rfl rfl ?_
    refine WL.pass rfl rfl rfl ?_
    refine WL.pass rfl rfl rfl ?_
    refine WL.pick rfl rfl rfl ?_
    refine WL.move rfl rfl ?_
    refine WL.pass rfl rfl rfl ?_
    refine WL.pass rfl rfl rfl ?_
    refine WL.pass rfl rfl rfl ?_
    refine WL.pass rfl rfl rfl ?_
    refine WL.pass rfl rfl rfl ?_
    refine WL.pick rfl rfl rfl ?_
    refine WL.assign rfl rfl ?_
    refine WL.done ?_
    refine W.ret ?_
    refine ⟨_, rfl, ?_⟩
    exact ⟨false, rfl, hB, (fun h => by cases h), fun _ h => by have h2 : (na == nb) = false := (by assumption); rw [h.1] at h2; simp at h2⟩
  · refine WL.take rfl ?_
    refine WL.fieldA (off := 1) Try.fla25_1 rfl rfl ?_
    refine WL.take rfl ?_
    refine WL.load Try.underlying23 rfl rfl (hVg11.vcells 1 _ rfl) rfl ?_
    refine WL.take rfl ?_
    refine WL.fieldA (off := 1) Try.fla25_1 rfl rfl ?_
    refine WL.take rfl ?_
    refine WL.load Try.underlying23 rfl rfl (hVg13.vcells 1 _ rfl) rfl ?_
    refine WL.take rfl ?_
    refine WL.call Try.func28 rfl Try.nm28 rfl rfl (Same_c han hbn) ?_
    rintro _ w16 ⟨rfl, hGw16⟩
    have hB := ext_trans hB hGw16
    have had := had0.ext hB
    have hbd := hbd0.ext hB
    have hVg11 := hVg11.ext hGw16
    have hVg13 := hVg13.ext hGw16
    refine WL.pick rfl rfl rfl ?_
    refine WL.move rfl rfl ?_
    rcases hg17 : (decide (xan = xbn)) with _ | _
    · refine WL.pass rfl rfl rfl ?_
      refine WL.pass rfl rfl rfl ?_
      refine WL.pass rfl rfl rfl ?_
      refine WL.pass rfl rfl rfl ?_
      refine WL.pass rfl rfl rfl ?_
      refine WL.pick rfl rfl rfl ?_
      refine WL.assign rfl rfl ?_
      refine WL.done ?_
      refine W.ret ?_
      refine ⟨_, rfl, ?_⟩
      exact ⟨false, rfl, hB, (fun h => by cases h), fun _ h => of_decide_eq_false (show decide (xan = xbn) = false by assumption) h.2.1⟩
    · refine WL.take rfl ?_
      refine WL.fieldA (off := 2) Try.fla25_2 rfl rfl ?_
      refine WL.take rfl ?_
      refine WL.load Try.underlying23 rfl rfl (hVg11.vcells 2 _ rfl) rfl ?_
      refine WL.take rfl ?_
      refine WL.fieldA (off := 2) Try.fla25_2 rfl rfl ?_
      refine WL.take rfl ?_
      refine WL.load Try.underlying23 rfl rfl (hVg13.vcells 2 _ rfl) rfl ?_
      refine WL.take rfl ?_
      refine WL.call Try.func28 rfl Try.nm28 rfl rfl (Same_c had hbd) ?_
      rintro _ w18 ⟨rfl, hGw18⟩
      have hB := ext_trans hB hGw18
      refine WL.pick rfl rfl rfl ?_
      refine WL.assign rfl rfl ?_
      refine WL.done ?_
      refine W.ret ?_
      refine ⟨_, rfl, ?_⟩
      exact ⟨_, rfl, hB, (fun h => ⟨eq_of_beq (show (na == nb) = true by assumption), of_decide_eq_true (show decide (xan = xbn) = true by assumption), of_decide_eq_true h⟩), fun h h2 => of_decide_eq_false h h2.2.2⟩

theorem rSame_t {w : World} {Ban : Nat} {Aan : Option Addr} {man can : Nat} {xan : List Nat} (han : Rd Ban w 1 Aan man can (us xan)) {Bad : Nat} {Aad : Option Addr} {mad cad : Nat} {xad : List Nat} (had : Rd Bad w 1 Aad mad cad (us xad)) {Bbn : Nat} {Abn : Option Addr} {mbn cbn : Nat} {xbn : List Nat} (hbn : Rd Bbn w 1 Abn mbn cbn (us xbn)) {Bbd : Nat} {Abd : Option Addr} {mbd cbd : Nat} {xbd : List Nat} (hbd : Rd Bbd w 1 Abd mbd cbd (us xbd)) {na nb : Bool} (h : na = nb ∧ xan = xbn ∧ xad = xbd) : Calls Try.prog 30 #[.agg #[.bool na, .slice Aan man can, .slice Aad mad cad], .agg #[.bool nb, .slice Abn mbn cbn, .slice Abd mbd cbd]] w fun e w2 => ∃ v, e = .returned v ∧ (fun v w2 => v = .bool true ∧ w.grownBy w2 none) v w2 :=
  (rSame_c han had hbn hbd).mono fun e w2 ⟨v, he, b, hv, hw, h1, h2⟩ => ⟨v, he, by rw [hv]; cases b with | true => rfl | false => exact absurd h (h2 rfl), hw⟩
theorem rSame_t_f {w : World} {Ban : Nat} {Aan : Option Addr} {man can : Nat} {xan : List Nat} (han : Rd Ban w 1 Aan man can (us xan)) {Bad : Nat} {Aad : Option Addr} {mad cad : Nat} {xad : List Nat} (had : Rd Bad w 1 Aad mad cad (us xad)) {Bbn : Nat} {Abn : Option Addr} {mbn cbn : Nat} {xbn : List Nat} (hbn : Rd Bbn w 1 Abn mbn cbn (us xbn)) {Bbd : Nat} {Abd : Option Addr} {mbd cbd : Nat} {xbd : List Nat} (hbd : Rd Bbd w 1 Abd mbd cbd (us xbd)) {na nb : Bool} (h : ¬ (na = nb ∧ xan = xbn ∧ xad = xbd)) : Calls Try.prog 30 #[.agg #[.bool na, .slice Aan man can, .slice Aad mad cad], .agg #[.bool nb, .slice Abn mbn cbn, .slice Abd mbd cbd]] w fun e w2 => ∃ v, e = .returned v ∧ (fun v w2 => v = .bool false ∧ w.grownBy w2 none) v w2 :=
  (rSame_c han had hbn hbd).mono fun e w2 ⟨v, he, b, hv, hw, h1, h2⟩ => ⟨v, he, by rw [hv]; cases b with | false => rfl | true => exact absurd (h1 rfl) h, hw⟩

theorem qsame_c {w : World} {Ban : Nat} {Aan : Option Addr} {man can : Nat} {xan : List Nat} (han : Rd Ban w 1 Aan man can (us xan)) {Bad : Nat} {Aad : Option Addr} {mad cad : Nat} {xad : List Nat} (had : Rd Bad w 1 Aad mad cad (us xad)) {Bbn : Nat} {Abn : Option Addr} {mbn cbn : Nat} {xbn : List Nat} (hbn : Rd Bbn w 1 Abn mbn cbn (us xbn)) {Bbd : Nat} {Abd : Option Addr} {mbd cbd : Nat} {xbd : List Nat} (hbd : Rd Bbd w 1 Abd mbd cbd (us xbd)) {na nb : Bool} :
    Calls Try.prog 11 #[.agg #[.bool na, .slice Aan man can, .slice Aad mad cad], .agg #[.bool nb, .slice Abn mbn cbn, .slice Abd mbd cbd]] w fun e w2 => ∃ v, e = .returned v ∧ (fun v w2 => ∃ b : Bool, v = .bool b ∧ w.grownBy w2 none ∧ (b = true → na = nb ∧ xan = xbn ∧ xad = xbd) ∧ (b = false → ¬ (na = nb ∧ xan = xbn ∧ xad = xbd))) v w2 := by
  have han := han.norm
  have han_l := han.ulen
  have han_x := han.max
  simp only [maxLen] at han_x
  have han_c := han.cap
  have had := had.norm
  have had_l := had.ulen
  have had_x := had.max
  simp only [maxLen] at had_x
  have had_c := had.cap
  have hbn := hbn.norm
  have hbn_l := hbn.ulen
  have hbn_x := hbn.max
  simp only [maxLen] at hbn_x
  have hbn_c := hbn.cap
  have hbd := hbd.norm
  have hbd_l := hbd.ulen
  have hbd_x := hbd.max
  simp only [maxLen] at hbd_x
  have hbd_c := hbd.cap
  have han0 := han
  have had0 := had
  have hbn0 := hbn
  have hbd0 := hbd
  have hB := ext_refl w
  refine calls_of_W (vs := [.agg #[.bool na, .slice Aan man can, .slice Aad mad cad], .agg #[.bool nb, .slice Abn mbn cbn, .slice Abd mbd cbd]]) [4] Try.func11 rfl rfl rfl rfl ?_
  refine W.seq ?_
  refine W.region ?_
  refine WL.box Try.el25 rfl rfl rfl ?_
  intro g11 w12 hg_g11 hVg11 hGw12
  change Own _ _ _ _ _ _ _ [.bool na, .slice Aan man can, .slice Aad mad cad] at hVg11
  have hVg11 := hVg11.low (b' := w.heap.size) hB.size
  have hB := ext_trans hB hGw12
  have han := han0.ext hB
  have had := had0.ext hB
  have hbn := hbn0.ext hB
  have hbd := hbd0.ext hB
  refine WL.box Try.el25 rfl rfl rfl ?_
  intro g13 w14 hg_g13 hVg13 hGw14
  change Own _ _ _ _ _ _ _ [.bool nb, .slice Abn mbn cbn, .slice Abd mbd cbd] at hVg13
  have hlt_g11_g13 : g11 < g13 := by rw [hg_g13]; exact (hVg11.bl_ge _ rfl).2
  have hVg13 := hVg13.low (b' := w.heap.size) hB.size
  have hB := ext_trans hB hGw14
  have han := han0.ext hB
  have had := had0.ext hB
  have hbn := hbn0.ext hB
  have hbd := hbd0.ext hB
  have hVg11 := hVg11.ext hGw14
  refine WL.assign rfl rfl ?_
  refine WL.done ?_
  refine W.seq ?_
  refine W.region ?_
  refine WL.loadV (cs := [.bool na, .slice Aan man can, .slice Aad mad cad]) Try.el25 Try.agg25 rfl rfl hVg11.vcells rfl ?_
  refine WL.loadV (cs := [.bool nb, .slice Abn mbn cbn, .slice Abd mbd cbd]) Try.el25 Try.agg25 rfl rfl hVg13.vcells rfl ?_
  refine WL.call Try.func30 rfl Try.nm30 rfl rfl (rSame_c han had hbn hbd) ?_
  rintro _ w15 ⟨bhs, rfl, hGw15, hs_t, hs_f⟩
  have hB := ext_trans hB hGw15
  refine WL.assign rfl rfl ?_
  refine WL.done ?_
  refine W.ret ?_
  refine ⟨_, rfl, ?_⟩
  exact ⟨_, rfl, hB, hs_t, hs_f⟩

theorem qsame_t {w : World} {Ban : Nat} {Aan : Option Addr} {man can : Nat} {xan : List Nat} (han : Rd Ban w 1 Aan man can (us xan)) {Bad : Nat} {Aad : Option Addr} {mad cad : Nat} {xad : List Nat} (had : Rd Bad w 1 Aad mad cad (us xad)) {Bbn : Nat} {Abn : Option Addr} {mbn cbn : Nat} {xbn : List Nat} (hbn : Rd Bbn w 1 Abn mbn cbn (us xbn)) {Bbd : Nat} {Abd : Option Addr} {mbd cbd : Nat} {xbd : List Nat} (hbd : Rd Bbd w 1 Abd mbd cbd (us xbd)) {na nb : Bool} (h : na = nb ∧ xan = xbn ∧ xad = xbd) : Calls Try.prog 11 #[.agg #[.bool na, .slice Aan man can, .slice Aad mad cad], .agg #[.bool nb, .slice Abn mbn cbn, .slice Abd mbd cbd]] w fun e w2 => ∃ v, e = .returned v ∧ (fun v w2 => v = .bool true ∧ w.grownBy w2 none) v w2 :=
  (qsame_c han had hbn hbd).mono fun e w2 ⟨v, he, b, hv, hw, h1, h2⟩ => ⟨v, he, by rw [hv]; cases b with | true => rfl | false => exact absurd h (h2 rfl), hw⟩
theorem qsame_t_f {w : World} {Ban : Nat} {Aan : Option Addr} {man can : Nat} {xan : List Nat} (han : Rd Ban w 1 Aan man can (us xan)) {Bad : Nat} {Aad : Option Addr} {mad cad : Nat} {xad : List Nat} (had : Rd Bad w 1 Aad mad cad (us xad)) {Bbn : Nat} {Abn : Option Addr} {mbn cbn : Nat} {xbn : List Nat} (hbn : Rd Bbn w 1 Abn mbn cbn (us xbn)) {Bbd : Nat} {Abd : Option Addr} {mbd cbd : Nat} {xbd : List Nat} (hbd : Rd Bbd w 1 Abd mbd cbd (us xbd)) {na nb : Bool} (h : ¬ (na = nb ∧ xan = xbn ∧ xad = xbd)) : Calls Try.prog 11 #[.agg #[.bool na, .slice Aan man can, .slice Aad mad cad], .agg #[.bool nb, .slice Abn mbn cbn, .slice Abd mbd cbd]] w fun e w2 => ∃ v, e = .returned v ∧ (fun v w2 => v = .bool false ∧ w.grownBy w2 none) v w2 :=
  (qsame_c han had hbn hbd).mono fun e w2 ⟨v, he, b, hv, hw, h1, h2⟩ => ⟨v, he, by rw [hv]; cases b with | false => rfl | true => exact absurd (h1 rfl) h, hw⟩

theorem rNil_c {w : World} :
    Calls Try.prog 17 #[.agg #[.bool false, .slice none 0 0, .slice none 0 0]] w fun e w2 => ∃ v, e = .returned v ∧ (fun v w2 => v = .bool true ∧ w.grownBy w2 none) v w2 := by
  have hB := ext_refl w
  refine calls_of_W (vs := [.agg #[.bool false, .slice none 0 0, .slice none 0 0]]) [2] Try.func17 rfl rfl rfl rfl ?_
  refine W.seq ?_
  refine W.region ?_
  refine WL.box Try.el25 rfl rfl rfl ?_
  intro g11 w12 hg_g11 hVg11 hGw12
  change Own _ _ _ _ _ _ _ [.bool false, .slice none 0 0, .slice none 0 0] at hVg11
  have hVg11 := hVg11.low (b' := w.heap.size) hB.size
  have hB := ext_trans hB hGw12
  refine WL.assign rfl rfl ?_
  refine WL.done ?_
  refine W.seq ?_
  refine W.region ?_
  refine WL.fieldA (off := 0) Try.fla25_0 rfl rfl ?_
  refine WL.load Try.underlying4 rfl rfl (hVg11.vcells 0 _ rfl) rfl ?_
  refine WL.not rfl rfl ?_
  refine WL.move rfl rfl ?_
  refine WL.take rfl ?_
  refine WL.fieldA (off := 1) Try.fla25_1 rfl rfl ?_
  refine WL.take rfl ?_
  refine WL.load Try.underlying23 rfl rfl (hVg11.vcells 1 _ rfl) rfl ?_
  refine WL.take rfl ?_
  refine WL.len Try.underlying23 rfl rfl ?_
  refine WL.take rfl ?_
  refine WL.eql rfl rfl rfl (fun c13 => ?_) (fun c13 => ?_)
  · refine WL.pick rfl rfl rfl ?_
    refine WL.move rfl rfl ?_
    refine WL.take rfl ?_
    refine WL.fieldA (off := 2) Try.fla25_2 rfl rfl ?_
    refine WL.take rfl ?_
    refine WL.load Try.underlying23 rfl rfl (hVg11.vcells 2 _ rfl) rfl ?_
    refine WL.take rfl ?_
    refine WL.len Try.underlying23 rfl rfl ?_
    refine WL.take rfl ?_
    refine WL.eql rfl rfl rfl (fun c14 => ?_) (fun c14 => ?_)
    · refine WL.pick rfl rfl rfl ?_
      refine WL.assign rfl rfl ?_
      refine WL.done ?_
      refine W.ret ?_
      refine ⟨_, rfl, ?_⟩
      exact ⟨rfl, hB⟩
    · exfalso
      omega
  · exfalso
    omega

theorem rabs_c {w : World} {X : Int} (hX : -9223372036854775808 ≤ X ∧ X ≤ 9223372036854775807) :
    Calls Try.prog 53 #[.int .i64 X] w fun e w2 => ∃ v, e = .returned v ∧ (fun v w2 => ∃ A2 m2 c2, v = .slice A2 m2 c2 ∧ w.grownBy w2 none ∧ Own w.heap.size w2 48 1 A2 m2 c2 (us (digs X.natAbs)) ∧ m2 ≤ 2) v w2 := by
  have hl2 := natAbs_len X (by omega)
  have hl3 := natAbs_len1 X (by omega)
  have hB := ext_refl w
  refine calls_of_W (vs := [.int .i64 X]) [2] Try.func53 rfl rfl rfl rfl ?_
  refine W.seq ?_
  refine W.region ?_
  refine WL.assign rfl rfl ?_
  refine WL.done ?_
  refine W.seq ?_
  refine W.seq ?_
  refine W.region ?_
  refine WL.move rfl rfl ?_
  refine WL.lss rfl rfl rfl (fun c11 => ?_) (fun c11 => ?_)
  · refine WL.done ?_
    refine W.condT rfl ?_
    refine W.seq ?_
    refine W.region ?_
    refine WL.move rfl rfl ?_
    refine WL.add (r := (X + (1 : Int))) rfl rfl (wi64 (by omega) (by omega) (by omega)) rfl ?_
    refine WL.neg (r := -(X + (1 : Int))) rfl (wi64 (by omega) (by omega) (by omega)) rfl ?_
    refine WL.conv (r := (-(X + (1 : Int)))) Try.underlying3 Try.underlying61 rfl (wu64 (by omega) (by omega) (by omega)) rfl ?_
    refine WL.call Try.func80 rfl Try.nm80 rfl rfl (rOf_c (X.natAbs - 1) (by omega) (by omega)) ?_
    rintro _ w12 ⟨A13, m14, cp15, rfl, hGw12, h0, hm16⟩
    have h0 := h0.low (b' := w.heap.size) hB.size
    have hB := ext_trans hB hGw12
    have h0_l := h0.rd.ulen
    refine WL.lit1 (b := w12.heap.size) Try.underlying23 Try.el48 rfl rfl rfl rfl (by intro v hv; simp only [List.mem_cons, List.not_mem_nil, or_false] at hv; rcases hv with rfl <;> rfl) (Nat.le_refl _) rfl ?_
    rintro A17 w18 - hO19 hGw18
    have hO19 := hO19.low (b' := w.heap.size) hB.size
    have hB := ext_trans hB hGw18
    have h0 := h0.ext hGw18
    change Own _ _ _ _ _ _ _ (us [1]) at hO19
    refine WL.call Try.func32 rfl Try.nm32 rfl rfl (rAdd_c h0.rd hO19.rd (digs_lim _) (by intro x hx; simp only [List.mem_cons, List.not_mem_nil, or_false] at hx; omega) (by omega) (by omega)) ?_
    rintro _ w20 ⟨A21, m22, cp23, rfl, hGw20, hO, hm24⟩
    have hO := hO.low (b' := w.heap.size) hB.size
    have hB := ext_trans hB hGw20
    have hO_l := hO.rd.ulen
    rw [show nv (digs (X.natAbs - 1)) + nv [1] = X.natAbs by rw [nv_digs, nv_one]; omega] at hO
    refine WL.assign rfl rfl ?_
    refine WL.done ?_
    refine W.ret ?_
    refine ⟨_, rfl, ?_⟩
    have := hO.rd.ulen
    exact ⟨_, _, _, rfl, hB, hO, by omega⟩
  · refine WL.done ?_
    refine W.condF rfl ?_
    refine W.skip ?_
    refine W.seq ?_
    refine W.region ?_
    refine WL.move rfl rfl ?_
    refine WL.conv (r := X) Try.underlying3 Try.underlying61 rfl (wu64 (by omega) (by omega) (by omega)) rfl ?_
    refine WL.call Try.func80 rfl Try.nm80 rfl rfl (rOf_c (X.natAbs) (by omega) (by omega)) ?_
    rintro _ w25 ⟨A26, m27, cp28, rfl, hGw25, hO, hm29⟩
    have hO := hO.low (b' := w.heap.size) hB.size
    have hB := ext_trans hB hGw25
    have hO_l := hO.rd.ulen
    refine WL.assign rfl rfl ?_
    refine WL.done ?_
    refine W.ret ?_
    refine ⟨_, rfl, ?_⟩
    have := hO.rd.ulen
    exact ⟨_, _, _, rfl, hB, hO, by omega⟩

theorem rqOf_c {w : World} {X : Int} (hX : -9223372036854775808 ≤ X ∧ X ≤ 9223372036854775807) {Y : Int} (hY : -9223372036854775808 ≤ Y ∧ Y ≤ 9223372036854775807) :
    Calls Try.prog 29 #[.int .i64 X, .int .i64 Y] w fun e w2 => ∃ v, e = .returned v ∧ (fun v w2 => ∃ A2 m2 c2 A3 m3 c3, v = .agg #[.bool (qneg (qOf X Y)), .slice A2 m2 c2, .slice A3 m3 c3] ∧ w.grownBy w2 none ∧ Own w.heap.size w2 48 1 A2 m2 c2 (us (digs (qnum (qOf X Y)))) ∧ Own w.heap.size w2 48 1 A3 m3 c3 (us (digs (Rat.den (qOf X Y)))) ∧ m2 ≤ 2 ∧ m3 ≤ 3) v w2 := by
  have hB := ext_refl w
  refine calls_of_Wc (vs := [.int .i64 X, .int .i64 Y]) [.cell 4 25] Try.func29 rfl rfl rfl rfl ?_
  refine W.seq ?_
  refine W.region ?_
  refine WL.alloc Try.el25 rfl ?_
  intro g11 w12 hg_g11 hVg11 hGw12
  change Own _ _ _ _ _ _ _ [.bool false, .slice none 0 0, .slice none 0 0] at hVg11
  have hVg11 := hVg11.low (b' := w.heap.size) hB.size
  have hB := ext_trans hB hGw12
  refine WL.done ?_
  refine W.seq ?_
  refine W.region ?_
  refine WL.move rfl rfl ?_
  refine WL.lss rfl rfl rfl (fun c13 => ?_) (fun c13 => ?_)
  · refine WL.move rfl rfl ?_
    refine WL.lss rfl rfl rfl (fun c14 => ?_) (fun c14 => ?_)
    · refine WL.neqB rfl rfl Try.underlying4 rfl rfl ?_
      refine WL.move rfl rfl ?_
      refine WL.call Try.func53 rfl Try.nm53 rfl rfl (rabs_c (by omega)) ?_
      rintro _ w15 ⟨A17, m18, c19, rfl, hGw15, hO16, hO16m⟩
      have hO16 := hO16.low (b' := w.heap.size) hB.size
      have hB := ext_trans hB hGw15
      have hVg11 := hVg11.ext hGw15
      have hO16_l := hO16.rd.ulen
      refine WL.move rfl rfl ?_
      refine WL.call Try.func53 rfl Try.nm53 rfl rfl (rabs_c (by omega)) ?_
      rintro _ w20 ⟨A22, m23, c24, rfl, hGw20, hO21, hO21m⟩
      have hO21 := hO21.low (b' := w.heap.size) hB.size
      have hB := ext_trans hB hGw20
      have hVg11 := hVg11.ext hGw20
      have hO16 := hO16.ext hGw20
      have hO21_l := hO21.rd.ulen
      refine WL.call Try.func33 rfl Try.nm33 rfl rfl (rMake_c hO16.rd hO21.rd (digs_lim _) (digs_lim _) (by omega) (by omega) (qOf X Y) (by rw [nv_digs, nv_digs]; first | exact qOf_eq (by simp only [decide_eq_true_eq, decide_eq_false_iff_not]; omega) (by simp only [decide_eq_true_eq, decide_eq_false_iff_not]; omega) rfl rfl | rfl)) ?_
      rintro _ w25 ⟨A26, m27, c28, A29, m30, c31, rfl, hGw25, hrn, hrd, hrm⟩
      have hap_hrn_g11 := ap_new hrn (hVg11.bl_ge _ rfl).2
      have hap_hrd_g11 := ap_new hrd (hVg11.bl_ge _ rfl).2
      have hrn := hrn.low (b' := w.heap.size) hB.size
      have hrd := hrd.low (b' := w.heap.size) hB.size
      have hB := ext_trans hB hGw25
      have hVg11 := hVg11.ext hGw25
      have hrn_l := hrn.rd.ulen
      have hrd_l := hrd.rd.ulen
      refine WL.storeV Try.el25 rfl rfl rfl rfl hVg11 ?_
      have hOld33 := hVg11
      intro w32 hVg11 hGw32
      change Own _ _ _ _ _ _ _ [.bool (qneg (qOf X Y)), .slice A26 m27 c28, .slice A29 m30 c31] at hVg11
      have hB := ext_own hB hGw32 (fun g hg => (hOld33.bl_ge g hg).1)
      have hrn := hrn.grown hGw32 (ap_row hap_hrn_g11)
      have hrd := hrd.grown hGw32 (ap_row hap_hrd_g11)
      refine WL.done ?_
      refine W.ret ?_
      refine ⟨[.agg #[.bool (qneg (qOf X Y)), .slice A26 m27 c28, .slice A29 m30 c31]], ⟨_, _, _, rfl, rfl, run_loadV (cs := [.bool (qneg (qOf X Y)), .slice A26 m27 c28, .slice A29 m30 c31]) Try.el25 Try.agg25 rfl hVg11.vcells, rfl⟩, ?_⟩
      exact ⟨_, _, _, _, _, _, rfl, hB, hrn, hrd, by omega⟩
    · refine WL.neqB rfl rfl Try.underlying4 rfl rfl ?_
      refine WL.move rfl rfl ?_
      refine WL.call Try.func53 rfl Try.nm53 rfl rfl (rabs_c (by omega)) ?_
      rintro _ w34 ⟨A36, m37, c38, rfl, hGw34, hO35, hO35m⟩
      have hO35 := hO35.low (b' := w.heap.size) hB.size
      have hB := ext_trans hB hGw34
      have hVg11 := hVg11.ext hGw34
      have hO35_l := hO35.rd.ulen
      refine WL.move rfl rfl ?_
      refine WL.call Try.func53 rfl Try.nm53 rfl rfl (rabs_c (by omega)) ?_
      rintro _ w39 ⟨A41, m42, c43, rfl, hGw39, hO40, hO40m⟩
      have hO40 := hO40.low (b' := w.heap.size) hB.size
      have hB := ext_trans hB hGw39
      have hVg11 := hVg11.ext hGw39
      have hO35 := hO35.ext hGw39
      have hO40_l := hO40.rd.ulen
      refine WL.call Try.func33 rfl Try.nm33 rfl rfl (rMake_c hO35.rd hO40.rd (digs_lim _) (digs_lim _) (by omega) (by omega) (qOf X Y) (by rw [nv_digs, nv_digs]; first | exact qOf_eq (by simp only [decide_eq_true_eq, decide_eq_false_iff_not]; omega) (by simp only [decide_eq_true_eq, decide_eq_false_iff_not]; omega) rfl rfl | rfl)) ?_
      rintro _ w44 ⟨A45, m46, c47, A48, m49, c50, rfl, hGw44, hrn, hrd, hrm⟩
      have hap_hrn_g11 := ap_new hrn (hVg11.bl_ge _ rfl).2
      have hap_hrd_g11 := ap_new hrd (hVg11.bl_ge _ rfl).2
      have hrn := hrn.low (b' := w.heap.size) hB.size
      have hrd := hrd.low (b' := w.heap.size) hB.size
      have hB := ext_trans hB hGw44
      have hVg11 := hVg11.ext hGw44
      have hrn_l := hrn.rd.ulen
      have hrd_l := hrd.rd.ulen
      refine WL.storeV Try.el25 rfl rfl rfl rfl hVg11 ?_
      have hOld52 := hVg11
      intro w51 hVg11 hGw51
      change Own _ _ _ _ _ _ _ [.bool (qneg (qOf X Y)), .slice A45 m46 c47, .slice A48 m49 c50] at hVg11
      have hB := ext_own hB hGw51 (fun g hg => (hOld52.bl_ge g hg).1)
      have hrn := hrn.grown hGw51 (ap_row hap_hrn_g11)
      have hrd := hrd.grown hGw51 (ap_row hap_hrd_g11)
      refine WL.done ?_
      refine W.ret ?_
      refine ⟨[.agg #[.bool (qneg (qOf X Y)), .slice A45 m46 c47, .slice A48 m49 c50]], ⟨_, _, _, rfl, rfl, run_loadV (cs := [.bool (qneg (qOf X Y)), .slice A45 m46 c47, .slice A48 m49 c50]) Try.el25 Try.agg25 rfl hVg11.vcells, rfl⟩, ?_⟩
      exact ⟨_, _, _, _, _, _, rfl, hB, hrn, hrd, by omega⟩
  · refine WL.move rfl rfl ?_
    refine WL.lss rfl rfl rfl (fun c53 => ?_) (fun c53 => ?_)
    · refine WL.neqB rfl rfl Try.underlying4 rfl rfl ?_
      refine WL.move rfl rfl ?_
      refine WL.call Try.func53 rfl Try.nm53 rfl rfl (rabs_c (by omega)) ?_
      rintro _ w54 ⟨A56, m57, c58, rfl, hGw54, hO55, hO55m⟩
      have hO55 := hO55.low (b' := w.heap.size) hB.size
      have hB := ext_trans hB hGw54
      have hVg11 := hVg11.ext hGw54
      have hO55_l := hO55.rd.ulen
      refine WL.move rfl rfl ?_
      refine WL.call Try.func53 rfl Try.nm53 rfl rfl (rabs_c (by omega)) ?_
      rintro _ w59 ⟨A61, m62, c63, rfl, hGw59, hO60, hO60m⟩
      have hO60 := hO60.low (b' := w.heap.size) hB.size
      have hB := ext_trans hB hGw59
      have hVg11 := hVg11.ext hGw59
      have hO55 := hO55.ext hGw59
      have hO60_l := hO60.rd.ulen
      refine WL.call Try.func33 rfl Try.nm33 rfl rfl (rMake_c hO55.rd hO60.rd (digs_lim _) (digs_lim _) (by omega) (by omega) (qOf X Y) (by rw [nv_digs, nv_digs]; first | exact qOf_eq (by simp only [decide_eq_true_eq, decide_eq_false_iff_not]; omega) (by simp only [decide_eq_true_eq, decide_eq_false_iff_not]; omega) rfl rfl | rfl)) ?_
      rintro _ w64 ⟨A65, m66, c67, A68, m69, c70, rfl, hGw64, hrn, hrd, hrm⟩
      have hap_hrn_g11 := ap_new hrn (hVg11.bl_ge _ rfl).2
      have hap_hrd_g11 := ap_new hrd (hVg11.bl_ge _ rfl).2
      have hrn := hrn.low (b' := w.heap.size) hB.size
      have hrd := hrd.low (b' := w.heap.size) hB.size
      have hB := ext_trans hB hGw64
      have hVg11 := hVg11.ext hGw64
      have hrn_l := hrn.rd.ulen
      have hrd_l := hrd.rd.ulen
      refine WL.storeV Try.el25 rfl rfl rfl rfl hVg11 ?_
      have hOld72 := hVg11
      intro w71 hVg11 hGw71
      change Own _ _ _ _ _ _ _ [.bool (qneg (qOf X Y)), .slice A65 m66 c67, .slice A68 m69 c70] at hVg11
      have hB := ext_own hB hGw71 (fun g hg => (hOld72.bl_ge g hg).1)
      have hrn := hrn.grown hGw71 (ap_row hap_hrn_g11)
      have hrd := hrd.grown hGw71 (ap_row hap_hrd_g11)
      refine WL.done ?_
      refine W.ret ?_
      refine ⟨[.agg #[.bool (qneg (qOf X Y)), .slice A65 m66 c67, .slice A68 m69 c70]], ⟨_, _, _, rfl, rfl, run_loadV (cs := [.bool (qneg (qOf X Y)), .slice A65 m66 c67, .slice A68 m69 c70]) Try.el25 Try.agg25 rfl hVg11.vcells, rfl⟩, ?_⟩
      exact ⟨_, _, _, _, _, _, rfl, hB, hrn, hrd, by omega⟩
    · refine WL.neqB rfl rfl Try.underlying4 rfl rfl ?_
      refine WL.move rfl rfl ?_
      refine WL.call Try.func53 rfl Try.nm53 rfl rfl (rabs_c (by omega)) ?_
      rintro _ w73 ⟨A75, m76, c77, rfl, hGw73, hO74, hO74m⟩
      have hO74 := hO74.low (b' := w.heap.size) hB.size
      have hB := ext_trans hB hGw73
      have hVg11 := hVg11.ext hGw73
      have hO74_l := hO74.rd.ulen
      refine WL.move rfl rfl ?_
      refine WL.call Try.func53 rfl Try.nm53 rfl rfl (rabs_c (by omega)) ?_
      rintro _ w78 ⟨A80, m81, c82, rfl, hGw78, hO79, hO79m⟩
      have hO79 := hO79.low (b' := w.heap.size) hB.size
      have hB := ext_trans hB hGw78
      have hVg11 := hVg11.ext hGw78
      have hO74 := hO74.ext hGw78
      have hO79_l := hO79.rd.ulen
      refine WL.call Try.func33 rfl Try.nm33 rfl rfl (rMake_c hO74.rd hO79.rd (digs_lim _) (digs_lim _) (by omega) (by omega) (qOf X Y) (by rw [nv_digs, nv_digs]; first | exact qOf_eq (by simp only [decide_eq_true_eq, decide_eq_false_iff_not]; omega) (by simp only [decide_eq_true_eq, decide_eq_false_iff_not]; omega) rfl rfl | rfl)) ?_
      rintro _ w83 ⟨A84, m85, c86, A87, m88, c89, rfl, hGw83, hrn, hrd, hrm⟩
      have hap_hrn_g11 := ap_new hrn (hVg11.bl_ge _ rfl).2
      have hap_hrd_g11 := ap_new hrd (hVg11.bl_ge _ rfl).2
      have hrn := hrn.low (b' := w.heap.size) hB.size
      have hrd := hrd.low (b' := w.heap.size) hB.size
      have hB := ext_trans hB hGw83
      have hVg11 := hVg11.ext hGw83
      have hrn_l := hrn.rd.ulen
      have hrd_l := hrd.rd.ulen
      refine WL.storeV Try.el25 rfl rfl rfl rfl hVg11 ?_
      have hOld91 := hVg11
      intro w90 hVg11 hGw90
      change Own _ _ _ _ _ _ _ [.bool (qneg (qOf X Y)), .slice A84 m85 c86, .slice A87 m88 c89] at hVg11
      have hB := ext_own hB hGw90 (fun g hg => (hOld91.bl_ge g hg).1)
      have hrn := hrn.grown hGw90 (ap_row hap_hrn_g11)
      have hrd := hrd.grown hGw90 (ap_row hap_hrd_g11)
      refine WL.done ?_
      refine W.ret ?_
      refine ⟨[.agg #[.bool (qneg (qOf X Y)), .slice A84 m85 c86, .slice A87 m88 c89]], ⟨_, _, _, rfl, rfl, run_loadV (cs := [.bool (qneg (qOf X Y)), .slice A84 m85 c86, .slice A87 m88 c89]) Try.el25 Try.agg25 rfl hVg11.vcells, rfl⟩, ?_⟩
      exact ⟨_, _, _, _, _, _, rfl, hB, hrn, hrd, by omega⟩

theorem rqInt_c {w : World} {X : Int} (hX : -9223372036854775808 ≤ X ∧ X ≤ 9223372036854775807) :
    Calls Try.prog 10 #[.int .i64 X] w fun e w2 => ∃ v, e = .returned v ∧ (fun v w2 => ∃ A2 m2 c2 A3 m3 c3, v = .agg #[.bool (qneg (qOf X 1)), .slice A2 m2 c2, .slice A3 m3 c3] ∧ w.grownBy w2 none ∧ Own w.heap.size w2 48 1 A2 m2 c2 (us (digs (qnum (qOf X 1)))) ∧ Own w.heap.size w2 48 1 A3 m3 c3 (us (digs (Rat.den (qOf X 1)))) ∧ m2 ≤ 2 ∧ m3 ≤ 3) v w2 := by
  have hB := ext_refl w
  refine calls_of_Wc (vs := [.int .i64 X]) [.cell 2 25] Try.func10 rfl rfl rfl rfl ?_
  refine W.seq ?_
  refine W.region ?_
  refine WL.alloc Try.el25 rfl ?_
  intro g11 w12 hg_g11 hVg11 hGw12
  change Own _ _ _ _ _ _ _ [.bool false, .slice none 0 0, .slice none 0 0] at hVg11
  have hVg11 := hVg11.low (b' := w.heap.size) hB.size
  have hB := ext_trans hB hGw12
  refine WL.done ?_
  refine W.seq ?_
  refine W.region ?_
  refine WL.move rfl rfl ?_
  refine WL.call Try.func29 rfl Try.nm29 rfl rfl (rqOf_c (by omega) (by omega)) ?_
  rintro _ w13 ⟨A14, m15, c16, A17, m18, c19, rfl, hGw13, hrn, hrd, hrm⟩
  have hap_hrn_g11 := ap_new hrn (hVg11.bl_ge _ rfl).2
  have hap_hrd_g11 := ap_new hrd (hVg11.bl_ge _ rfl).2
  have hrn := hrn.low (b' := w.heap.size) hB.size
  have hrd := hrd.low (b' := w.heap.size) hB.size
  have hB := ext_trans hB hGw13
  have hVg11 := hVg11.ext hGw13
  have hrn_l := hrn.rd.ulen
  have hrd_l := hrd.rd.ulen
  refine WL.storeV Try.el25 rfl rfl rfl rfl hVg11 ?_
  have hOld21 := hVg11
  intro w20 hVg11 hGw20
  change Own _ _ _ _ _ _ _ [.bool (qneg (qOf X (1 : Int))), .slice A14 m15 c16, .slice A17 m18 c19] at hVg11
  have hB := ext_own hB hGw20 (fun g hg => (hOld21.bl_ge g hg).1)
  have hrn := hrn.grown hGw20 (ap_row hap_hrn_g11)
  have hrd := hrd.grown hGw20 (ap_row hap_hrd_g11)
  refine WL.done ?_
  refine W.ret ?_
  refine ⟨[.agg #[.bool (qneg (qOf X (1 : Int))), .slice A14 m15 c16, .slice A17 m18 c19]], ⟨_, _, _, rfl, rfl, run_loadV (cs := [.bool (qneg (qOf X (1 : Int))), .slice A14 m15 c16, .slice A17 m18 c19]) Try.el25 Try.agg25 rfl hVg11.vcells, rfl⟩, ?_⟩
  exact ⟨_, _, _, _, _, _, rfl, hB, hrn, hrd, by omega⟩
end Go.Proofs.Ythfpcebcfjlkmac
set_option linter.unusedSimpArgs false
set_option linter.unusedVariables false
namespace Go.Proofs.Ythfpcebcfjlkmac
open Go.RowKit
theorem qIs_d {w : World} {Ban : Nat} {Aan : Option Addr} {man can : Nat} {xan : List Nat} (han : Rd Ban w 1 Aan man can (us xan)) {Bad : Nat} {Aad : Option Addr} {mad cad : Nat} {xad : List Nat} (had : Rd Bad w 1 Aad mad cad (us xad)) {na : Bool} (hLan : Lim xan) (hLad : Lim xad) (qa : Rat) (hqa : val na (nv xan) (nv xad) = qa) (hsa : man ≤ 4194304 ∧ mad ≤ 4194304) : Calls Try.prog 19 #[.agg #[.bool na, .slice Aan man can, .slice Aad mad cad]] w fun e w2 => ∃ v, e = .returned v ∧ (fun v w2 => v = .bool (decide (na = qneg qa ∧ xan = digs (qnum qa) ∧ xad = digs (Rat.den qa))) ∧ w.grownBy w2 none) v w2 :=
  (qIs_c han had hLan hLad qa hqa hsa).mono fun e w2 ⟨v, he, b, hv, hw, h1, h2⟩ => ⟨v, he, by rw [hv]; cases b with | true => rw [decide_eq_true (h1 rfl)] | false => rw [decide_eq_false (h2 rfl)], hw⟩

theorem isT {q : Rat} : decide (qneg q = qneg q ∧ digs (qnum q) = digs (qnum q) ∧ digs q.den = digs q.den) = true := decide_eq_true ⟨rfl, rfl, rfl⟩

theorem qIs_t {w : World} {Ban : Nat} {Aan : Option Addr} {man can : Nat} {Bad : Nat} {Aad : Option Addr} {mad cad : Nat} {qa : Rat} (han : Rd Ban w 1 Aan man can (us (digs (qnum qa)))) (had : Rd Bad w 1 Aad mad cad (us (digs (Rat.den qa)))) (hLan : Lim (digs (qnum qa))) (hLad : Lim (digs (Rat.den qa))) (q : Rat) (hq : val (qneg qa) (nv (digs (qnum qa))) (nv (digs (Rat.den qa))) = q) (hsa : man ≤ 4194304 ∧ mad ≤ 4194304) :
    Calls Try.prog 19 #[.agg #[.bool (qneg qa), .slice Aan man can, .slice Aad mad cad]] w fun e w2 => ∃ v, e = .returned v ∧ (fun v w2 => v = .bool true ∧ w.grownBy w2 none) v w2 :=
  (qIs_d han had hLan hLad qa (val_canon qa) hsa).mono fun e w2 ⟨v, he, hv, hw⟩ => ⟨v, he, by rw [hv, isT], hw⟩

theorem long_c {w : World} {X : Int} {most : Nat} {Bl BNl : Nat} {Al : Option Addr} {ml cl : Nat} {cel : List Value} {rl : List Fr3} (hl : Rd Bl w 3 Al ml cl cel) (hNl : RatsR BNl w cel rl) (hX : X = most) (hK : RLen 140737488355328 rl) :
    Calls Try.prog 6 #[.int .i64 X, .slice Al ml cl] w fun e w2 => ∃ v, e = .returned v ∧ (fun v w2 => ∃ b : Bool, v = .bool b ∧ w.grownBy w2 none ∧ (b = true → True) ∧ (b = false → ∀ j, j < rl.length → (rl.getD j fr0).2.1.length + (rl.getD j fr0).2.2.length ≤ most)) v w2 := by
  have hl := hl.norm
  have hNl := hNl.norm
  have hl_n := hl.len
  have hl_nn := hNl.len
  have hl_l : rl.length = ml := by omega
  have hl_x := hl.max
  simp only [maxLen] at hl_x
  have hl_c := hl.cap
  have hl0 := hl
  have hNl0 := hNl
  have hB := ext_refl w
  refine calls_of_W (vs := [.int .i64 X, .slice Al ml cl]) [4] Try.func6 rfl rfl rfl rfl ?_
  refine W.seq ?_
  refine W.region ?_
  refine WL.assign rfl rfl ?_
  refine WL.done ?_
  refine W.seq ?_
  refine W.seq ?_
  refine W.region ?_
  refine WL.assign rfl rfl ?_
  refine WL.done ?_
  refine W.block ?_
  refine W.loop (σ := Nat) (fun j w1 => w.grownBy w1 none ∧ j ≤ ml ∧ ∀ i, i < j → (rl.getD i fr0).2.1.length + (rl.getD i fr0).2.2.length ≤ most) (fun j => [(0, .int .i64 X), (1, .slice Al ml cl), (5, .int .i64 ((j : Nat) : Int))]) (fun j => ml - j) 0 ?_ ?_ ?_
  · exact ⟨hB, by omega, fun i h => by omega⟩
  · exact ⟨iv (by omega), rfl, iv (by omega), trivial⟩
  · rintro j w11 ⟨hB, hj, hin⟩
    have hl := hl0.ext hB
    have hNl := hNl0.ext hB
    refine W.seq ?_
    refine W.seq ?_
    refine W.region ?_
    refine WL.move rfl rfl ?_
    refine WL.move rfl rfl ?_
    refine WL.len Try.underlying35 rfl rfl ?_
    refine WL.lss rfl rfl rfl (fun c12 => ?_) (fun c12 => ?_)
    · refine WL.done ?_
      refine W.condT rfl ?_
      refine W.skip ?_
      refine W.seq ?_
      refine W.block ?_
      refine W.seq ?_
      obtain ⟨hk1, hk2⟩ := hK j (by omega); have hu1 := (hNl0.rd1 j (by omega)).ulen; have hu2 := (hNl0.rd2 j (by omega)).ulen
      · refine W.draw [⟨[], [1], true⟩, ⟨[], [5], true⟩, ⟨[0, 1], [], true⟩, ⟨[2], [], true⟩, ⟨[3], [], false⟩, ⟨[4], [], true⟩, ⟨[], [1], true⟩, ⟨[], [5], true⟩, ⟨[6, 7], [], true⟩, ⟨[8], [], true⟩, ⟨[9], [], false⟩, ⟨[10], [], true⟩, ⟨[5, 11], [], true⟩, ⟨[], [0], true⟩, ⟨[12, 13], [], true⟩] [[(1, .slice Al ml cl)], [(5, .int .i64 ((j : Nat) : Int))], [], [], [], [], [(1, .slice Al ml cl)], [(5, .int .i64 ((j : Nat) : Int))], [], [], [], [], [], [(0, .int .i64 X)], []] (fun iQ => [fun v wQ => v = .slice Al ml cl, fun v wQ => v = .int .i64 ((j : Nat) : Int), fun v wQ => v = .pointer (some ((adOf Al).add (j * 3))), fun v wQ => v = .pointer (some (((adOf Al).add (j * 3)).add 1)), fun v wQ => v = .slice (sA (cel.getD (j * 3 + 1) undef)) (sM (cel.getD (j * 3 + 1) undef)) (sC (cel.getD (j * 3 + 1) undef)), fun v wQ => v = .int .i64 (((sM (cel.getD (j * 3 + 1) undef)) : Nat) : Int), fun v wQ => v = .slice Al ml cl, fun v wQ => v = .int .i64 ((j : Nat) : Int), fun v wQ => v = .pointer (some ((adOf Al).add (j * 3))), fun v wQ => v = .pointer (some (((adOf Al).add (j * 3)).add 2)), fun v wQ => v = .slice (sA (cel.getD (j * 3 + 2) undef)) (sM (cel.getD (j * 3 + 2) undef)) (sC (cel.getD (j * 3 + 2) undef)), fun v wQ => v = .int .i64 (((sM (cel.getD (j * 3 + 2) undef)) : Nat) : Int), fun v wQ => v = .int .i64 (((sM (cel.getD (j * 3 + 1) undef)) + (sM (cel.getD (j * 3 + 2) undef)) : Nat) : Int), fun v wQ => v = .int .i64 X, fun v wQ => v = .bool (decide (X < (((sM (cel.getD (j * 3 + 1) undef)) + (sM (cel.getD (j * 3 + 2) undef)) : Nat) : Int)))].getD iQ (fun _ _ => True)) (fun _ => True) 15 Try.mixed (by kernel_rfl) ?_ ?_ ?_
        · refine Vs_mono _ ?_
          intro VQ hVQ vQ wQ1 wQ2 hQ1 hQ2
          have hQ2 := hQ2.resolve_right (by decide)
          simp only [List.mem_cons, List.not_mem_nil, or_false] at hVQ
          rcases hVQ with rfl | rfl | rfl | rfl | rfl | rfl | rfl | rfl | rfl | rfl | rfl | rfl | rfl | rfl | rfl
          · exact hQ1
          · exact hQ1
          · exact hQ1
          · exact hQ1
          · exact hQ1
          · exact hQ1
          · exact hQ1
          · exact hQ1
          · exact hQ1
          · exact hQ1
          · exact hQ1
          · exact hQ1
          · exact hQ1
          · exact hQ1
          · exact hQ1
        · refine ⟨⟨rfl, ⟨rfl, trivial⟩, ?_⟩, ⟨rfl, ⟨rfl, trivial⟩, ?_⟩, ⟨rfl, trivial, ?_⟩, ⟨rfl, trivial, ?_⟩, ⟨rfl, trivial, ?_⟩, ⟨rfl, trivial, ?_⟩, ⟨rfl, ⟨rfl, trivial⟩, ?_⟩, ⟨rfl, ⟨rfl, trivial⟩, ?_⟩, ⟨rfl, trivial, ?_⟩, ⟨rfl, trivial, ?_⟩, ⟨rfl, trivial, ?_⟩, ⟨rfl, trivial, ?_⟩, ⟨rfl, trivial, ?_⟩, ⟨rfl, ⟨rfl, trivial⟩, ?_⟩, ⟨rfl, trivial, ?_⟩, trivial⟩
          · intro w13 hE
            intro R
            refine WL.move rfl rfl ?_
            exact WL.done ⟨_, rfl, rfl, rfl⟩
          · intro w14 hE
            intro R
            refine WL.move rfl rfl ?_
            exact WL.done ⟨_, rfl, rfl, rfl⟩
          · intro w15 hE
            rintro _ rfl
            rintro _ rfl
            intro R
            refine WL.index (j) Try.underlying35 Try.el25 rfl rfl (by omega) (by omega) hl rfl ?_
            exact WL.done ⟨_, rfl, rfl, rfl⟩
          · intro w16 hE
            rintro _ rfl
            intro R
            refine WL.fieldA (off := 1) Try.fla25_1 rfl rfl ?_
            exact WL.done ⟨_, rfl, rfl, rfl⟩
          · intro w17 hE
            have hE := hE rfl
            have hB := ext_trans hB hE
            have hl := hl0.ext hB
            have hNl := hNl0.ext hB
            rintro _ rfl
            intro R
            refine WL.load Try.underlying23 rfl rfl (by rw [add_add]; exact Rd.at_ hl (hNl.c1 j (by omega))) rfl ?_
            exact WL.done ⟨_, rfl, ext_refl _, rfl⟩
          · intro w18 hE
            rintro _ rfl
            intro R
            refine WL.len Try.underlying23 rfl rfl ?_
            exact WL.done ⟨_, rfl, rfl, rfl⟩
          · intro w19 hE
            intro R
            refine WL.move rfl rfl ?_
            exact WL.done ⟨_, rfl, rfl, rfl⟩
          · intro w20 hE
            intro R
            refine WL.move rfl rfl ?_
            exact WL.done ⟨_, rfl, rfl, rfl⟩
          · intro w21 hE
            rintro _ rfl
            rintro _ rfl
            intro R
            refine WL.index (j) Try.underlying35 Try.el25 rfl rfl (by omega) (by omega) hl rfl ?_
            exact WL.done ⟨_, rfl, rfl, rfl⟩
          · intro w22 hE
            rintro _ rfl
            intro R
            refine WL.fieldA (off := 2) Try.fla25_2 rfl rfl ?_
            exact WL.done ⟨_, rfl, rfl, rfl⟩
          · intro w23 hE
            have hE := hE rfl
            have hB := ext_trans hB hE
            have hl := hl0.ext hB
            have hNl := hNl0.ext hB
            rintro _ rfl
            intro R
            refine WL.load Try.underlying23 rfl rfl (by rw [add_add]; exact Rd.at_ hl (hNl.c2 j (by omega))) rfl ?_
            exact WL.done ⟨_, rfl, ext_refl _, rfl⟩
          · intro w24 hE
            rintro _ rfl
            intro R
            refine WL.len Try.underlying23 rfl rfl ?_
            exact WL.done ⟨_, rfl, rfl, rfl⟩
          · intro w25 hE
            rintro _ rfl
            rintro _ rfl
            intro R
            refine WL.add (r := (((sM (cel.getD (j * 3 + 1) undef)) + (sM (cel.getD (j * 3 + 2) undef)) : Nat) : Int)) rfl rfl (wi64 (by omega) (by omega) (by omega)) rfl ?_
            exact WL.done ⟨_, rfl, rfl, rfl⟩
          · intro w26 hE
            intro R
            refine WL.move rfl rfl ?_
            exact WL.done ⟨_, rfl, rfl, rfl⟩
          · intro w27 hE
            rintro _ rfl
            rintro _ rfl
            intro R
            refine WL.gtrD rfl rfl rfl ?_
            exact WL.done ⟨_, rfl, rfl, rfl⟩
        · intro vals w28 hT hVs
          rw [if_neg (by decide)] at hT
          have hB := ext_trans hB hT
          have hv0 : vals 0 = _ := hVs 0 (by decide) (by decide)
          have hv1 : vals 1 = _ := hVs 1 (by decide) (by decide)
          have hv2 : vals 2 = _ := hVs 2 (by decide) (by decide)
          have hv3 : vals 3 = _ := hVs 3 (by decide) (by decide)
          have hv4 : vals 4 = _ := hVs 4 (by decide) (by decide)
          have hv5 : vals 5 = _ := hVs 5 (by decide) (by decide)
          have hv6 : vals 6 = _ := hVs 6 (by decide) (by decide)
          have hv7 : vals 7 = _ := hVs 7 (by decide) (by decide)
          have hv8 : vals 8 = _ := hVs 8 (by decide) (by decide)
          have hv9 : vals 9 = _ := hVs 9 (by decide) (by decide)
          have hv10 : vals 10 = _ := hVs 10 (by decide) (by decide)
          have hv11 : vals 11 = _ := hVs 11 (by decide) (by decide)
          have hv12 : vals 12 = _ := hVs 12 (by decide) (by decide)
          have hv13 : vals 13 = _ := hVs 13 (by decide) (by decide)
          have hv14 : vals 14 = _ := hVs 14 (by decide) (by decide)
          rw [show (List.filterMap (fun i => Option.map (fun t => (t, vals i)) (dstAt _ i)) (List.range _)) = [(12, .slice Al ml cl), (13, .int .i64 ((j : Nat) : Int)), (14, .pointer (some ((adOf Al).add (j * 3)))), (15, .pointer (some (((adOf Al).add (j * 3)).add 1))), (16, .slice (sA (cel.getD (j * 3 + 1) undef)) (sM (cel.getD (j * 3 + 1) undef)) (sC (cel.getD (j * 3 + 1) undef))), (17, .int .i64 (((sM (cel.getD (j * 3 + 1) undef)) : Nat) : Int)), (18, .slice Al ml cl), (19, .int .i64 ((j : Nat) : Int)), (20, .pointer (some ((adOf Al).add (j * 3)))), (21, .pointer (some (((adOf Al).add (j * 3)).add 2))), (22, .slice (sA (cel.getD (j * 3 + 2) undef)) (sM (cel.getD (j * 3 + 2) undef)) (sC (cel.getD (j * 3 + 2) undef))), (23, .int .i64 (((sM (cel.getD (j * 3 + 2) undef)) : Nat) : Int)), (24, .int .i64 (((sM (cel.getD (j * 3 + 1) undef)) + (sM (cel.getD (j * 3 + 2) undef)) : Nat) : Int)), (25, .int .i64 X), (26, .bool (decide (X < (((sM (cel.getD (j * 3 + 1) undef)) + (sM (cel.getD (j * 3 + 2) undef)) : Nat) : Int))))] from by
            show [(12, vals 0), (13, vals 1), (14, vals 2), (15, vals 3), (16, vals 4), (17, vals 5), (18, vals 6), (19, vals 7), (20, vals 8), (21, vals 9), (22, vals 10), (23, vals 11), (24, vals 12), (25, vals 13), (26, vals 14)] = _
            rw [hv0, hv1, hv2, hv3, hv4, hv5, hv6, hv7, hv8, hv9, hv10, hv11, hv12, hv13, hv14]]
          refine W.cond2 rfl (fun c29 => ?_) (fun c29 => ?_)
          · have c29 := of_decide_eq_true c29
            refine W.seq ?_
            refine W.region ?_
            refine WL.assign rfl rfl ?_
            refine WL.done ?_
            refine W.ret ?_
            refine ⟨_, rfl, ?_⟩
            exact ⟨true, rfl, hB, (fun _ => trivial), fun h => by cases h⟩
          · have c29 := of_decide_eq_false c29
            refine W.skip ?_
            refine W.region ?_
            refine WL.move rfl rfl ?_
            refine WL.add (r := ((j + 1 : Nat) : Int)) rfl rfl (wi64 (by omega) (by omega) (by omega)) rfl ?_
            refine WL.assign rfl rfl ?_
            refine WL.done ?_
            refine ⟨j + 1, ⟨iv (by omega), rfl, iv (by omega), trivial⟩, by omega, ?_⟩
            refine ⟨hB, by omega, fun i hi => ?_⟩
            rcases Nat.lt_succ_iff_lt_or_eq.1 hi with h | rfl
            · exact hin i h
            · omega
    · refine WL.done ?_
      refine W.condF rfl ?_
      refine W.exit ?_
      refine W.seq ?_
      refine W.region ?_
      refine WL.assign rfl rfl ?_
      refine WL.done ?_
      refine W.ret ?_
      refine ⟨_, rfl, ?_⟩
      exact ⟨false, rfl, hB, (fun h => by cases h), fun _ i hi => hin i (by omega)⟩
end Go.Proofs.Ythfpcebcfjlkmac
