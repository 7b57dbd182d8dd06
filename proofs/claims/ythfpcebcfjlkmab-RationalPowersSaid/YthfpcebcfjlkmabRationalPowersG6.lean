/- Contracts of functions of the program, and what they lean on: W18, Ap, Rr, W19, W20, W21, W22, Draw3, Rp. -/
import Derived.Test.YthfpcebcfjlkmabRationalPowersG5
set_option linter.unusedSimpArgs false
set_option linter.unusedVariables false
namespace Go.Proofs.Ythfpcebcfjlkmab
open Go.RowKit
theorem bitn_is0 {x : Nat} : bitn x = 0 ↔ x = 0 := by
  constructor
  · intro h
    have := (bitn_le (x := x) (k := 0)).1 (by omega)
    omega
  · rintro rfl; rfl
theorem bitn_is1 {x : Nat} : bitn x = 1 ↔ x = 1 := by
  constructor
  · intro h
    have h1 := (bitn_le (x := x) (k := 1)).1 (by omega)
    have h2 := (bitn_lt (x := x) (k := 0)).1 (by omega)
    omega
  · rintro rfl; rfl
theorem mul_len {xa xb : List Nat} (ha : Lim xa) (hb : Lim xb) : (digs (nv xa * nv xb)).length ≤ xa.length + xb.length := by
  refine digs_len ?_
  rw [Nat.pow_add]
  exact Nat.mul_lt_mul_of_lt_of_le (nv_lt ha) (Nat.le_of_lt (nv_lt hb)) (Nat.pow_pos (by decide))
theorem div_len {xa : List Nat} (ha : Lim xa) (b : Nat) : (digs (nv xa / b)).length ≤ xa.length := digs_len (Nat.lt_of_le_of_lt (Nat.div_le_self _ _) (nv_lt ha))

theorem Mul2_c {w : World} {B : Nat} {A : Option Addr} {c : Nat} {Aa : Option Addr} {ma ca : Nat} {Ab : Option Addr} {mb cb : Nat} (hT : Rd B w 1 A 2 c [.slice Aa ma ca, .slice Ab mb cb]) {B2 : Nat} {xa xb : List Nat} (hN : NatsR B2 w [.slice Aa ma ca, .slice Ab mb cb] [xa, xb]) (hLa : Lim xa) (hLb : Lim xb) (hm : ma ≤ 33554432 ∧ mb ≤ 33554432) : Calls Try.prog 15 #[.slice A 2 c] w fun e w2 => ∃ v, e = .returned v ∧ (fun v w2 => ∃ A2 m2 c2, v = .slice A2 m2 c2 ∧ w.grownBy w2 none ∧ Own w.heap.size w2 43 1 A2 m2 c2 (us (digs (nv xa * nv xb))) ∧ m2 ≤ ma + mb) v w2 := by
  have h1 := (hN.at_ 0 (by simp)).2.ulen
  have h2 := (hN.at_ 1 (by simp)).2.ulen
  have h1' : xa.length = ma := h1
  have h2' : xb.length = mb := h2
  have hl : LimAll [xa, xb] := LimAll.cons hLa (LimAll.cons hLb LimAll.nil)
  have hk : LenAll 33554432 [xa, xb] := LenAll.cons (by omega) (LenAll.cons (by omega) (LenAll.nil _))
  refine (Mul_c hT hN hl 33554432 hk (by simp)).mono fun e w2 ⟨v, he, A2, m2, c2, hv, hg, ho, _⟩ => ⟨v, he, A2, m2, c2, hv, hg, ?_, ?_⟩
  · have e1 : prodN [xa, xb] = nv xa * nv xb := by simp
    rwa [e1] at ho
  · have h3 := ho.rd.ulen
    have e1 : prodN [xa, xb] = nv xa * nv xb := by simp
    rw [e1] at h3
    have h4 := mul_len hLa hLb
    omega

theorem nought_c {w : World} {Ba : Nat} {Aa : Option Addr} {ma ca : Nat} {xa : List Nat} (ha : Rd Ba w 1 Aa ma ca (us xa)) (hLa : Lim xa) (hs : ma ≤ 1099511627776) :
    Calls Try.prog 53 #[.slice Aa ma ca] w fun e w2 => ∃ v, e = .returned v ∧ (fun v w2 => ∃ b : Bool, v = .bool b ∧ w.grownBy w2 none ∧ (b = true → nv xa = 0) ∧ (b = false → nv xa ≠ 0)) v w2 := by
  have ha := ha.norm
  have ha_l := ha.ulen
  have ha_x := ha.max
  simp only [maxLen] at ha_x
  have ha_c := ha.cap
  have ha0 := ha
  have hb0 := @bitn_is0 (nv xa)
  have hB := ext_refl w
  refine calls_of_W (vs := [.slice Aa ma ca]) [2] Try.func53 rfl rfl rfl rfl ?_
  refine W.seq ?_
  refine W.region ?_
  refine WL.assign rfl rfl ?_
  refine WL.done ?_
  refine W.seq ?_
  refine W.region ?_
  refine WL.move rfl rfl ?_
  refine WL.call Try.func81 rfl Try.nm81 rfl rfl (Bits_c ha hLa (by omega)) ?_
  rintro _ w11 ⟨rfl, hGw11⟩
  have hB := ext_trans hB hGw11
  refine WL.eql rfl rfl rfl (fun hz => ?_) (fun hz => ?_)
  · refine WL.assign rfl rfl ?_
    refine WL.done ?_
    refine W.ret ?_
    refine ⟨_, rfl, ?_⟩
    exact ⟨true, rfl, hB, (fun _ => hb0.1 (by omega)), fun h => by cases h⟩
  · refine WL.assign rfl rfl ?_
    refine WL.done ?_
    refine W.ret ?_
    refine ⟨_, rfl, ?_⟩
    exact ⟨false, rfl, hB, (fun h => by cases h), fun _ => fun h => hz (by have := hb0.2 h; omega)⟩

theorem isOne_c {w : World} {Ba : Nat} {Aa : Option Addr} {ma ca : Nat} {xa : List Nat} (ha : Rd Ba w 1 Aa ma ca (us xa)) (hLa : Lim xa) (hs : ma ≤ 1099511627776) :
    Calls Try.prog 55 #[.slice Aa ma ca] w fun e w2 => ∃ v, e = .returned v ∧ (fun v w2 => ∃ b : Bool, v = .bool b ∧ w.grownBy w2 none ∧ (b = true → nv xa = 1) ∧ (b = false → nv xa ≠ 1)) v w2 := by
  have ha := ha.norm
  have ha_l := ha.ulen
  have ha_x := ha.max
  simp only [maxLen] at ha_x
  have ha_c := ha.cap
  have ha0 := ha
  have hb0 := @bitn_is1 (nv xa)
  have hB := ext_refl w
  refine calls_of_W (vs := [.slice Aa ma ca]) [2] Try.func55 rfl rfl rfl rfl ?_
  refine W.seq ?_
  refine W.region ?_
  refine WL.assign rfl rfl ?_
  refine WL.done ?_
  refine W.seq ?_
  refine W.region ?_
  refine WL.move rfl rfl ?_
  refine WL.call Try.func81 rfl Try.nm81 rfl rfl (Bits_c ha hLa (by omega)) ?_
  rintro _ w11 ⟨rfl, hGw11⟩
  have hB := ext_trans hB hGw11
  refine WL.eql rfl rfl rfl (fun hz => ?_) (fun hz => ?_)
  · refine WL.assign rfl rfl ?_
    refine WL.done ?_
    refine W.ret ?_
    refine ⟨_, rfl, ?_⟩
    exact ⟨true, rfl, hB, (fun _ => hb0.1 (by omega)), fun h => by cases h⟩
  · refine WL.assign rfl rfl ?_
    refine WL.done ?_
    refine W.ret ?_
    refine ⟨_, rfl, ?_⟩
    exact ⟨false, rfl, hB, (fun h => by cases h), fun _ => fun h => hz (by have := hb0.2 h; omega)⟩

theorem isZero_c {w : World} {Ban : Nat} {Aan : Option Addr} {man can : Nat} {xan : List Nat} (han : Rd Ban w 1 Aan man can (us xan)) {Bad : Nat} {Aad : Option Addr} {mad cad : Nat} {xad : List Nat} (had : Rd Bad w 1 Aad mad cad (us xad)) {na : Bool} (hLan : Lim xan) (hLad : Lim xad) (qa : Rat) (hqa : val na (nv xan) (nv xad) = qa) (hsa : man ≤ 4194304 ∧ mad ≤ 4194304) :
    Calls Try.prog 50 #[.agg #[.bool na, .slice Aan man can, .slice Aad mad cad]] w fun e w2 => ∃ v, e = .returned v ∧ (fun v w2 => ∃ b : Bool, v = .bool b ∧ w.grownBy w2 none ∧ (b = true → qa = 0) ∧ (b = false → nv xan ≠ 0 ∧ nv xad ≠ 0)) v w2 := by
  have han := han.norm
  have han_l := han.ulen
  have han_x := han.max
  simp only [maxLen] at han_x
  have han_c := han.cap
  have had := had.norm
  have had_l := had.ulen
  have had_x := had.max
  simp only [maxLen] at had_x
  have had_c := had.cap
  have han0 := han
  have had0 := had
  have hB := ext_refl w
  refine calls_of_W (vs := [.agg #[.bool na, .slice Aan man can, .slice Aad mad cad]]) [2] Try.func50 rfl rfl rfl rfl ?_
  refine W.seq ?_
  refine W.region ?_
  refine WL.box Try.el31 rfl rfl rfl ?_
  intro g11 w12 hg_g11 hVg11 hGw12
  change Own _ _ _ _ _ _ _ [.bool na, .slice Aan man can, .slice Aad mad cad] at hVg11
  have hVg11 := hVg11.low (b' := w.heap.size) hB.size
  have hB := ext_trans hB hGw12
  have han := han0.ext hB
  have had := had0.ext hB
  refine WL.assign rfl rfl ?_
  refine WL.done ?_
  refine W.seq ?_
  refine W.region ?_
  refine WL.fieldA (off := 1) Try.fla31_1 rfl rfl ?_
  refine WL.load Try.underlying23 rfl rfl (hVg11.vcells 1 _ rfl) rfl ?_
  refine WL.call Try.func53 rfl Try.nm53 rfl rfl (nought_c han hLan (by omega)) ?_
  rintro _ w13 ⟨bz1, rfl, hGw13, z1_t, z1_f⟩
  have hB := ext_trans hB hGw13
  have had := had0.ext hB
  have hVg11 := hVg11.ext hGw13
  rcases bz1 with _ | _
  · have z1 := z1_f rfl
    refine WL.move rfl rfl ?_
    refine WL.take rfl ?_
    refine WL.fieldA (off := 2) Try.fla31_2 rfl rfl ?_
    refine WL.take rfl ?_
    refine WL.load Try.underlying23 rfl rfl (hVg11.vcells 2 _ rfl) rfl ?_
    refine WL.take rfl ?_
    refine WL.call Try.func53 rfl Try.nm53 rfl rfl (nought_c had hLad (by omega)) ?_
    rintro _ w14 ⟨bz2, rfl, hGw14, z2_t, z2_f⟩
    have hB := ext_trans hB hGw14
    rcases bz2 with _ | _
    · have z2 := z2_f rfl
      refine WL.pick rfl rfl rfl ?_
      refine WL.assign rfl rfl ?_
      refine WL.done ?_
      refine W.ret ?_
      refine ⟨_, rfl, ?_⟩
      exact ⟨false, rfl, hB, (fun h => by cases h), fun _ => ⟨z1, z2⟩⟩
    · have z2 := z2_t rfl
      refine WL.pick rfl rfl rfl ?_
      refine WL.assign rfl rfl ?_
      refine WL.done ?_
      refine W.ret ?_
      refine ⟨_, rfl, ?_⟩
      exact ⟨true, rfl, hB, (fun _ => by rw [← hqa, z2]; exact val_d0 _ _), fun h => by cases h⟩
  · have z1 := z1_t rfl
    refine WL.move rfl rfl ?_
    refine WL.pass rfl rfl rfl ?_
    refine WL.pass rfl rfl rfl ?_
    refine WL.pass rfl rfl rfl ?_
    refine WL.pick rfl rfl rfl ?_
    refine WL.assign rfl rfl ?_
    refine WL.done ?_
    refine W.ret ?_
    refine ⟨_, rfl, ?_⟩
    exact ⟨true, rfl, hB, (fun _ => by rw [← hqa, z1]; exact val_n0 _ _), fun h => by cases h⟩

theorem one_c {w : World} :
    Calls Try.prog 66 #[] w fun e w2 => ∃ v, e = .returned v ∧ (fun v w2 => ∃ A2 m2 c2, v = .slice A2 m2 c2 ∧ w.grownBy w2 none ∧ Own w.heap.size w2 43 1 A2 m2 c2 (us (digs 1)) ∧ m2 = 1) v w2 := by
  have hB := ext_refl w
  refine calls_of_W (vs := []) [0] Try.func66 rfl rfl rfl rfl ?_
  refine W.seq ?_
  refine W.region ?_
  refine WL.assign rfl rfl ?_
  refine WL.done ?_
  refine W.seq ?_
  refine W.region ?_
  refine WL.lit1 (b := w.heap.size) Try.underlying23 Try.el43 rfl rfl rfl rfl (by intro v hv; simp only [List.mem_cons, List.not_mem_nil, or_false] at hv; rcases hv with rfl <;> rfl) (Nat.le_refl _) rfl ?_
  rintro A11 w12 - hO13 hGw12
  have hO13 := hO13.low (b' := w.heap.size) hB.size
  have hB := ext_trans hB hGw12
  change Own _ _ _ _ _ _ _ (us [1]) at hO13
  refine WL.assign rfl rfl ?_
  refine WL.done ?_
  refine W.ret ?_
  refine ⟨_, rfl, ?_⟩
  rw [show digs 1 = [1] from by decide]
  exact ⟨_, _, _, rfl, hB, hO13, rfl⟩

theorem zero_c {w : World} :
    Calls Try.prog 51 #[] w fun e w2 => ∃ v, e = .returned v ∧ (fun v w2 => ∃ A2 m2 c2 A3 m3 c3, v = .agg #[.bool (qneg ((0 : Rat))), .slice A2 m2 c2, .slice A3 m3 c3] ∧ w.grownBy w2 none ∧ Own w.heap.size w2 43 1 A2 m2 c2 (us (digs (qnum ((0 : Rat))))) ∧ Own w.heap.size w2 43 1 A3 m3 c3 (us (digs (Rat.den ((0 : Rat))))) ∧ m2 = 0 ∧ m3 = 1) v w2 := by
  have hB := ext_refl w
  refine calls_of_Wc (vs := []) [.cell 0 31] Try.func51 rfl rfl rfl rfl ?_
  refine W.seq ?_
  refine W.region ?_
  refine WL.alloc Try.el31 rfl ?_
  intro g11 w12 hg_g11 hVg11 hGw12
  change Own _ _ _ _ _ _ _ [.bool false, .slice none 0 0, .slice none 0 0] at hVg11
  have hVg11 := hVg11.low (b' := w.heap.size) hB.size
  have hB := ext_trans hB hGw12
  refine WL.done ?_
  refine W.seq ?_
  refine W.region ?_
  refine WL.call Try.func66 rfl Try.nm66 rfl rfl (one_c) ?_
  rintro _ w13 ⟨A14, m15, c16, rfl, hGw13, h1, h1m⟩
  have hap_h1_g11 := ap_new h1 (hVg11.bl_ge _ rfl).2
  have h1 := h1.low (b' := w.heap.size) hB.size
  have hB := ext_trans hB hGw13
  have hVg11 := hVg11.ext hGw13
  have h1_l := h1.rd.ulen
  refine WL.build (cells := #[.bool false, .slice none 0 0, .slice A14 m15 c16]) Try.bld31 rfl rfl rfl ?_
  refine WL.storeV Try.el31 rfl rfl rfl rfl hVg11 ?_
  have hOld18 := hVg11
  intro w17 hVg11 hGw17
  change Own _ _ _ _ _ _ _ [.bool false, .slice none 0 0, .slice A14 m15 c16] at hVg11
  have hB := ext_own hB hGw17 (fun g hg => (hOld18.bl_ge g hg).1)
  have h1 := h1.grown hGw17 (ap_row (by first | exact hap_h1_g11 | exact ap_type h1 hOld18 (by decide)))
  refine WL.done ?_
  refine W.ret ?_
  refine ⟨[.agg #[.bool false, .slice none 0 0, .slice A14 m15 c16]], ⟨_, _, _, rfl, rfl, run_loadV (cs := [.bool false, .slice none 0 0, .slice A14 m15 c16]) Try.el31 Try.agg31 rfl hVg11.vcells, rfl⟩, ?_⟩
  exact ⟨none, 0, 0, _, _, _, rfl, hB, World.ownsRow_nil _ _ _ _, h1, by omega⟩

theorem quo_c {w : World} {Ba : Nat} {Aa : Option Addr} {ma ca : Nat} {xa : List Nat} (ha : Rd Ba w 1 Aa ma ca (us xa)) {Bb : Nat} {Ab : Option Addr} {mb cb : Nat} {xb : List Nat} (hb : Rd Bb w 1 Ab mb cb (us xb)) (hLa : Lim xa) (hLb : Lim xb) (hb0z : nv xb ≠ 0) (hsa : ma ≤ 33554432) (hsb : mb ≤ 33554432) :
    Calls Try.prog 80 #[.slice Aa ma ca, .slice Ab mb cb] w fun e w2 => ∃ v, e = .returned v ∧ (fun v w2 => ∃ A2 m2 c2, v = .slice A2 m2 c2 ∧ w.grownBy w2 none ∧ Own w.heap.size w2 43 1 A2 m2 c2 (us (digs (nv xa / nv xb))) ∧ m2 ≤ ma) v w2 := by
  have ha := ha.norm
  have ha_l := ha.ulen
  have ha_x := ha.max
  simp only [maxLen] at ha_x
  have ha_c := ha.cap
  have hb := hb.norm
  have hb_l := hb.ulen
  have hb_x := hb.max
  simp only [maxLen] at hb_x
  have hb_c := hb.cap
  have ha0 := ha
  have hb0 := hb
  have hdl := div_len hLa (nv xb)
  have hB := ext_refl w
  refine calls_of_W (vs := [.slice Aa ma ca, .slice Ab mb cb]) [4] Try.func80 rfl rfl rfl rfl ?_
  refine W.seq ?_
  refine W.region ?_
  refine WL.assign rfl rfl ?_
  refine WL.done ?_
  refine W.seq ?_
  refine W.seq ?_
  refine W.region ?_
  refine WL.move rfl rfl ?_
  refine WL.call Try.func55 rfl Try.nm55 rfl rfl (isOne_c hb hLb (by omega)) ?_
  rintro _ w11 ⟨bz, rfl, hGw11, z_t, z_f⟩
  have hB := ext_trans hB hGw11
  have ha := ha0.ext hB
  have hb := hb0.ext hB
  rcases bz with _ | _
  · have z := z_f rfl
    refine WL.done ?_
    refine W.condF rfl ?_
    refine W.skip ?_
    refine W.seq ?_
    refine W.region ?_
    refine WL.move rfl rfl ?_
    refine WL.move rfl rfl ?_
    refine WL.call Try.func83 rfl Try.nm83 rfl rfl (DivMod_ok ha hb hLa hLb (by omega) (by omega)) ?_
    rintro _ w12 ⟨A13, m14, cp15, A16, m17, cp18, rfl, hGw12, hdq, hdr, hm19, hm20⟩
    have hdq := hdq.low (b' := w.heap.size) hB.size
    have hdr := hdr.low (b' := w.heap.size) hB.size
    have hB := ext_trans hB hGw12
    have hdq_l := hdq.rd.ulen
    have hdr_l := hdr.rd.ulen
    refine WL.move rfl rfl ?_
    refine WL.extract rfl rfl rfl ?_
    refine WL.extract rfl rfl rfl ?_
    refine WL.extract rfl rfl rfl ?_
    refine WL.assign rfl rfl ?_
    refine WL.assign rfl rfl ?_
    refine WL.assign rfl rfl ?_
    refine WL.done ?_
    refine W.seq ?_
    refine W.region ?_
    refine WL.move rfl rfl ?_
    refine WL.assign rfl rfl ?_
    refine WL.done ?_
    refine W.ret ?_
    refine ⟨_, rfl, ?_⟩
    have := hdq.rd.ulen
    exact ⟨_, _, _, rfl, hB, hdq, by omega⟩
  · have z := z_t rfl
    refine WL.done ?_
    refine W.condT rfl ?_
    refine W.seq ?_
    refine W.region ?_
    refine WL.move rfl rfl ?_
    refine WL.call Try.func46 rfl Try.nm46 rfl rfl (Trim_c ha (by omega)) ?_
    rintro _ w21 ⟨A22, m23, cp24, rfl, hGw21, hO, hm25⟩
    have hO := hO.low (b' := w.heap.size) hB.size
    have hB := ext_trans hB hGw21
    have hO_l := hO.rd.ulen
    refine WL.assign rfl rfl ?_
    refine WL.done ?_
    refine W.ret ?_
    refine ⟨_, rfl, ?_⟩
    rw [digs_trim hLa] at hO
    rw [z, Nat.div_one] at hdl ⊢
    have := hO.rd.ulen
    exact ⟨_, _, _, rfl, hB, hO, by omega⟩

theorem red_c {w : World} {Bn : Nat} {An : Option Addr} {mn cn : Nat} {xn : List Nat} (hn : Rd Bn w 1 An mn cn (us xn)) {Bd : Nat} {Ad : Option Addr} {md cd : Nat} {xd : List Nat} (hd : Rd Bd w 1 Ad md cd (us xd)) {ne : Bool} (hLn : Lim xn) (hLd : Lim xd) (hn0z : nv xn ≠ 0) (hd0z : nv xd ≠ 0) (hsn : mn ≤ 33554432) (hsd : md ≤ 33554432) :
    Calls Try.prog 52 #[.bool ne, .slice An mn cn, .slice Ad md cd] w fun e w2 => ∃ v, e = .returned v ∧ (fun v w2 => ∃ A2 m2 c2 A3 m3 c3, v = .agg #[.bool (qneg (val ne (nv xn) (nv xd))), .slice A2 m2 c2, .slice A3 m3 c3] ∧ w.grownBy w2 none ∧ Own w.heap.size w2 43 1 A2 m2 c2 (us (digs (qnum (val ne (nv xn) (nv xd))))) ∧ Own w.heap.size w2 43 1 A3 m3 c3 (us (digs (Rat.den (val ne (nv xn) (nv xd))))) ∧ m2 ≤ mn ∧ m3 ≤ md) v w2 := by
  have hn := hn.norm
  have hn_l := hn.ulen
  have hn_x := hn.max
  simp only [maxLen] at hn_x
  have hn_c := hn.cap
  have hd := hd.norm
  have hd_l := hd.ulen
  have hd_x := hd.max
  simp only [maxLen] at hd_x
  have hd_c := hd.cap
  have hn0 := hn
  have hd0 := hd
  have hB := ext_refl w
  refine calls_of_Wc (vs := [.bool ne, .slice An mn cn, .slice Ad md cd]) [.cell 6 31] Try.func52 rfl rfl rfl rfl ?_
  refine W.seq ?_
  refine W.region ?_
  refine WL.alloc Try.el31 rfl ?_
  intro g11 w12 hg_g11 hVg11 hGw12
  change Own _ _ _ _ _ _ _ [.bool false, .slice none 0 0, .slice none 0 0] at hVg11
  have hVg11 := hVg11.low (b' := w.heap.size) hB.size
  have hB := ext_trans hB hGw12
  have hn := hn0.ext hB
  have hd := hd0.ext hB
  refine WL.done ?_
  refine W.seq ?_
  refine W.region ?_
  refine WL.move rfl rfl ?_
  refine WL.move rfl rfl ?_
  refine WL.call Try.func56 rfl Try.nm56 rfl rfl (Gcd_c hn hd hLn hLd (by omega) (by omega)) ?_
  rintro _ w13 ⟨A14, m15, cp16, rfl, hGw13, hg, hm17⟩
  have hg := hg.low (b' := w.heap.size) hB.size
  have hB := ext_trans hB hGw13
  have hn := hn0.ext hB
  have hd := hd0.ext hB
  have hVg11 := hVg11.ext hGw13
  have hg_l := hg.rd.ulen
  have hgp : 0 < Nat.gcd (nv xn) (nv xd) := Nat.gcd_pos_of_pos_left _ (by omega)
  have hgv := nv_digs (Nat.gcd (nv xn) (nv xd))
  refine WL.assign rfl rfl ?_
  refine WL.done ?_
  refine W.seq ?_
  refine W.region ?_
  refine WL.move rfl rfl ?_
  refine WL.move rfl rfl ?_
  refine WL.move rfl rfl ?_
  refine WL.call Try.func80 rfl Try.nm80 rfl rfl (quo_c hn hg.rd hLn (digs_lim _) (by omega) (by omega) (by omega)) ?_
  rintro _ w18 ⟨A19, m20, c21, rfl, hGw18, h1, h1m⟩
  have hap_h1_g11 := ap_new h1 (hVg11.bl_ge _ rfl).2
  have h1 := h1.low (b' := w.heap.size) hB.size
  have hB := ext_trans hB hGw18
  have hd := hd0.ext hB
  have hVg11 := hVg11.ext hGw18
  have hg := hg.ext hGw18
  have h1_l := h1.rd.ulen
  refine WL.move rfl rfl ?_
  refine WL.move rfl rfl ?_
  refine WL.call Try.func80 rfl Try.nm80 rfl rfl (quo_c hd hg.rd hLd (digs_lim _) (by omega) (by omega) (by omega)) ?_
  rintro _ w22 ⟨A23, m24, c25, rfl, hGw22, h2, h2m⟩
  have hap_h2_g11 := ap_new h2 (hVg11.bl_ge _ rfl).2
  have h2 := h2.low (b' := w.heap.size) hB.size
  have hB := ext_trans hB hGw22
  have hVg11 := hVg11.ext hGw22
  have hg := hg.ext hGw22
  have h1 := h1.ext hGw22
  have h2_l := h2.rd.ulen
  refine WL.build (cells := #[.bool ne, .slice A19 m20 c21, .slice A23 m24 c25]) Try.bld31 rfl rfl rfl ?_
  refine WL.storeV Try.el31 rfl rfl rfl rfl hVg11 ?_
  have hOld27 := hVg11
  intro w26 hVg11 hGw26
  change Own _ _ _ _ _ _ _ [.bool ne, .slice A19 m20 c21, .slice A23 m24 c25] at hVg11
  have hB := ext_own hB hGw26 (fun g hg => (hOld27.bl_ge g hg).1)
  have h1 := h1.grown hGw26 (ap_row (by first | exact hap_h1_g11 | exact ap_type h1 hOld27 (by decide)))
  have h2 := h2.grown hGw26 (ap_row (by first | exact hap_h2_g11 | exact ap_type h2 hOld27 (by decide)))
  refine WL.done ?_
  refine W.ret ?_
  refine ⟨[.agg #[.bool ne, .slice A19 m20 c21, .slice A23 m24 c25]], ⟨_, _, _, rfl, rfl, run_loadV (cs := [.bool ne, .slice A19 m20 c21, .slice A23 m24 c25]) Try.el31 Try.agg31 rfl hVg11.vcells, rfl⟩, ?_⟩
  rw [nv_digs] at h1 h2
  rw [val_qneg hn0z hd0z, val_qnum hd0z, val_den hd0z]
  exact ⟨_, _, _, _, _, _, rfl, hB, h1, h2, by omega⟩

theorem qTrim_c {w : World} {Ban : Nat} {Aan : Option Addr} {man can : Nat} {xan : List Nat} (han : Rd Ban w 1 Aan man can (us xan)) {Bad : Nat} {Aad : Option Addr} {mad cad : Nat} {xad : List Nat} (had : Rd Bad w 1 Aad mad cad (us xad)) {na : Bool} (hLan : Lim xan) (hLad : Lim xad) (qa : Rat) (hqa : val na (nv xan) (nv xad) = qa) (hsa : man ≤ 4194304 ∧ mad ≤ 4194304) :
    Calls Try.prog 19 #[.agg #[.bool na, .slice Aan man can, .slice Aad mad cad]] w fun e w2 => ∃ v, e = .returned v ∧ (fun v w2 => ∃ A2 m2 c2 A3 m3 c3, v = .agg #[.bool (qneg (qa)), .slice A2 m2 c2, .slice A3 m3 c3] ∧ w.grownBy w2 none ∧ Own w.heap.size w2 43 1 A2 m2 c2 (us (digs (qnum (qa)))) ∧ Own w.heap.size w2 43 1 A3 m3 c3 (us (digs (Rat.den (qa)))) ∧ m2 ≤ man ∧ m3 ≤ mad + 1) v w2 := by
  have han := han.norm
  have han_l := han.ulen
  have han_x := han.max
  simp only [maxLen] at han_x
  have han_c := han.cap
  have had := had.norm
  have had_l := had.ulen
  have had_x := had.max
  simp only [maxLen] at had_x
  have had_c := had.cap
  have han0 := han
  have had0 := had
  have hB := ext_refl w
  refine calls_of_Wc (vs := [.agg #[.bool na, .slice Aan man can, .slice Aad mad cad]]) [.cell 2 31] Try.func19 rfl rfl rfl rfl ?_
  refine W.seq ?_
  refine W.region ?_
  refine WL.box Try.el31 rfl rfl rfl ?_
  intro g11 w12 hg_g11 hVg11 hGw12
  change Own _ _ _ _ _ _ _ [.bool na, .slice Aan man can, .slice Aad mad cad] at hVg11
  have hVg11 := hVg11.low (b' := w.heap.size) hB.size
  have hB := ext_trans hB hGw12
  have han := han0.ext hB
  have had := had0.ext hB
  refine WL.alloc Try.el31 rfl ?_
  intro g13 w14 hg_g13 hVg13 hGw14
  change Own _ _ _ _ _ _ _ [.bool false, .slice none 0 0, .slice none 0 0] at hVg13
  have hlt_g11_g13 : g11 < g13 := by rw [hg_g13]; exact (hVg11.bl_ge _ rfl).2
  have hVg13 := hVg13.low (b' := w.heap.size) hB.size
  have hB := ext_trans hB hGw14
  have han := han0.ext hB
  have had := had0.ext hB
  have hVg11 := hVg11.ext hGw14
  refine WL.done ?_
  refine W.seq ?_
  refine W.seq ?_
  refine W.region ?_
  refine WL.loadV (cs := [.bool na, .slice Aan man can, .slice Aad mad cad]) Try.el31 Try.agg31 rfl rfl hVg11.vcells rfl ?_
  refine WL.call Try.func50 rfl Try.nm50 rfl rfl (isZero_c han had hLan hLad qa hqa (by omega)) ?_
  rintro _ w15 ⟨bz, rfl, hGw15, z_t, z_f⟩
  have hB := ext_trans hB hGw15
  have han := han0.ext hB
  have had := had0.ext hB
  have hVg11 := hVg11.ext hGw15
  have hVg13 := hVg13.ext hGw15
  rcases bz with _ | _
  · have z := z_f rfl
    refine WL.done ?_
    refine W.condF rfl ?_
    refine W.skip ?_
    refine W.seq ?_
    refine W.region ?_
    refine WL.fieldA (off := 0) Try.fla31_0 rfl rfl ?_
    refine WL.load Try.underlying4 rfl rfl (hVg11.vcells 0 _ rfl) rfl ?_
    refine WL.fieldA (off := 1) Try.fla31_1 rfl rfl ?_
    refine WL.load Try.underlying23 rfl rfl (hVg11.vcells 1 _ rfl) rfl ?_
    refine WL.fieldA (off := 2) Try.fla31_2 rfl rfl ?_
    refine WL.load Try.underlying23 rfl rfl (hVg11.vcells 2 _ rfl) rfl ?_
    refine WL.call Try.func52 rfl Try.nm52 rfl rfl (red_c han had hLan hLad (by omega) (by omega) (by omega) (by omega)) ?_
    rintro _ w16 ⟨A17, m18, c19, A20, m21, c22, rfl, hGw16, hrn, hrd, hrm⟩
    have hap_hrn_g13 := ap_new hrn (hVg13.bl_ge _ rfl).2
    have hap_hrd_g13 := ap_new hrd (hVg13.bl_ge _ rfl).2
    have hrn := hrn.low (b' := w.heap.size) hB.size
    have hrd := hrd.low (b' := w.heap.size) hB.size
    have hB := ext_trans hB hGw16
    have hVg13 := hVg13.ext hGw16
    have hrn_l := hrn.rd.ulen
    have hrd_l := hrd.rd.ulen
    refine WL.storeV Try.el31 rfl rfl rfl rfl hVg13 ?_
    have hOld24 := hVg13
    intro w23 hVg13 hGw23
    change Own _ _ _ _ _ _ _ [.bool (qneg (val na (nv xan) (nv xad))), .slice A17 m18 c19, .slice A20 m21 c22] at hVg13
    have hB := ext_own hB hGw23 (fun g hg => (hOld24.bl_ge g hg).1)
    have hrn := hrn.grown hGw23 (ap_row (by first | exact hap_hrn_g13 | exact ap_type hrn hOld24 (by decide)))
    have hrd := hrd.grown hGw23 (ap_row (by first | exact hap_hrd_g13 | exact ap_type hrd hOld24 (by decide)))
    refine WL.done ?_
    refine W.ret ?_
    refine ⟨[.agg #[.bool (qneg (val na (nv xan) (nv xad))), .slice A17 m18 c19, .slice A20 m21 c22]], ⟨_, _, _, rfl, rfl, run_loadV (cs := [.bool (qneg (val na (nv xan) (nv xad))), .slice A17 m18 c19, .slice A20 m21 c22]) Try.el31 Try.agg31 rfl hVg13.vcells, rfl⟩, ?_⟩
    rw [← hqa]
    exact ⟨_, _, _, _, _, _, rfl, hB, hrn, hrd, by omega⟩
  · have z := z_t rfl
    refine WL.done ?_
    refine W.condT rfl ?_
    refine W.seq ?_
    refine W.region ?_
    refine WL.call Try.func51 rfl Try.nm51 rfl rfl (zero_c) ?_
    rintro _ w25 ⟨A26, m27, c28, A29, m30, c31, rfl, hGw25, hzn, hzd, hzm⟩
    have hap_hzn_g13 := ap_new hzn (hVg13.bl_ge _ rfl).2
    have hap_hzd_g13 := ap_new hzd (hVg13.bl_ge _ rfl).2
    have hzn := hzn.low (b' := w.heap.size) hB.size
    have hzd := hzd.low (b' := w.heap.size) hB.size
    have hB := ext_trans hB hGw25
    have hVg13 := hVg13.ext hGw25
    have hzn_l := hzn.rd.ulen
    have hzd_l := hzd.rd.ulen
    refine WL.storeV Try.el31 rfl rfl rfl rfl hVg13 ?_
    have hOld33 := hVg13
    intro w32 hVg13 hGw32
    change Own _ _ _ _ _ _ _ [.bool (qneg ((0 : Rat))), .slice A26 m27 c28, .slice A29 m30 c31] at hVg13
    have hB := ext_own hB hGw32 (fun g hg => (hOld33.bl_ge g hg).1)
    have hzn := hzn.grown hGw32 (ap_row (by first | exact hap_hzn_g13 | exact ap_type hzn hOld33 (by decide)))
    have hzd := hzd.grown hGw32 (ap_row (by first | exact hap_hzd_g13 | exact ap_type hzd hOld33 (by decide)))
    refine WL.done ?_
    refine W.ret ?_
    refine ⟨[.agg #[.bool (qneg ((0 : Rat))), .slice A26 m27 c28, .slice A29 m30 c31]], ⟨_, _, _, rfl, rfl, run_loadV (cs := [.bool (qneg ((0 : Rat))), .slice A26 m27 c28, .slice A29 m30 c31]) Try.el31 Try.agg31 rfl hVg13.vcells, rfl⟩, ?_⟩
    rw [z]
    exact ⟨_, _, _, _, _, _, rfl, hB, hzn, hzd, by omega⟩

theorem qneg_val {n : Bool} {x y : Nat} {q : Rat} (h : val n x y = q) (hx : x ≠ 0) (hy : y ≠ 0) : qneg q = n ∧ q ≠ 0 := by
  subst h; exact ⟨val_qneg hx hy, val_ne hx hy⟩

theorem qSign_c {w : World} {Ban : Nat} {Aan : Option Addr} {man can : Nat} {xan : List Nat} (han : Rd Ban w 1 Aan man can (us xan)) {Bad : Nat} {Aad : Option Addr} {mad cad : Nat} {xad : List Nat} (had : Rd Bad w 1 Aad mad cad (us xad)) {na : Bool} (hLan : Lim xan) (hLad : Lim xad) (qa : Rat) (hqa : val na (nv xan) (nv xad) = qa) (hsa : man ≤ 4194304 ∧ mad ≤ 4194304) :
    Calls Try.prog 23 #[.agg #[.bool na, .slice Aan man can, .slice Aad mad cad]] w fun e w2 => ∃ v, e = .returned v ∧ (fun v w2 => v = .int .i64 (sg qa) ∧ w.grownBy w2 none) v w2 := by
  have han := han.norm
  have han_l := han.ulen
  have han_x := han.max
  simp only [maxLen] at han_x
  have han_c := han.cap
  have had := had.norm
  have had_l := had.ulen
  have had_x := had.max
  simp only [maxLen] at had_x
  have had_c := had.cap
  have han0 := han
  have had0 := had
  have hB := ext_refl w
  refine calls_of_W (vs := [.agg #[.bool na, .slice Aan man can, .slice Aad mad cad]]) [2] Try.func23 rfl rfl rfl rfl ?_
  refine W.seq ?_
  refine W.region ?_
  refine WL.box Try.el31 rfl rfl rfl ?_
  intro g11 w12 hg_g11 hVg11 hGw12
  change Own _ _ _ _ _ _ _ [.bool na, .slice Aan man can, .slice Aad mad cad] at hVg11
  have hVg11 := hVg11.low (b' := w.heap.size) hB.size
  have hB := ext_trans hB hGw12
  have han := han0.ext hB
  have had := had0.ext hB
  refine WL.assign rfl rfl ?_
  refine WL.done ?_
  refine W.seq ?_
  refine W.seq ?_
  refine W.region ?_
  refine WL.loadV (cs := [.bool na, .slice Aan man can, .slice Aad mad cad]) Try.el31 Try.agg31 rfl rfl hVg11.vcells rfl ?_
  refine WL.call Try.func50 rfl Try.nm50 rfl rfl (isZero_c han had hLan hLad qa hqa (by omega)) ?_
  rintro _ w13 ⟨bz, rfl, hGw13, z_t, z_f⟩
  have hB := ext_trans hB hGw13
  have hVg11 := hVg11.ext hGw13
  rcases bz with _ | _
  · have z := z_f rfl
    refine WL.done ?_
    refine W.condF rfl ?_
    refine W.skip ?_
    refine W.seq ?_
    refine W.seq ?_
    refine W.region ?_
    refine WL.fieldA (off := 0) Try.fla31_0 rfl rfl ?_
    refine WL.load Try.underlying4 rfl rfl (hVg11.vcells 0 _ rfl) rfl ?_
    refine WL.done ?_
    refine W.cond2 rfl (fun c14 => ?_) (fun c14 => ?_)
    · skip
      refine W.seq ?_
      refine W.region ?_
      refine WL.assign rfl rfl ?_
      refine WL.done ?_
      refine W.ret ?_
      refine ⟨_, rfl, ?_⟩
      obtain ⟨e1, e2⟩ := qneg_val hqa z.1 z.2
      rw [sg_neg (by rw [e1]; assumption)]; exact ⟨rfl, hB⟩
    · skip
      refine W.skip ?_
      refine W.seq ?_
      refine W.region ?_
      refine WL.assign rfl rfl ?_
      refine WL.done ?_
      refine W.ret ?_
      refine ⟨_, rfl, ?_⟩
      obtain ⟨e1, e2⟩ := qneg_val hqa z.1 z.2
      rw [sg_pos (by rw [e1]; assumption) e2]; exact ⟨rfl, hB⟩
  · have z := z_t rfl
    refine WL.done ?_
    refine W.condT rfl ?_
    refine W.seq ?_
    refine W.region ?_
    refine WL.assign rfl rfl ?_
    refine WL.done ?_
    refine W.ret ?_
    refine ⟨_, rfl, ?_⟩
    rw [sg_zero.2 z]; exact ⟨rfl, hB⟩

theorem prod_c {w : World} {Ban : Nat} {Aan : Option Addr} {man can : Nat} {xan : List Nat} (han : Rd Ban w 1 Aan man can (us xan)) {Bad : Nat} {Aad : Option Addr} {mad cad : Nat} {xad : List Nat} (had : Rd Bad w 1 Aad mad cad (us xad)) {Bbn : Nat} {Abn : Option Addr} {mbn cbn : Nat} {xbn : List Nat} (hbn : Rd Bbn w 1 Abn mbn cbn (us xbn)) {Bbd : Nat} {Abd : Option Addr} {mbd cbd : Nat} {xbd : List Nat} (hbd : Rd Bbd w 1 Abd mbd cbd (us xbd)) {na : Bool} (hLan : Lim xan) (hLad : Lim xad) (qa : Rat) (hqa : val na (nv xan) (nv xad) = qa) {nb : Bool} (hLbn : Lim xbn) (hLbd : Lim xbd) (qb : Rat) (hqb : val nb (nv xbn) (nv xbd) = qb) (hsa : man ≤ 4194304 ∧ mad ≤ 4194304) (hsb : mbn ≤ 4194304 ∧ mbd ≤ 4194304) :
    Calls Try.prog 67 #[.agg #[.bool na, .slice Aan man can, .slice Aad mad cad], .agg #[.bool nb, .slice Abn mbn cbn, .slice Abd mbd cbd]] w fun e w2 => ∃ v, e = .returned v ∧ (fun v w2 => ∃ A2 m2 c2 A3 m3 c3, v = .agg #[.bool (qneg (qa * qb)), .slice A2 m2 c2, .slice A3 m3 c3] ∧ w.grownBy w2 none ∧ Own w.heap.size w2 43 1 A2 m2 c2 (us (digs (qnum (qa * qb)))) ∧ Own w.heap.size w2 43 1 A3 m3 c3 (us (digs (Rat.den (qa * qb)))) ∧ m2 ≤ man + mbn ∧ m3 ≤ mad + mbd + 1) v w2 := by
  have han := han.norm
  have han_l := han.ulen
  have han_x := han.max
  simp only [maxLen] at han_x
  have han_c := han.cap
  have had := had.norm
  have had_l := had.ulen
  have had_x := had.max
  simp only [maxLen] at had_x
  have had_c := had.cap
  have hbn := hbn.norm
  have hbn_l := hbn.ulen
  have hbn_x := hbn.max
  simp only [maxLen] at hbn_x
  have hbn_c := hbn.cap
  have hbd := hbd.norm
  have hbd_l := hbd.ulen
  have hbd_x := hbd.max
  simp only [maxLen] at hbd_x
  have hbd_c := hbd.cap
  have han0 := han
  have had0 := had
  have hbn0 := hbn
  have hbd0 := hbd
  have hB := ext_refl w
  refine calls_of_Wc (vs := [.agg #[.bool na, .slice Aan man can, .slice Aad mad cad], .agg #[.bool nb, .slice Abn mbn cbn, .slice Abd mbd cbd]]) [.cell 4 31] Try.func67 rfl rfl rfl rfl ?_
  refine W.seq ?_
  refine W.region ?_
  refine WL.box Try.el31 rfl rfl rfl ?_
  intro g11 w12 hg_g11 hVg11 hGw12
  change Own _ _ _ _ _ _ _ [.bool na, .slice Aan man can, .slice Aad mad cad] at hVg11
  have hVg11 := hVg11.low (b' := w.heap.size) hB.size
  have hB := ext_trans hB hGw12
  have han := han0.ext hB
  have had := had0.ext hB
  have hbn := hbn0.ext hB
  have hbd := hbd0.ext hB
  refine WL.box Try.el31 rfl rfl rfl ?_
  intro g13 w14 hg_g13 hVg13 hGw14
  change Own _ _ _ _ _ _ _ [.bool nb, .slice Abn mbn cbn, .slice Abd mbd cbd] at hVg13
  have hlt_g11_g13 : g11 < g13 := by rw [hg_g13]; exact (hVg11.bl_ge _ rfl).2
  have hVg13 := hVg13.low (b' := w.heap.size) hB.size
  have hB := ext_trans hB hGw14
  have han := han0.ext hB
  have had := had0.ext hB
  have hbn := hbn0.ext hB
  have hbd := hbd0.ext hB
  have hVg11 := hVg11.ext hGw14
  refine WL.alloc Try.el31 rfl ?_
  intro g15 w16 hg_g15 hVg15 hGw16
  change Own _ _ _ _ _ _ _ [.bool false, .slice none 0 0, .slice none 0 0] at hVg15
  have hlt_g11_g15 : g11 < g15 := by rw [hg_g15]; exact (hVg11.bl_ge _ rfl).2
  have hlt_g13_g15 : g13 < g15 := by rw [hg_g15]; exact (hVg13.bl_ge _ rfl).2
  have hVg15 := hVg15.low (b' := w.heap.size) hB.size
  have hB := ext_trans hB hGw16
  have han := han0.ext hB
  have had := had0.ext hB
  have hbn := hbn0.ext hB
  have hbd := hbd0.ext hB
  have hVg11 := hVg11.ext hGw16
  have hVg13 := hVg13.ext hGw16
  refine WL.done ?_
  refine W.seq ?_
  refine W.seq ?_
  refine W.region ?_
  refine WL.loadV (cs := [.bool na, .slice Aan man can, .slice Aad mad cad]) Try.el31 Try.agg31 rfl rfl hVg11.vcells rfl ?_
  refine WL.call Try.func50 rfl Try.nm50 rfl rfl (isZero_c han had hLan hLad qa hqa (by omega)) ?_
  rintro _ w17 ⟨bza, rfl, hGw17, za_t, za_f⟩
  have hB := ext_trans hB hGw17
  have han := han0.ext hB
  have had := had0.ext hB
  have hbn := hbn0.ext hB
  have hbd := hbd0.ext hB
  have hVg11 := hVg11.ext hGw17
  have hVg13 := hVg13.ext hGw17
  have hVg15 := hVg15.ext hGw17
  rcases bza with _ | _
  · have za := za_f rfl
    refine WL.move rfl rfl ?_
    refine WL.take rfl ?_
    refine WL.loadV (cs := [.bool nb, .slice Abn mbn cbn, .slice Abd mbd cbd]) Try.el31 Try.agg31 rfl rfl hVg13.vcells rfl ?_
    refine WL.take rfl ?_
    refine WL.call Try.func50 rfl Try.nm50 rfl rfl (isZero_c hbn hbd hLbn hLbd qb hqb (by omega)) ?_
    rintro _ w18 ⟨bzb, rfl, hGw18, zb_t, zb_f⟩
    have hB := ext_trans hB hGw18
    have han := han0.ext hB
    have had := had0.ext hB
    have hbn := hbn0.ext hB
    have hbd := hbd0.ext hB
    have hVg11 := hVg11.ext hGw18
    have hVg13 := hVg13.ext hGw18
    have hVg15 := hVg15.ext hGw18
    rcases bzb with _ | _
    · have zb := zb_f rfl
      refine WL.pick rfl rfl rfl ?_
      refine WL.done ?_
      refine W.condF rfl ?_
      refine W.skip ?_
      refine W.seq ?_
      refine W.drawT 17 [⟨[], [2], true⟩, ⟨[0], [], false⟩, ⟨[], [3], true⟩, ⟨[2], [], false⟩, ⟨[1, 3], [], true⟩, ⟨[], [2], true⟩, ⟨[5], [], false⟩, ⟨[], [3], true⟩, ⟨[7], [], false⟩, ⟨[6, 8], [], false⟩, ⟨[9], [], false⟩, ⟨[], [2], true⟩, ⟨[11], [], false⟩, ⟨[], [3], true⟩, ⟨[13], [], false⟩, ⟨[12, 14], [], false⟩, ⟨[15], [], false⟩] [[(2, .pointer (some ⟨g11, 0, none⟩))], [], [(3, .pointer (some ⟨g13, 0, none⟩))], [], [], [(2, .pointer (some ⟨g11, 0, none⟩))], [], [(3, .pointer (some ⟨g13, 0, none⟩))], [], [], [], [(2, .pointer (some ⟨g11, 0, none⟩))], [], [(3, .pointer (some ⟨g13, 0, none⟩))], [], [], []] (fun iQ => [fun v wQ => v = .pointer (some ((⟨g11, 0, none⟩ : Addr).add 0)), fun v wQ => v = .bool na, fun v wQ => v = .pointer (some ((⟨g13, 0, none⟩ : Addr).add 0)), fun v wQ => v = .bool nb, fun v wQ => v = .bool (na != nb), fun v wQ => v = .pointer (some ((⟨g11, 0, none⟩ : Addr).add 1)), fun v wQ => v = .slice Aan man can, fun v wQ => v = .pointer (some ((⟨g13, 0, none⟩ : Addr).add 1)), fun v wQ => v = .slice Abn mbn cbn, fun v wQ => ∃ A29, v = .slice A29 2 2 ∧ (Own w.heap.size wQ 23 1 A29 2 2 [.slice Aan man can, .slice Abn mbn cbn]) ∧ (NatsR wQ.heap.size wQ [.slice Aan man can, .slice Abn mbn cbn] [xan, xbn]) ∧ (∀ k, bl A29 = some k → k ≠ g11) ∧ (∀ k, bl A29 = some k → k ≠ g13) ∧ (∀ k, bl A29 = some k → k ≠ g15), fun v wQ => ∃ A35 m36 c37, v = .slice A35 m36 c37 ∧ (Own w.heap.size wQ 43 1 A35 m36 c37 (us (digs (nv xan * nv xbn)))) ∧ (m36 ≤ man + mbn) ∧ (∀ k, bl A35 = some k → k ≠ g11) ∧ (∀ k, bl A35 = some k → k ≠ g13) ∧ (∀ k, bl A35 = some k → k ≠ g15), fun v wQ => v = .pointer (some ((⟨g11, 0, none⟩ : Addr).add 2)), fun v wQ => v = .slice Aad mad cad, fun v wQ => v = .pointer (some ((⟨g13, 0, none⟩ : Addr).add 2)), fun v wQ => v = .slice Abd mbd cbd, fun v wQ => ∃ A43, v = .slice A43 2 2 ∧ (Own w.heap.size wQ 23 1 A43 2 2 [.slice Aad mad cad, .slice Abd mbd cbd]) ∧ (NatsR wQ.heap.size wQ [.slice Aad mad cad, .slice Abd mbd cbd] [xad, xbd]) ∧ (∀ k, bl A43 = some k → k ≠ g11) ∧ (∀ k, bl A43 = some k → k ≠ g13) ∧ (∀ k, bl A43 = some k → k ≠ g15), fun v wQ => ∃ A49 m50 c51, v = .slice A49 m50 c51 ∧ (Own w.heap.size wQ 43 1 A49 m50 c51 (us (digs (nv xad * nv xbd)))) ∧ (m50 ≤ mad + mbd) ∧ (∀ k, bl A49 = some k → k ≠ g11) ∧ (∀ k, bl A49 = some k → k ≠ g13) ∧ (∀ k, bl A49 = some k → k ≠ g15)].getD iQ (fun _ _ => True)) Try.mixed (by kernel_rfl) ?_ ?_ ?_
      · refine Vs_monoT _ ?_
        intro VQ hVQ vQ wQ1 wQ2 hQ1 hQ2
        simp only [List.mem_cons, List.not_mem_nil, or_false] at hVQ
        rcases hVQ with rfl | rfl | rfl | rfl | rfl | rfl | rfl | rfl | rfl | rfl | rfl | rfl | rfl | rfl | rfl | rfl | rfl
        · exact hQ1
        · exact hQ1
        · exact hQ1
        · exact hQ1
        · exact hQ1
        · exact hQ1
        · exact hQ1
        · exact hQ1
        · exact hQ1
        · obtain ⟨A29, hQe, hO31, hN32, hap_hO31_g11, hap_hO31_g13, hap_hO31_g15⟩ := hQ1
          exact ⟨A29, hQe, hO31.ext hQ2, (hN32.ext hQ2).norm, hap_hO31_g11, hap_hO31_g13, hap_hO31_g15⟩
        · obtain ⟨A35, m36, c37, hQe, hl, hlm, hap_hl_g11, hap_hl_g13, hap_hl_g15⟩ := hQ1
          exact ⟨A35, m36, c37, hQe, hl.ext hQ2, hlm, hap_hl_g11, hap_hl_g13, hap_hl_g15⟩
        · exact hQ1
        · exact hQ1
        · exact hQ1
        · exact hQ1
        · obtain ⟨A43, hQe, hO45, hN46, hap_hO45_g11, hap_hO45_g13, hap_hO45_g15⟩ := hQ1
          exact ⟨A43, hQe, hO45.ext hQ2, (hN46.ext hQ2).norm, hap_hO45_g11, hap_hO45_g13, hap_hO45_g15⟩
        · obtain ⟨A49, m50, c51, hQe, hd, hdm, hap_hd_g11, hap_hd_g13, hap_hd_g15⟩ := hQ1
          exact ⟨A49, m50, c51, hQe, hd.ext hQ2, hdm, hap_hd_g11, hap_hd_g13, hap_hd_g15⟩
      · refine ⟨⟨rfl, ⟨rfl, trivial⟩, ?_⟩, ⟨rfl, trivial, ?_⟩, ⟨rfl, ⟨rfl, trivial⟩, ?_⟩, ⟨rfl, trivial, ?_⟩, ⟨rfl, trivial, ?_⟩, ⟨rfl, ⟨rfl, trivial⟩, ?_⟩, ⟨rfl, trivial, ?_⟩, ⟨rfl, ⟨rfl, trivial⟩, ?_⟩, ⟨rfl, trivial, ?_⟩, ⟨rfl, trivial, ?_⟩, ⟨rfl, trivial, ?_⟩, ⟨rfl, ⟨rfl, trivial⟩, ?_⟩, ⟨rfl, trivial, ?_⟩, ⟨rfl, ⟨rfl, trivial⟩, ?_⟩, ⟨rfl, trivial, ?_⟩, ⟨rfl, trivial, ?_⟩, ⟨rfl, trivial, ?_⟩, trivial⟩
        · intro w19 hE
          intro R
          refine WL.fieldA (off := 0) Try.fla31_0 rfl rfl ?_
          exact WL.done ⟨_, rfl, rfl, rfl⟩
        · intro w20 hE
          have hE := hE rfl
          have hB := ext_trans hB hE
          have hVg11 := hVg11.ext hE
          rintro _ rfl
          intro R
          refine WL.load Try.underlying4 rfl rfl (hVg11.vcells 0 _ rfl) rfl ?_
          exact WL.done ⟨_, rfl, ext_refl _, rfl⟩
        · intro w21 hE
          intro R
          refine WL.fieldA (off := 0) Try.fla31_0 rfl rfl ?_
          exact WL.done ⟨_, rfl, rfl, rfl⟩
        · intro w22 hE
          have hE := hE rfl
          have hB := ext_trans hB hE
          have hVg13 := hVg13.ext hE
          rintro _ rfl
          intro R
          refine WL.load Try.underlying4 rfl rfl (hVg13.vcells 0 _ rfl) rfl ?_
          exact WL.done ⟨_, rfl, ext_refl _, rfl⟩
        · intro w23 hE
          rintro _ rfl
          rintro _ rfl
          intro R
          refine WL.neqB (r := (na != nb)) rfl rfl Try.underlying4 rfl rfl ?_
          exact WL.done ⟨_, rfl, rfl, rfl⟩
        · intro w24 hE
          intro R
          refine WL.fieldA (off := 1) Try.fla31_1 rfl rfl ?_
          exact WL.done ⟨_, rfl, rfl, rfl⟩
        · intro w25 hE
          have hE := hE rfl
          have hB := ext_trans hB hE
          have hVg11 := hVg11.ext hE
          rintro _ rfl
          intro R
          refine WL.load Try.underlying23 rfl rfl (hVg11.vcells 1 _ rfl) rfl ?_
          exact WL.done ⟨_, rfl, ext_refl _, rfl⟩
        · intro w26 hE
          intro R
          refine WL.fieldA (off := 1) Try.fla31_1 rfl rfl ?_
          exact WL.done ⟨_, rfl, rfl, rfl⟩
        · intro w27 hE
          have hE := hE rfl
          have hB := ext_trans hB hE
          have hVg13 := hVg13.ext hE
          rintro _ rfl
          intro R
          refine WL.load Try.underlying23 rfl rfl (hVg13.vcells 1 _ rfl) rfl ?_
          exact WL.done ⟨_, rfl, ext_refl _, rfl⟩
        · intro w28 hE
          have hE := hE rfl
          have hB := ext_trans hB hE
          have han := han0.ext hB
          have hbn := hbn0.ext hB
          have hVg11 := hVg11.ext hE
          have hVg13 := hVg13.ext hE
          have hVg15 := hVg15.ext hE
          rintro _ rfl
          rintro _ rfl
          intro R
          refine WL.lit1 (b := w28.heap.size) Try.underlying59 Try.el23 rfl rfl rfl rfl (by intro v hv; simp only [List.mem_cons, List.not_mem_nil, or_false] at hv; rcases hv with rfl | rfl <;> rfl) (Nat.le_refl _) rfl ?_
          rintro A29 w30 - hO31 hGw30
          have hap_hO31_g11 := ap_new hO31 (hVg11.bl_ge _ rfl).2
          have hap_hO31_g13 := ap_new hO31 (hVg13.bl_ge _ rfl).2
          have hap_hO31_g15 := ap_new hO31 (hVg15.bl_ge _ rfl).2
          have hO31 := hO31.low (b' := w.heap.size) hB.size
          have hB := ext_trans hB hGw30
          have han := han0.ext hB
          have hbn := hbn0.ext hB
          have hN32 : NatsR w30.heap.size w30 [.slice Aan man can, .slice Abn mbn cbn] [xan, xbn] := (NatsR.cons han.norm (NatsR.cons hbn.norm (NatsR.nil _ _)))
          exact WL.done ⟨_, rfl, hGw30, ⟨A29, rfl, hO31, hN32, hap_hO31_g11, hap_hO31_g13, hap_hO31_g15⟩⟩
        · intro w33 hE
          have hE := hE rfl
          have hB := ext_trans hB hE
          have hVg11 := hVg11.ext hE
          have hVg13 := hVg13.ext hE
          have hVg15 := hVg15.ext hE
          rintro _ ⟨A29, rfl, hO31, hN32, hap_hO31_g11, hap_hO31_g13, hap_hO31_g15⟩
          intro R
          refine WL.call Try.func15 rfl Try.nm15 rfl rfl (Mul2_c hO31.rd hN32 hLan hLbn (by omega)) ?_
          rintro _ w34 ⟨A35, m36, c37, rfl, hGw34, hl, hlm⟩
          have hap_hl_g11 := ap_new hl (hVg11.bl_ge _ rfl).2
          have hap_hl_g13 := ap_new hl (hVg13.bl_ge _ rfl).2
          have hap_hl_g15 := ap_new hl (hVg15.bl_ge _ rfl).2
          have hl := hl.low (b' := w.heap.size) hB.size
          have hB := ext_trans hB hGw34
          have hl_l := hl.rd.ulen
          exact WL.done ⟨_, rfl, hGw34, ⟨A35, m36, c37, rfl, hl, hlm, hap_hl_g11, hap_hl_g13, hap_hl_g15⟩⟩
        · intro w38 hE
          intro R
          refine WL.fieldA (off := 2) Try.fla31_2 rfl rfl ?_
          exact WL.done ⟨_, rfl, rfl, rfl⟩
        · intro w39 hE
          have hE := hE rfl
          have hB := ext_trans hB hE
          have hVg11 := hVg11.ext hE
          rintro _ rfl
          intro R
          refine WL.load Try.underlying23 rfl rfl (hVg11.vcells 2 _ rfl) rfl ?_
          exact WL.done ⟨_, rfl, ext_refl _, rfl⟩
        · intro w40 hE
          intro R
          refine WL.fieldA (off := 2) Try.fla31_2 rfl rfl ?_
          exact WL.done ⟨_, rfl, rfl, rfl⟩
        · intro w41 hE
          have hE := hE rfl
          have hB := ext_trans hB hE
          have hVg13 := hVg13.ext hE
          rintro _ rfl
          intro R
          refine WL.load Try.underlying23 rfl rfl (hVg13.vcells 2 _ rfl) rfl ?_
          exact WL.done ⟨_, rfl, ext_refl _, rfl⟩
        · intro w42 hE
          have hE := hE rfl
          have hB := ext_trans hB hE
          have had := had0.ext hB
          have hbd := hbd0.ext hB
          have hVg11 := hVg11.ext hE
          have hVg13 := hVg13.ext hE
          have hVg15 := hVg15.ext hE
          rintro _ rfl
          rintro _ rfl
          intro R
          refine WL.lit1 (b := w42.heap.size) Try.underlying59 Try.el23 rfl rfl rfl rfl (by intro v hv; simp only [List.mem_cons, List.not_mem_nil, or_false] at hv; rcases hv with rfl | rfl <;> rfl) (Nat.le_refl _) rfl ?_
          rintro A43 w44 - hO45 hGw44
          have hap_hO45_g11 := ap_new hO45 (hVg11.bl_ge _ rfl).2
          have hap_hO45_g13 := ap_new hO45 (hVg13.bl_ge _ rfl).2
          have hap_hO45_g15 := ap_new hO45 (hVg15.bl_ge _ rfl).2
          have hO45 := hO45.low (b' := w.heap.size) hB.size
          have hB := ext_trans hB hGw44
          have had := had0.ext hB
          have hbd := hbd0.ext hB
          have hN46 : NatsR w44.heap.size w44 [.slice Aad mad cad, .slice Abd mbd cbd] [xad, xbd] := (NatsR.cons had.norm (NatsR.cons hbd.norm (NatsR.nil _ _)))
          exact WL.done ⟨_, rfl, hGw44, ⟨A43, rfl, hO45, hN46, hap_hO45_g11, hap_hO45_g13, hap_hO45_g15⟩⟩
        · intro w47 hE
          have hE := hE rfl
          have hB := ext_trans hB hE
          have hVg11 := hVg11.ext hE
          have hVg13 := hVg13.ext hE
          have hVg15 := hVg15.ext hE
          rintro _ ⟨A43, rfl, hO45, hN46, hap_hO45_g11, hap_hO45_g13, hap_hO45_g15⟩
          intro R
          refine WL.call Try.func15 rfl Try.nm15 rfl rfl (Mul2_c hO45.rd hN46 hLad hLbd (by omega)) ?_
          rintro _ w48 ⟨A49, m50, c51, rfl, hGw48, hd, hdm⟩
          have hap_hd_g11 := ap_new hd (hVg11.bl_ge _ rfl).2
          have hap_hd_g13 := ap_new hd (hVg13.bl_ge _ rfl).2
          have hap_hd_g15 := ap_new hd (hVg15.bl_ge _ rfl).2
          have hd := hd.low (b' := w.heap.size) hB.size
          have hB := ext_trans hB hGw48
          have hd_l := hd.rd.ulen
          exact WL.done ⟨_, rfl, hGw48, ⟨A49, m50, c51, rfl, hd, hdm, hap_hd_g11, hap_hd_g13, hap_hd_g15⟩⟩
      · intro vals w52 hT hVs
        have hB := ext_trans hB hT
        have hVg15 := hVg15.ext hT
        have hv0 : vals 0 = _ := hVs 0 (by decide)
        have hv1 : vals 1 = _ := hVs 1 (by decide)
        have hv2 : vals 2 = _ := hVs 2 (by decide)
        have hv3 : vals 3 = _ := hVs 3 (by decide)
        have hv4 : vals 4 = _ := hVs 4 (by decide)
        have hv5 : vals 5 = _ := hVs 5 (by decide)
        have hv6 : vals 6 = _ := hVs 6 (by decide)
        have hv7 : vals 7 = _ := hVs 7 (by decide)
        have hv8 : vals 8 = _ := hVs 8 (by decide)
        obtain ⟨A29, hv9, hO31, hN32, hap_hO31_g11, hap_hO31_g13, hap_hO31_g15⟩ := hVs 9 (by decide)
        obtain ⟨A35, m36, c37, hv10, hl, hlm, hap_hl_g11, hap_hl_g13, hap_hl_g15⟩ := hVs 10 (by decide)
        have hv11 : vals 11 = _ := hVs 11 (by decide)
        have hv12 : vals 12 = _ := hVs 12 (by decide)
        have hv13 : vals 13 = _ := hVs 13 (by decide)
        have hv14 : vals 14 = _ := hVs 14 (by decide)
        obtain ⟨A43, hv15, hO45, hN46, hap_hO45_g11, hap_hO45_g13, hap_hO45_g15⟩ := hVs 15 (by decide)
        obtain ⟨A49, m50, c51, hv16, hd, hdm, hap_hd_g11, hap_hd_g13, hap_hd_g15⟩ := hVs 16 (by decide)
        rw [show (List.filterMap (fun i => Option.map (fun t => (t, vals i)) (dstAt _ i)) (List.range _)) = [(12, .pointer (some ((⟨g11, 0, none⟩ : Addr).add 0))), (13, .bool na), (14, .pointer (some ((⟨g13, 0, none⟩ : Addr).add 0))), (15, .bool nb), (16, .bool (na != nb)), (17, .pointer (some ((⟨g11, 0, none⟩ : Addr).add 1))), (18, .slice Aan man can), (19, .pointer (some ((⟨g13, 0, none⟩ : Addr).add 1))), (20, .slice Abn mbn cbn), (21, .slice A29 2 2), (22, .slice A35 m36 c37), (23, .pointer (some ((⟨g11, 0, none⟩ : Addr).add 2))), (24, .slice Aad mad cad), (25, .pointer (some ((⟨g13, 0, none⟩ : Addr).add 2))), (26, .slice Abd mbd cbd), (27, .slice A43 2 2), (28, .slice A49 m50 c51)] from by
          show [(12, vals 0), (13, vals 1), (14, vals 2), (15, vals 3), (16, vals 4), (17, vals 5), (18, vals 6), (19, vals 7), (20, vals 8), (21, vals 9), (22, vals 10), (23, vals 11), (24, vals 12), (25, vals 13), (26, vals 14), (27, vals 15), (28, vals 16)] = _
          rw [hv0, hv1, hv2, hv3, hv4, hv5, hv6, hv7, hv8, hv9, hv10, hv11, hv12, hv13, hv14, hv15, hv16]]
        refine WA.step [17] (by decide +kernel) rfl ?_
        intro iQ hQ
        simp only [List.mem_cons, List.not_mem_nil, or_false] at hQ
        obtain rfl := hQ
        · refine ⟨_, rfl, ?_⟩
          refine WL.call Try.func52 rfl Try.nm52 rfl rfl (red_c hl.rd hd.rd (digs_lim _) (digs_lim _) (by rw [nv_digs]; exact Nat.mul_ne_zero za.1 zb.1) (by rw [nv_digs]; exact Nat.mul_ne_zero za.2 zb.2) (by omega) (by omega)) ?_
          rintro _ w53 ⟨A54, m55, c56, A57, m58, c59, rfl, hGw53, hrn, hrd, hrm⟩
          have hap_hrn_g15 := ap_new hrn (hVg15.bl_ge _ rfl).2
          have hap_hrd_g15 := ap_new hrd (hVg15.bl_ge _ rfl).2
          have hrn := hrn.low (b' := w.heap.size) hB.size
          have hrd := hrd.low (b' := w.heap.size) hB.size
          have hB := ext_trans hB hGw53
          have hVg15 := hVg15.ext hGw53
          have hrn_l := hrn.rd.ulen
          have hrd_l := hrd.rd.ulen
          refine WL.done ?_
          refine WA.step [18] (by decide +kernel) rfl ?_
          intro iQ hQ
          simp only [List.mem_cons, List.not_mem_nil, or_false] at hQ
          obtain rfl := hQ
          · refine ⟨_, rfl, ?_⟩
            refine WL.storeV Try.el31 rfl rfl rfl rfl hVg15 ?_
            have hOld61 := hVg15
            intro w60 hVg15 hGw60
            change Own _ _ _ _ _ _ _ [.bool (qneg (val (na != nb) (nv (digs (nv xan * nv xbn))) (nv (digs (nv xad * nv xbd))))), .slice A54 m55 c56, .slice A57 m58 c59] at hVg15
            have hB := ext_own hB hGw60 (fun g hg => (hOld61.bl_ge g hg).1)
            have hrn := hrn.grown hGw60 (ap_row (by first | exact hap_hrn_g15 | exact ap_type hrn hOld61 (by decide)))
            have hrd := hrd.grown hGw60 (ap_row (by first | exact hap_hrd_g15 | exact ap_type hrd hOld61 (by decide)))
            refine WL.done ?_
            refine WA.done (by decide +kernel) ?_
            refine W.ret ?_
            refine ⟨[.agg #[.bool (qneg (val (na != nb) (nv (digs (nv xan * nv xbn))) (nv (digs (nv xad * nv xbd))))), .slice A54 m55 c56, .slice A57 m58 c59]], ⟨_, _, _, rfl, rfl, run_loadV (cs := [.bool (qneg (val (na != nb) (nv (digs (nv xan * nv xbn))) (nv (digs (nv xad * nv xbd))))), .slice A54 m55 c56, .slice A57 m58 c59]) Try.el31 Try.agg31 rfl hVg15.vcells, rfl⟩, ?_⟩
            have e9 : qa * qb = val (na != nb) (nv (digs (nv xan * nv xbn))) (nv (digs (nv xad * nv xbd))) := by
              rw [← hqa, ← hqb]; simp only [nv_digs]; exact val_mul ..
            rw [e9]
            exact ⟨_, _, _, _, _, _, rfl, hB, hrn, hrd, by omega⟩
    · have zb := zb_t rfl
      refine WL.pick rfl rfl rfl ?_
      refine WL.done ?_
      refine W.condT rfl ?_
      refine W.seq ?_
      refine W.region ?_
      refine WL.call Try.func51 rfl Try.nm51 rfl rfl (zero_c) ?_
      rintro _ w62 ⟨A63, m64, c65, A66, m67, c68, rfl, hGw62, hrn, hrd, hrm⟩
      have hap_hrn_g15 := ap_new hrn (hVg15.bl_ge _ rfl).2
      have hap_hrd_g15 := ap_new hrd (hVg15.bl_ge _ rfl).2
      have hrn := hrn.low (b' := w.heap.size) hB.size
      have hrd := hrd.low (b' := w.heap.size) hB.size
      have hB := ext_trans hB hGw62
      have hVg15 := hVg15.ext hGw62
      have hrn_l := hrn.rd.ulen
      have hrd_l := hrd.rd.ulen
      refine WL.storeV Try.el31 rfl rfl rfl rfl hVg15 ?_
      have hOld70 := hVg15
      intro w69 hVg15 hGw69
      change Own _ _ _ _ _ _ _ [.bool (qneg ((0 : Rat))), .slice A63 m64 c65, .slice A66 m67 c68] at hVg15
      have hB := ext_own hB hGw69 (fun g hg => (hOld70.bl_ge g hg).1)
      have hrn := hrn.grown hGw69 (ap_row (by first | exact hap_hrn_g15 | exact ap_type hrn hOld70 (by decide)))
      have hrd := hrd.grown hGw69 (ap_row (by first | exact hap_hrd_g15 | exact ap_type hrd hOld70 (by decide)))
      refine WL.done ?_
      refine W.ret ?_
      refine ⟨[.agg #[.bool (qneg ((0 : Rat))), .slice A63 m64 c65, .slice A66 m67 c68]], ⟨_, _, _, rfl, rfl, run_loadV (cs := [.bool (qneg ((0 : Rat))), .slice A63 m64 c65, .slice A66 m67 c68]) Try.el31 Try.agg31 rfl hVg15.vcells, rfl⟩, ?_⟩
      rw [zb, Rat.mul_zero]
      exact ⟨_, _, _, _, _, _, rfl, hB, hrn, hrd, by omega⟩
  · have za := za_t rfl
    refine WL.move rfl rfl ?_
    refine WL.pass rfl rfl rfl ?_
    refine WL.pass rfl rfl rfl ?_
    refine WL.pick rfl rfl rfl ?_
    refine WL.done ?_
    refine W.condT rfl ?_
    refine W.seq ?_
    refine W.region ?_
    refine WL.call Try.func51 rfl Try.nm51 rfl rfl (zero_c) ?_
    rintro _ w71 ⟨A72, m73, c74, A75, m76, c77, rfl, hGw71, hrn, hrd, hrm⟩
    have hap_hrn_g15 := ap_new hrn (hVg15.bl_ge _ rfl).2
    have hap_hrd_g15 := ap_new hrd (hVg15.bl_ge _ rfl).2
    have hrn := hrn.low (b' := w.heap.size) hB.size
    have hrd := hrd.low (b' := w.heap.size) hB.size
    have hB := ext_trans hB hGw71
    have hVg15 := hVg15.ext hGw71
    have hrn_l := hrn.rd.ulen
    have hrd_l := hrd.rd.ulen
    refine WL.storeV Try.el31 rfl rfl rfl rfl hVg15 ?_
    have hOld79 := hVg15
    intro w78 hVg15 hGw78
    change Own _ _ _ _ _ _ _ [.bool (qneg ((0 : Rat))), .slice A72 m73 c74, .slice A75 m76 c77] at hVg15
    have hB := ext_own hB hGw78 (fun g hg => (hOld79.bl_ge g hg).1)
    have hrn := hrn.grown hGw78 (ap_row (by first | exact hap_hrn_g15 | exact ap_type hrn hOld79 (by decide)))
    have hrd := hrd.grown hGw78 (ap_row (by first | exact hap_hrd_g15 | exact ap_type hrd hOld79 (by decide)))
    refine WL.done ?_
    refine W.ret ?_
    refine ⟨[.agg #[.bool (qneg ((0 : Rat))), .slice A72 m73 c74, .slice A75 m76 c77]], ⟨_, _, _, rfl, rfl, run_loadV (cs := [.bool (qneg ((0 : Rat))), .slice A72 m73 c74, .slice A75 m76 c77]) Try.el31 Try.agg31 rfl hVg15.vcells, rfl⟩, ?_⟩
    rw [za, Rat.zero_mul]
    exact ⟨_, _, _, _, _, _, rfl, hB, hrn, hrd, by omega⟩
end Go.Proofs.Ythfpcebcfjlkmab
namespace Go.Proofs.Ythfpcebcfjlkmab
open Go.RowKit
/-- Rows of two types are apart. -/
theorem ap_type {b b' : Nat} {w : World} {e e' z z' m c m' c' g : Nat} {A : Option Addr} {cs cs' : List Value} (h : Own b w e z A m c cs) (hV : Own b' w e' z' (some ⟨g, 0, none⟩) m' c' cs') (hne : e ≠ e') : ∀ k, bl A = some k → k ≠ g := by
  intro k hk hkg
  subst hkg
  rcases h.2 with ⟨h1, _⟩ | ⟨g1, cap, cur, h1, h2, h3, _⟩
  · cases h1; cases hk
  · cases h1
    rcases hV.2 with ⟨k1, _⟩ | ⟨g2, cap2, cur2, k1, k2, k3, _⟩
    · cases k1
    · cases k1
      cases hk
      rw [h3] at k3
      cases k3
      exact hne rfl
end Go.Proofs.Ythfpcebcfjlkmab
set_option linter.unusedSimpArgs false
set_option linter.unusedVariables false
namespace Go.Proofs.Ythfpcebcfjlkmab
open Go.RowKit
/-! ### rows of fractions: three cells each -/
abbrev Fr3 := Bool × List Nat × List Nat
def fr0 : Fr3 := (false, [], [])
def qv (r : Fr3) : Rat := val r.1 (nv r.2.1) (nv r.2.2)
def natAt (B : Nat) (w : World) (cells : List Value) (k : Nat) (xs : List Nat) : Prop :=
  cells.getD k undef = .slice (sA (cells.getD k undef)) (sM (cells.getD k undef)) (sC (cells.getD k undef)) ∧ Rd B w 1 (sA (cells.getD k undef)) (sM (cells.getD k undef)) (sC (cells.getD k undef)) (us xs)
structure RatsR (B : Nat) (w : World) (cells : List Value) (rs : List Fr3) : Prop where
  len : cells.length = rs.length * 3
  all : ∀ j, j < rs.length → cells.getD (j * 3) undef = .bool (rs.getD j fr0).1 ∧ natAt B w cells (j * 3 + 1) (rs.getD j fr0).2.1 ∧ natAt B w cells (j * 3 + 2) (rs.getD j fr0).2.2
def RLim (rs : List Fr3) : Prop := ∀ j, j < rs.length → Lim (rs.getD j fr0).2.1 ∧ Lim (rs.getD j fr0).2.2
def RLen (K : Nat) (rs : List Fr3) : Prop := ∀ j, j < rs.length → (rs.getD j fr0).2.1.length ≤ K ∧ (rs.getD j fr0).2.2.length ≤ K
theorem getD_some {cells : List Value} {k : Nat} (h : k < cells.length) : cells[k]? = some (cells.getD k undef) := by simp [List.getD_eq_getElem?_getD, h]
section
variable {B : Nat} {w w' : World} {cells : List Value} {rs : List Fr3}
theorem natAt.ext {k : Nat} {xs : List Nat} (h : natAt B w cells k xs) (hg : w.grownBy w' none) : natAt B w' cells k xs := ⟨h.1, h.2.ext hg⟩
theorem natAt.below {k : Nat} {xs : List Nat} (h : natAt B w cells k xs) (hg : Below B w w') : natAt B w' cells k xs := ⟨h.1, h.2.below hg⟩
theorem natAt.norm {k : Nat} {xs : List Nat} (h : natAt B w cells k xs) : natAt w.heap.size w cells k xs := ⟨h.1, h.2.norm⟩
theorem natAt.of {cells' : List Value} {k k' : Nat} {xs : List Nat} (h : natAt B w cells k xs) (e : cells'.getD k' undef = cells.getD k undef) : natAt B w cells' k' xs := by
  unfold natAt at *; rw [e]; exact h
theorem RatsR.ext (h : RatsR B w cells rs) (hg : w.grownBy w' none) : RatsR B w' cells rs := ⟨h.len, fun j hj => ⟨(h.all j hj).1, (h.all j hj).2.1.ext hg, (h.all j hj).2.2.ext hg⟩⟩
theorem RatsR.below (h : RatsR B w cells rs) (hg : Below B w w') : RatsR B w' cells rs := ⟨h.len, fun j hj => ⟨(h.all j hj).1, (h.all j hj).2.1.below hg, (h.all j hj).2.2.below hg⟩⟩
theorem RatsR.norm (h : RatsR B w cells rs) : RatsR w.heap.size w cells rs := ⟨h.len, fun j hj => ⟨(h.all j hj).1, (h.all j hj).2.1.norm, (h.all j hj).2.2.norm⟩⟩
theorem RatsR.rd1 (h : RatsR B w cells rs) (j : Nat) (hj : j < rs.length) : Rd B w 1 (sA (cells.getD (j * 3 + 1) undef)) (sM (cells.getD (j * 3 + 1) undef)) (sC (cells.getD (j * 3 + 1) undef)) (us (rs.getD j fr0).2.1) := (h.all j hj).2.1.2
theorem RatsR.rd2 (h : RatsR B w cells rs) (j : Nat) (hj : j < rs.length) : Rd B w 1 (sA (cells.getD (j * 3 + 2) undef)) (sM (cells.getD (j * 3 + 2) undef)) (sC (cells.getD (j * 3 + 2) undef)) (us (rs.getD j fr0).2.2) := (h.all j hj).2.2.2
theorem RatsR.c0 (h : RatsR B w cells rs) (j : Nat) (hj : j < rs.length) : cells[j * 3]? = some (.bool (rs.getD j fr0).1) := by
  rw [getD_some (by rw [h.len]; omega), (h.all j hj).1]
theorem RatsR.c1 (h : RatsR B w cells rs) (j : Nat) (hj : j < rs.length) : cells[j * 3 + 1]? = some (.slice (sA (cells.getD (j * 3 + 1) undef)) (sM (cells.getD (j * 3 + 1) undef)) (sC (cells.getD (j * 3 + 1) undef))) := by
  rw [getD_some (by rw [h.len]; omega), ← (h.all j hj).2.1.1]
theorem RatsR.c2 (h : RatsR B w cells rs) (j : Nat) (hj : j < rs.length) : cells[j * 3 + 2]? = some (.slice (sA (cells.getD (j * 3 + 2) undef)) (sM (cells.getD (j * 3 + 2) undef)) (sC (cells.getD (j * 3 + 2) undef))) := by
  rw [getD_some (by rw [h.len]; omega), ← (h.all j hj).2.2.1]
theorem RatsR.load {B2 : Nat} {A : Option Addr} {m c : Nat} (h : RatsR B w cells rs) (hR : Rd B2 w 3 A m c cells) (j : Nat) (hj : j < rs.length) :
    ∀ i u, [Value.bool (rs.getD j fr0).1, .slice (sA (cells.getD (j * 3 + 1) undef)) (sM (cells.getD (j * 3 + 1) undef)) (sC (cells.getD (j * 3 + 1) undef)), .slice (sA (cells.getD (j * 3 + 2) undef)) (sM (cells.getD (j * 3 + 2) undef)) (sC (cells.getD (j * 3 + 2) undef))][i]? = some u →
      w.cell? (((adOf A).add (j * 3)).add i) = some u := by
  intro i u hu
  rw [add_add]
  match i, hu with
  | 0, hu => cases hu; exact hR.at_ (h.c0 j hj)
  | 1, hu => cases hu; exact hR.at_ (h.c1 j hj)
  | 2, hu => cases hu; exact hR.at_ (h.c2 j hj)
  | i + 3, hu => simp at hu
theorem RatsR.nil (B : Nat) (w : World) : RatsR B w [] [] := ⟨rfl, fun j h => by cases h⟩
theorem RatsR.cons {n : Bool} {A A' : Option Addr} {m c m' c' : Nat} {x y : List Nat} (h1 : Rd B w 1 A m c (us x)) (h2 : Rd B w 1 A' m' c' (us y)) (hs : RatsR B w cells rs) : RatsR B w (.bool n :: .slice A m c :: .slice A' m' c' :: cells) ((n, x, y) :: rs) := by
  refine ⟨by simp [hs.len]; omega, fun j hj => ?_⟩
  cases j with
  | zero => exact ⟨rfl, ⟨rfl, h1⟩, ⟨rfl, h2⟩⟩
  | succ j =>
    obtain ⟨e1, e2, e3⟩ := hs.all j (by simpa using hj)
    refine ⟨?_, e2.of ?_, e3.of ?_⟩
    · rw [show (j + 1) * 3 = j * 3 + 1 + 1 + 1 by omega]; simpa using e1
    · rw [show (j + 1) * 3 + 1 = (j * 3 + 1) + 1 + 1 + 1 by omega]; simp
    · rw [show (j + 1) * 3 + 2 = (j * 3 + 2) + 1 + 1 + 1 by omega]; simp
theorem RatsR.drop (h : RatsR B w cells rs) (k : Nat) : RatsR B w (cells.drop (k * 3)) (rs.drop k) := by
  refine ⟨by simp [h.len]; omega, fun j hj => ?_⟩
  have hj' : k + j < rs.length := by simp at hj; omega
  have e (i : Nat) : (cells.drop (k * 3)).getD (j * 3 + i) undef = cells.getD ((k + j) * 3 + i) undef := by
    simp only [List.getD_eq_getElem?_getD, List.getElem?_drop]; congr 2; omega
  have e2 : (rs.drop k).getD j fr0 = rs.getD (k + j) fr0 := by simp [List.getD_eq_getElem?_getD]
  obtain ⟨h1, h2, h3⟩ := h.all _ hj'
  rw [e2]
  exact ⟨(e 0).trans h1, h2.of (e 1), h3.of (e 2)⟩
theorem RatsR.append {c2 : List Value} {r2 : List Fr3} (h : RatsR B w cells rs) (h' : RatsR B w c2 r2) : RatsR B w (cells ++ c2) (rs ++ r2) := by
  have hl := h.len
  refine ⟨by simp [h.len, h'.len]; omega, fun j hj => ?_⟩
  rcases Nat.lt_or_ge j rs.length with hc | hc
  · have e (i : Nat) (hi : i < 3) : (cells ++ c2).getD (j * 3 + i) undef = cells.getD (j * 3 + i) undef := by simp only [List.getD_eq_getElem?_getD]; rw [List.getElem?_append_left (by omega)]
    have e2 : (rs ++ r2).getD j fr0 = rs.getD j fr0 := by simp only [List.getD_eq_getElem?_getD]; rw [List.getElem?_append_left hc]
    obtain ⟨h1, h2, h3⟩ := h.all j hc
    rw [e2]
    exact ⟨(e 0 (by omega)).trans h1, h2.of (e 1 (by omega)), h3.of (e 2 (by omega))⟩
  · have e (i : Nat) : (cells ++ c2).getD (j * 3 + i) undef = c2.getD ((j - rs.length) * 3 + i) undef := by simp only [List.getD_eq_getElem?_getD]; rw [List.getElem?_append_right (by omega)]; congr 2; omega
    have e2 : (rs ++ r2).getD j fr0 = r2.getD (j - rs.length) fr0 := by simp only [List.getD_eq_getElem?_getD]; rw [List.getElem?_append_right hc]
    obtain ⟨h1, h2, h3⟩ := h'.all (j - rs.length) (by simp at hj; omega)
    rw [e2]
    exact ⟨(e 0).trans h1, h2.of (e 1), h3.of (e 2)⟩
theorem RatsR.one (h : RatsR B w cells rs) : ∀ u ∈ cells, u.oneCell' = true := fun u hu => by
  obtain ⟨k, hk, rfl⟩ := List.getElem_of_mem hu
  have hl := h.len
  have h1 : cells.getD k undef = cells[k] := by simp [List.getD_eq_getElem?_getD, hk]
  obtain ⟨e0, e1, e2⟩ := h.all (k / 3) (by omega)
  rw [← h1]
  have h3 : k = k / 3 * 3 ∨ k = k / 3 * 3 + 1 ∨ k = k / 3 * 3 + 2 := by omega
  rcases h3 with h3 | h3 | h3
  · rw [h3, e0]; rfl
  · rw [h3, e1.1]; rfl
  · rw [h3, e2.1]; rfl
end
theorem RLim.nil : RLim [] := fun _ h => by cases h
theorem RLim.cons {n : Bool} {x y : List Nat} {rs : List Fr3} (hx : Lim x) (hy : Lim y) (h : RLim rs) : RLim ((n, x, y) :: rs) := fun j hj => by
  cases j with
  | zero => exact ⟨hx, hy⟩
  | succ j => simpa using h j (by simpa using hj)
theorem RLen.nil (K : Nat) : RLen K [] := fun _ h => by cases h
theorem RLen.cons {K : Nat} {n : Bool} {x y : List Nat} {rs : List Fr3} (hx : x.length ≤ K) (hy : y.length ≤ K) (h : RLen K rs) : RLen K ((n, x, y) :: rs) := fun j hj => by
  cases j with
  | zero => exact ⟨hx, hy⟩
  | succ j => simpa using h j (by simpa using hj)
theorem getD_fr {p : Fr3 → Prop} {a b : List Fr3} (ha : ∀ i, i < a.length → p (a.getD i fr0)) (hb : ∀ i, i < b.length → p (b.getD i fr0)) (i : Nat) (hi : i < (a ++ b).length) : p ((a ++ b).getD i fr0) := by
  rcases Nat.lt_or_ge i a.length with hc | hc
  · have e : (a ++ b).getD i fr0 = a.getD i fr0 := by simp only [List.getD_eq_getElem?_getD]; rw [List.getElem?_append_left hc]
    rw [e]; exact ha i hc
  · have e : (a ++ b).getD i fr0 = b.getD (i - a.length) fr0 := by simp only [List.getD_eq_getElem?_getD]; rw [List.getElem?_append_right hc]
    rw [e]; exact hb _ (by simp at hi; omega)
theorem RLim.append {a b : List Fr3} (ha : RLim a) (hb : RLim b) : RLim (a ++ b) := getD_fr (p := fun r => Lim r.2.1 ∧ Lim r.2.2) ha hb
theorem RLen.append {K : Nat} {a b : List Fr3} (ha : RLen K a) (hb : RLen K b) : RLen K (a ++ b) := getD_fr (p := fun r => r.2.1.length ≤ K ∧ r.2.2.length ≤ K) ha hb
theorem getD_frdrop {rs : List Fr3} {k j : Nat} : (rs.drop k).getD j fr0 = rs.getD (k + j) fr0 := by simp [List.getD_eq_getElem?_getD]
theorem RLim.drop {rs : List Fr3} (h : RLim rs) (k : Nat) : RLim (rs.drop k) := fun j hj => by rw [getD_frdrop]; exact h _ (by simp at hj; omega)
theorem RLen.drop {K : Nat} {rs : List Fr3} (h : RLen K rs) (k : Nat) : RLen K (rs.drop k) := fun j hj => by rw [getD_frdrop]; exact h _ (by simp at hj; omega)
/-! ### sums and products of a list -/
def qsum : List Fr3 → Rat | [] => 0 | r :: l => qv r + qsum l
def qprod : List Fr3 → Rat | [] => 1 | r :: l => qv r * qprod l
theorem qprod_append (a b : List Fr3) : qprod (a ++ b) = qprod a * qprod b := by
  induction a with
  | nil => exact (Rat.one_mul _).symm
  | cons r l ih => simp only [List.cons_append, qprod, ih, Rat.mul_assoc]
theorem take_fr {rs : List Fr3} {j : Nat} (h : j < rs.length) : rs.take (j + 1) = rs.take j ++ [rs.getD j fr0] := by
  rw [List.take_succ_eq_append_getElem h]; simp [List.getD_eq_getElem?_getD, h]
theorem qprod_take {rs : List Fr3} {j : Nat} (h : j < rs.length) : qprod (rs.take (j + 1)) = qprod (rs.take j) * qv (rs.getD j fr0) := by
  rw [take_fr h, qprod_append]; simp only [qprod, Rat.mul_one]
theorem two_fr {rs : List Fr3} (h : 2 ≤ rs.length) : rs = rs.getD 0 fr0 :: rs.getD 1 fr0 :: rs.drop 2 := by
  match rs, h with
  | a :: b :: l, _ => rfl
theorem one_fr {rs : List Fr3} (h : rs.length = 1) : rs = [rs.getD 0 fr0] := by
  match rs, h with
  | [a], _ => rfl
theorem qprod_two {rs : List Fr3} (h : 2 ≤ rs.length) : qprod rs = qv (rs.getD 0 fr0) * qv (rs.getD 1 fr0) * qprod (rs.drop 2) := by
  conv => lhs; rw [two_fr h]
  simp only [qprod, Rat.mul_assoc]
theorem qprod_one {rs : List Fr3} (h : rs.length = 1) : qprod rs = qv (rs.getD 0 fr0) := by
  conv => lhs; rw [one_fr h]
  simp only [qprod, Rat.mul_one]
theorem can_eq {p q : Rat} (h : p = q) : qneg p = qneg q ∧ digs (qnum p) = digs (qnum q) ∧ digs p.den = digs q.den := by subst h; exact ⟨rfl, rfl, rfl⟩
theorem rdigs_len0 {n : Nat} : (digs n).length = 0 ↔ n = 0 := by
  constructor
  · intro h
    have := List.eq_nil_of_length_eq_zero h
    rw [← nv_digs n, this]; rfl
  · rintro rfl; exact Nat.le_zero.1 (digs_len (by decide))
/-- A bound of the lengths of a list's sums. -/
def fb (K j : Nat) : Nat := (2 + j) * (K + 1) + 1
theorem fb_succ (K j : Nat) : fb K (j + 1) = fb K j + (K + 1) := by
  unfold fb; rw [show 2 + (j + 1) = 2 + j + 1 by omega, Nat.succ_mul]; omega
theorem fb_zero (K : Nat) : fb K 0 = 2 * K + 3 := by unfold fb; omega
theorem fb_mono {K i j : Nat} (h : i ≤ j) : fb K i ≤ fb K j := by
  have := Nat.mul_le_mul_right (K + 1) (show 2 + i ≤ 2 + j by omega)
  unfold fb; omega
end Go.Proofs.Ythfpcebcfjlkmab
set_option linter.unusedSimpArgs false
set_option linter.unusedVariables false
namespace Go.Proofs.Ythfpcebcfjlkmab
open Go.RowKit
def qOf (X Y : Int) : Rat := val (decide (X < 0) != decide (Y < 0)) X.natAbs Y.natAbs
theorem rMake_c {w : World} {Bn : Nat} {An : Option Addr} {mn cn : Nat} {xn : List Nat} (hn : Rd Bn w 1 An mn cn (us xn)) {Bd : Nat} {Ad : Option Addr} {md cd : Nat} {xd : List Nat} (hd : Rd Bd w 1 Ad md cd (us xd)) {ne : Bool} (hLn : Lim xn) (hLd : Lim xd) (hsn : mn ≤ 33554432) (hsd : md ≤ 33554432) (q : Rat) (hq : val ne (nv xn) (nv xd) = q) :
    Calls Try.prog 31 #[.bool ne, .slice An mn cn, .slice Ad md cd] w fun e w2 => ∃ v, e = .returned v ∧ (fun v w2 => ∃ A2 m2 c2 A3 m3 c3, v = .agg #[.bool (qneg (q)), .slice A2 m2 c2, .slice A3 m3 c3] ∧ w.grownBy w2 none ∧ Own w.heap.size w2 43 1 A2 m2 c2 (us (digs (qnum (q)))) ∧ Own w.heap.size w2 43 1 A3 m3 c3 (us (digs (Rat.den (q)))) ∧ m2 ≤ mn ∧ m3 ≤ md + 1) v w2 := by
  have hn := hn.norm
  have hn_l := hn.ulen
  have hn_x := hn.max
  simp only [maxLen] at hn_x
  have hn_c := hn.cap
  have hd := hd.norm
  have hd_l := hd.ulen
  have hd_x := hd.max
  simp only [maxLen] at hd_x
  have hd_c := hd.cap
  have hn0 := hn
  have hd0 := hd
  have hgl1 := gcd_len hLn hLd
  have hdn := div_len hLn (Nat.gcd (nv xn) (nv xd))
  have hdd := div_len hLd (Nat.gcd (nv xn) (nv xd))
  have hB := ext_refl w
  refine calls_of_Wc (vs := [.bool ne, .slice An mn cn, .slice Ad md cd]) [.cell 6 31] Try.func31 rfl rfl rfl rfl ?_
  refine W.seq ?_
  refine W.region ?_
  refine WL.alloc Try.el31 rfl ?_
  intro g11 w12 hg_g11 hVg11 hGw12
  change Own _ _ _ _ _ _ _ [.bool false, .slice none 0 0, .slice none 0 0] at hVg11
  have hVg11 := hVg11.low (b' := w.heap.size) hB.size
  have hB := ext_trans hB hGw12
  have hn := hn0.ext hB
  have hd := hd0.ext hB
  refine WL.done ?_
  refine W.seq ?_
  refine W.seq ?_
  refine W.region ?_
  refine WL.move rfl rfl ?_
  refine WL.call Try.func61 rfl Try.nm61 rfl rfl (Zero_c hn hLn (by omega)) ?_
  rintro _ w13 ⟨bz, rfl, hGw13, hz1, hz2⟩
  have hB := ext_trans hB hGw13
  have hn := hn0.ext hB
  have hd := hd0.ext hB
  have hVg11 := hVg11.ext hGw13
  rcases bz with _ | _
  · have z1 := hz2 rfl
    refine WL.move rfl rfl ?_
    refine WL.take rfl ?_
    refine WL.move rfl rfl ?_
    refine WL.take rfl ?_
    refine WL.call Try.func61 rfl Try.nm61 rfl rfl (Zero_c hd hLd (by omega)) ?_
    rintro _ w14 ⟨bz, rfl, hGw14, hz1, hz2⟩
    have hB := ext_trans hB hGw14
    have hn := hn0.ext hB
    have hd := hd0.ext hB
    have hVg11 := hVg11.ext hGw14
    rcases bz with _ | _
    · have z2 := hz2 rfl
      refine WL.pick rfl rfl rfl ?_
      refine WL.done ?_
      refine W.condF rfl ?_
      refine W.skip ?_
      refine W.seq ?_
      refine W.region ?_
      refine WL.move rfl rfl ?_
      refine WL.move rfl rfl ?_
      refine WL.call Try.func62 rfl Try.nm62 rfl rfl (rGcd_c hn hd hLn hLd (by omega) (by omega)) ?_
      rintro _ w15 ⟨A16, m17, cp18, rfl, hGw15, hg, hm19⟩
      have hg := hg.low (b' := w.heap.size) hB.size
      have hB := ext_trans hB hGw15
      have hn := hn0.ext hB
      have hd := hd0.ext hB
      have hVg11 := hVg11.ext hGw15
      have hg_l := hg.rd.ulen
      have hgl := hg.rd.ulen
      have hgv := nv_digs (Nat.gcd (nv xn) (nv xd))
      have hgp : 0 < Nat.gcd (nv xn) (nv xd) := Nat.gcd_pos_of_pos_left _ (by omega)
      refine WL.assign rfl rfl ?_
      refine WL.done ?_
      refine W.seq ?_
      refine W.region ?_
      refine WL.move rfl rfl ?_
      refine WL.move rfl rfl ?_
      refine WL.call Try.func63 rfl Try.nm63 rfl rfl (rDivMod_c hn hg.rd hLn (digs_lim _) (by omega) (by omega) (by omega)) ?_
      rintro _ w20 ⟨A21, m22, cp23, A24, m25, cp26, rfl, hGw20, h1q, h1r, hm27⟩
      have hap_h1q_g11 := ap_new h1q (hVg11.bl_ge _ rfl).2
      have h1q := h1q.low (b' := w.heap.size) hB.size
      have h1r := h1r.low (b' := w.heap.size) hB.size
      have hB := ext_trans hB hGw20
      have hd := hd0.ext hB
      have hVg11 := hVg11.ext hGw20
      have hg := hg.ext hGw20
      have h1q_l := h1q.rd.ulen
      have h1r_l := h1r.rd.ulen
      refine WL.move rfl rfl ?_
      refine WL.extract rfl rfl rfl ?_
      refine WL.extract rfl rfl rfl ?_
      refine WL.assign rfl rfl ?_
      refine WL.assign rfl rfl ?_
      refine WL.done ?_
      refine W.seq ?_
      refine W.region ?_
      refine WL.move rfl rfl ?_
      refine WL.move rfl rfl ?_
      refine WL.call Try.func63 rfl Try.nm63 rfl rfl (rDivMod_c hd hg.rd hLd (digs_lim _) (by omega) (by omega) (by omega)) ?_
      rintro _ w28 ⟨A29, m30, cp31, A32, m33, cp34, rfl, hGw28, h2q, h2r, hm35⟩
      have hap_h2q_g11 := ap_new h2q (hVg11.bl_ge _ rfl).2
      have h2q := h2q.low (b' := w.heap.size) hB.size
      have h2r := h2r.low (b' := w.heap.size) hB.size
      have hB := ext_trans hB hGw28
      have hVg11 := hVg11.ext hGw28
      have hg := hg.ext hGw28
      have h1q := h1q.ext hGw28
      have h2q_l := h2q.rd.ulen
      have h2r_l := h2r.rd.ulen
      refine WL.move rfl rfl ?_
      refine WL.extract rfl rfl rfl ?_
      refine WL.extract rfl rfl rfl ?_
      refine WL.assign rfl rfl ?_
      refine WL.assign rfl rfl ?_
      refine WL.done ?_
      refine W.seq ?_
      refine W.region ?_
      refine WL.move rfl rfl ?_
      refine WL.move rfl rfl ?_
      refine WL.move rfl rfl ?_
      refine WL.build (cells := #[.bool ne, .slice A21 m22 cp23, .slice A29 m30 cp31]) Try.bld31 rfl rfl rfl ?_
      refine WL.storeV Try.el31 rfl rfl rfl rfl hVg11 ?_
      have hOld37 := hVg11
      intro w36 hVg11 hGw36
      change Own _ _ _ _ _ _ _ [.bool ne, .slice A21 m22 cp23, .slice A29 m30 cp31] at hVg11
      have hB := ext_own hB hGw36 (fun g hg => (hOld37.bl_ge g hg).1)
      have h1q := h1q.grown hGw36 (ap_row (by first | exact hap_h1q_g11 | exact ap_type h1q hOld37 (by decide)))
      have h2q := h2q.grown hGw36 (ap_row (by first | exact hap_h2q_g11 | exact ap_type h2q hOld37 (by decide)))
      refine WL.done ?_
      refine W.ret ?_
      refine ⟨[.agg #[.bool ne, .slice A21 m22 cp23, .slice A29 m30 cp31]], ⟨_, _, _, rfl, rfl, run_loadV (cs := [.bool ne, .slice A21 m22 cp23, .slice A29 m30 cp31]) Try.el31 Try.agg31 rfl hVg11.vcells, rfl⟩, ?_⟩
      first
      | (rw [nv_digs] at h1q h2q
         have e1 := h1q.rd.ulen
         have e2 := h2q.rd.ulen
         rw [← hq, val_qneg (by omega) (by omega), val_qnum (by omega), val_den (by omega)]
         exact ⟨_, _, _, _, _, _, rfl, hB, h1q, h2q, by omega⟩)
      | (have e0 : q = 0 := by
           rw [← hq]; first | (rw [z1]; exact val_n0 _ _) | (rw [z2]; exact val_d0 _ _)
         subst e0
         exact ⟨_, _, _, _, _, _, rfl, hB, h1, h2, by omega⟩)
    · have z2 := hz1 rfl
      refine WL.pick rfl rfl rfl ?_
      refine WL.done ?_
      refine W.condT rfl ?_
      refine W.seq ?_
      refine W.region ?_
      refine WL.lit1 (b := w14.heap.size) Try.underlying23 Try.el43 rfl rfl rfl rfl (fun _ h => by cases h) (Nat.le_refl _) rfl ?_
      rintro A38 w39 - h1 hGw39
      have hap_h1_g11 := ap_new h1 (hVg11.bl_ge _ rfl).2
      have h1 := h1.low (b' := w.heap.size) hB.size
      have hB := ext_trans hB hGw39
      have hVg11 := hVg11.ext hGw39
      change Own _ _ _ _ _ _ _ (us []) at h1
      refine WL.lit1 (b := w39.heap.size) Try.underlying23 Try.el43 rfl rfl rfl rfl (by intro v hv; simp only [List.mem_cons, List.not_mem_nil, or_false] at hv; rcases hv with rfl <;> rfl) (Nat.le_refl _) rfl ?_
      rintro A40 w41 - h2 hGw41
      have hap_h2_g11 := ap_new h2 (hVg11.bl_ge _ rfl).2
      have h2 := h2.low (b' := w.heap.size) hB.size
      have hB := ext_trans hB hGw41
      have hVg11 := hVg11.ext hGw41
      have h1 := h1.ext hGw41
      change Own _ _ _ _ _ _ _ (us [1]) at h2
      refine WL.build (cells := #[.bool false, .slice A38 0 0, .slice A40 1 1]) Try.bld31 rfl rfl rfl ?_
      refine WL.storeV Try.el31 rfl rfl rfl rfl hVg11 ?_
      have hOld43 := hVg11
      intro w42 hVg11 hGw42
      change Own _ _ _ _ _ _ _ [.bool false, .slice A38 0 0, .slice A40 1 1] at hVg11
      have hB := ext_own hB hGw42 (fun g hg => (hOld43.bl_ge g hg).1)
      have h1 := h1.grown hGw42 (ap_row (by first | exact hap_h1_g11 | exact ap_type h1 hOld43 (by decide)))
      have h2 := h2.grown hGw42 (ap_row (by first | exact hap_h2_g11 | exact ap_type h2 hOld43 (by decide)))
      refine WL.done ?_
      refine W.ret ?_
      refine ⟨[.agg #[.bool false, .slice A38 0 0, .slice A40 1 1]], ⟨_, _, _, rfl, rfl, run_loadV (cs := [.bool false, .slice A38 0 0, .slice A40 1 1]) Try.el31 Try.agg31 rfl hVg11.vcells, rfl⟩, ?_⟩
      first
      | (rw [nv_digs] at h1q h2q
         have e1 := h1q.rd.ulen
         have e2 := h2q.rd.ulen
         rw [← hq, val_qneg (by omega) (by omega), val_qnum (by omega), val_den (by omega)]
         exact ⟨_, _, _, _, _, _, rfl, hB, h1q, h2q, by omega⟩)
      | (have e0 : q = 0 := by
           rw [← hq]; first | (rw [z1]; exact val_n0 _ _) | (rw [z2]; exact val_d0 _ _)
         subst e0
         exact ⟨_, _, _, _, _, _, rfl, hB, h1, h2, by omega⟩)
  · have z1 := hz1 rfl
    refine WL.move rfl rfl ?_
    refine WL.pass rfl rfl rfl ?_
    refine WL.pass rfl rfl rfl ?_
    refine WL.pick rfl rfl rfl ?_
    refine WL.done ?_
    refine W.condT rfl ?_
    refine W.seq ?_
    refine W.region ?_
    refine WL.lit1 (b := w13.heap.size) Try.underlying23 Try.el43 rfl rfl rfl rfl (fun _ h => by cases h) (Nat.le_refl _) rfl ?_
    rintro A44 w45 - h1 hGw45
    have hap_h1_g11 := ap_new h1 (hVg11.bl_ge _ rfl).2
    have h1 := h1.low (b' := w.heap.size) hB.size
    have hB := ext_trans hB hGw45
    have hVg11 := hVg11.ext hGw45
    change Own _ _ _ _ _ _ _ (us []) at h1
    refine WL.lit1 (b := w45.heap.size) Try.underlying23 Try.el43 rfl rfl rfl rfl (by intro v hv; simp only [List.mem_cons, List.not_mem_nil, or_false] at hv; rcases hv with rfl <;> rfl) (Nat.le_refl _) rfl ?_
    rintro A46 w47 - h2 hGw47
    have hap_h2_g11 := ap_new h2 (hVg11.bl_ge _ rfl).2
    have h2 := h2.low (b' := w.heap.size) hB.size
    have hB := ext_trans hB hGw47
    have hVg11 := hVg11.ext hGw47
    have h1 := h1.ext hGw47
    change Own _ _ _ _ _ _ _ (us [1]) at h2
    refine WL.build (cells := #[.bool false, .slice A44 0 0, .slice A46 1 1]) Try.bld31 rfl rfl rfl ?_
    refine WL.storeV Try.el31 rfl rfl rfl rfl hVg11 ?_
    have hOld49 := hVg11
    intro w48 hVg11 hGw48
    change Own _ _ _ _ _ _ _ [.bool false, .slice A44 0 0, .slice A46 1 1] at hVg11
    have hB := ext_own hB hGw48 (fun g hg => (hOld49.bl_ge g hg).1)
    have h1 := h1.grown hGw48 (ap_row (by first | exact hap_h1_g11 | exact ap_type h1 hOld49 (by decide)))
    have h2 := h2.grown hGw48 (ap_row (by first | exact hap_h2_g11 | exact ap_type h2 hOld49 (by decide)))
    refine WL.done ?_
    refine W.ret ?_
    refine ⟨[.agg #[.bool false, .slice A44 0 0, .slice A46 1 1]], ⟨_, _, _, rfl, rfl, run_loadV (cs := [.bool false, .slice A44 0 0, .slice A46 1 1]) Try.el31 Try.agg31 rfl hVg11.vcells, rfl⟩, ?_⟩
    first
    | (rw [nv_digs] at h1q h2q
       have e1 := h1q.rd.ulen
       have e2 := h2q.rd.ulen
       rw [← hq, val_qneg (by omega) (by omega), val_qnum (by omega), val_den (by omega)]
       exact ⟨_, _, _, _, _, _, rfl, hB, h1q, h2q, by omega⟩)
    | (have e0 : q = 0 := by
         rw [← hq]; first | (rw [z1]; exact val_n0 _ _) | (rw [z2]; exact val_d0 _ _)
       subst e0
       exact ⟨_, _, _, _, _, _, rfl, hB, h1, h2, by omega⟩)

theorem rqTrim_c {w : World} {Ban : Nat} {Aan : Option Addr} {man can : Nat} {xan : List Nat} (han : Rd Ban w 1 Aan man can (us xan)) {Bad : Nat} {Aad : Option Addr} {mad cad : Nat} {xad : List Nat} (had : Rd Bad w 1 Aad mad cad (us xad)) {na : Bool} (hLan : Lim xan) (hLad : Lim xad) (qa : Rat) (hqa : val na (nv xan) (nv xad) = qa) (hsa : man ≤ 4194304 ∧ mad ≤ 4194304) :
    Calls Try.prog 20 #[.agg #[.bool na, .slice Aan man can, .slice Aad mad cad]] w fun e w2 => ∃ v, e = .returned v ∧ (fun v w2 => ∃ A2 m2 c2 A3 m3 c3, v = .agg #[.bool (qneg (qa)), .slice A2 m2 c2, .slice A3 m3 c3] ∧ w.grownBy w2 none ∧ Own w.heap.size w2 43 1 A2 m2 c2 (us (digs (qnum (qa)))) ∧ Own w.heap.size w2 43 1 A3 m3 c3 (us (digs (Rat.den (qa)))) ∧ m2 ≤ man ∧ m3 ≤ mad + 1) v w2 := by
  have han := han.norm
  have han_l := han.ulen
  have han_x := han.max
  simp only [maxLen] at han_x
  have han_c := han.cap
  have had := had.norm
  have had_l := had.ulen
  have had_x := had.max
  simp only [maxLen] at had_x
  have had_c := had.cap
  have han0 := han
  have had0 := had
  have hB := ext_refl w
  refine calls_of_Wc (vs := [.agg #[.bool na, .slice Aan man can, .slice Aad mad cad]]) [.cell 2 31] Try.func20 rfl rfl rfl rfl ?_
  refine W.seq ?_
  refine W.region ?_
  refine WL.box Try.el31 rfl rfl rfl ?_
  intro g11 w12 hg_g11 hVg11 hGw12
  change Own _ _ _ _ _ _ _ [.bool na, .slice Aan man can, .slice Aad mad cad] at hVg11
  have hVg11 := hVg11.low (b' := w.heap.size) hB.size
  have hB := ext_trans hB hGw12
  have han := han0.ext hB
  have had := had0.ext hB
  refine WL.alloc Try.el31 rfl ?_
  intro g13 w14 hg_g13 hVg13 hGw14
  change Own _ _ _ _ _ _ _ [.bool false, .slice none 0 0, .slice none 0 0] at hVg13
  have hlt_g11_g13 : g11 < g13 := by rw [hg_g13]; exact (hVg11.bl_ge _ rfl).2
  have hVg13 := hVg13.low (b' := w.heap.size) hB.size
  have hB := ext_trans hB hGw14
  have han := han0.ext hB
  have had := had0.ext hB
  have hVg11 := hVg11.ext hGw14
  refine WL.done ?_
  refine W.seq ?_
  refine W.region ?_
  refine WL.fieldA (off := 0) Try.fla31_0 rfl rfl ?_
  refine WL.load Try.underlying4 rfl rfl (hVg11.vcells 0 _ rfl) rfl ?_
  refine WL.fieldA (off := 1) Try.fla31_1 rfl rfl ?_
  refine WL.load Try.underlying23 rfl rfl (hVg11.vcells 1 _ rfl) rfl ?_
  refine WL.fieldA (off := 2) Try.fla31_2 rfl rfl ?_
  refine WL.load Try.underlying23 rfl rfl (hVg11.vcells 2 _ rfl) rfl ?_
  refine WL.call Try.func31 rfl Try.nm31 rfl rfl (rMake_c han had hLan hLad (by omega) (by omega) qa hqa) ?_
  rintro _ w15 ⟨A16, m17, c18, A19, m20, c21, rfl, hGw15, hrn, hrd, hrm⟩
  have hap_hrn_g13 := ap_new hrn (hVg13.bl_ge _ rfl).2
  have hap_hrd_g13 := ap_new hrd (hVg13.bl_ge _ rfl).2
  have hrn := hrn.low (b' := w.heap.size) hB.size
  have hrd := hrd.low (b' := w.heap.size) hB.size
  have hB := ext_trans hB hGw15
  have hVg13 := hVg13.ext hGw15
  have hrn_l := hrn.rd.ulen
  have hrd_l := hrd.rd.ulen
  refine WL.storeV Try.el31 rfl rfl rfl rfl hVg13 ?_
  have hOld23 := hVg13
  intro w22 hVg13 hGw22
  change Own _ _ _ _ _ _ _ [.bool (qneg (qa)), .slice A16 m17 c18, .slice A19 m20 c21] at hVg13
  have hB := ext_own hB hGw22 (fun g hg => (hOld23.bl_ge g hg).1)
  have hrn := hrn.grown hGw22 (ap_row (by first | exact hap_hrn_g13 | exact ap_type hrn hOld23 (by decide)))
  have hrd := hrd.grown hGw22 (ap_row (by first | exact hap_hrd_g13 | exact ap_type hrd hOld23 (by decide)))
  refine WL.done ?_
  refine W.ret ?_
  refine ⟨[.agg #[.bool (qneg (qa)), .slice A16 m17 c18, .slice A19 m20 c21]], ⟨_, _, _, rfl, rfl, run_loadV (cs := [.bool (qneg (qa)), .slice A16 m17 c18, .slice A19 m20 c21]) Try.el31 Try.agg31 rfl hVg13.vcells, rfl⟩, ?_⟩
  exact ⟨_, _, _, _, _, _, rfl, hB, hrn, hrd, by omega⟩

theorem rSame_c {w : World} {Ban : Nat} {Aan : Option Addr} {man can : Nat} {xan : List Nat} (han : Rd Ban w 1 Aan man can (us xan)) {Bad : Nat} {Aad : Option Addr} {mad cad : Nat} {xad : List Nat} (had : Rd Bad w 1 Aad mad cad (us xad)) {Bbn : Nat} {Abn : Option Addr} {mbn cbn : Nat} {xbn : List Nat} (hbn : Rd Bbn w 1 Abn mbn cbn (us xbn)) {Bbd : Nat} {Abd : Option Addr} {mbd cbd : Nat} {xbd : List Nat} (hbd : Rd Bbd w 1 Abd mbd cbd (us xbd)) {na nb : Bool} :
    Calls Try.prog 49 #[.agg #[.bool na, .slice Aan man can, .slice Aad mad cad], .agg #[.bool nb, .slice Abn mbn cbn, .slice Abd mbd cbd]] w fun e w2 => ∃ v, e = .returned v ∧ (fun v w2 => ∃ b : Bool, v = .bool b ∧ w.grownBy w2 none ∧ (b = true → na = nb ∧ xan = xbn ∧ xad = xbd) ∧ (b = false → ¬ (na = nb ∧ xan = xbn ∧ xad = xbd))) v w2 := by
  have han := han.norm
  have han_l := han.ulen
  have han_x := han.max
  simp only [maxLen] at han_x
  have han_c := han.cap
  have had := had.norm
  have had_l := had.ulen
  have had_x := had.max
  simp only [maxLen] at had_x
  have had_c := had.cap
  have hbn := hbn.norm
  have hbn_l := hbn.ulen
  have hbn_x := hbn.max
  simp only [maxLen] at hbn_x
  have hbn_c := hbn.cap
  have hbd := hbd.norm
  have hbd_l := hbd.ulen
  have hbd_x := hbd.max
  simp only [maxLen] at hbd_x
  have hbd_c := hbd.cap
  have han0 := han
  have had0 := had
  have hbn0 := hbn
  have hbd0 := hbd
  have hB := ext_refl w
  refine calls_of_W (vs := [.agg #[.bool na, .slice Aan man can, .slice Aad mad cad], .agg #[.bool nb, .slice Abn mbn cbn, .slice Abd mbd cbd]]) [4] Try.func49 rfl rfl rfl rfl ?_
  refine W.seq ?_
  refine W.region ?_
  refine WL.box Try.el31 rfl rfl rfl ?_
  intro g11 w12 hg_g11 hVg11 hGw12
  change Own _ _ _ _ _ _ _ [.bool na, .slice Aan man can, .slice Aad mad cad] at hVg11
  have hVg11 := hVg11.low (b' := w.heap.size) hB.size
  have hB := ext_trans hB hGw12
  have han := han0.ext hB
  have had := had0.ext hB
  have hbn := hbn0.ext hB
  have hbd := hbd0.ext hB
  refine WL.box Try.el31 rfl rfl rfl ?_
  intro g13 w14 hg_g13 hVg13 hGw14
  change Own _ _ _ _ _ _ _ [.bool nb, .slice Abn mbn cbn, .slice Abd mbd cbd] at hVg13
  have hlt_g11_g13 : g11 < g13 := by rw [hg_g13]; exact (hVg11.bl_ge _ rfl).2
  have hVg13 := hVg13.low (b' := w.heap.size) hB.size
  have hB := ext_trans hB hGw14
  have han := han0.ext hB
  have had := had0.ext hB
  have hbn := hbn0.ext hB
  have hbd := hbd0.ext hB
  have hVg11 := hVg11.ext hGw14
  refine WL.assign rfl rfl ?_
  refine WL.done ?_
  refine W.seq ?_
  refine W.region ?_
  refine WL.fieldA (off := 0) Try.fla31_0 rfl rfl ?_
  refine WL.load Try.underlying4 rfl rfl (hVg11.vcells 0 _ rfl) rfl ?_
  refine WL.fieldA (off := 0) Try.fla31_0 rfl rfl ?_
  refine WL.load Try.underlying4 rfl rfl (hVg13.vcells 0 _ rfl) rfl ?_
  refine WL.eqB (r := (na == nb)) rfl rfl Try.underlying4 rfl rfl ?_
  refine WL.move rfl rfl ?_
  rcases hg15 : (na == nb) with _ | _
  · refine WL.pass rfl rfl rfl ?_
    refine WL.pass rfl rfl rfl ?_
    refine WL.pass rfl rfl rfl ?_
    refine WL.pass rfl rfl rfl ?_
    refine WL.pass rfl rfl rfl ?_
    refine WL.pick rfl rfl rfl ?_
    refine WL.move rfl rfl ?_
    refine WL.pass rfl rfl rfl ?_
    refine WL.pass rfl rfl rfl ?_
    refine WL.pass rfl rfl rfl ?_
    refine WL.pass rfl rfl rfl ?_
    refine WL.pass rfl rfl rfl ?_
    refine WL.pick rfl rfl rfl ?_
    refine WL.assign rfl rfl ?_
    refine WL.done ?_
    refine W.ret ?_
    refine ⟨_, rfl, ?_⟩
    exact ⟨false, rfl, hB, (fun h => by cases h), fun _ h => by have h2 : (na == nb) = false := (by assumption); rw [h.1] at h2; simp at h2⟩
  · refine WL.take rfl ?_
    refine WL.fieldA (off := 1) Try.fla31_1 rfl rfl ?_
    refine WL.take rfl ?_
    refine WL.load Try.underlying23 rfl rfl (hVg11.vcells 1 _ rfl) rfl ?_
    refine WL.take rfl ?_
    refine WL.fieldA (off := 1) Try.fla31_1 rfl rfl ?_
    refine WL.take rfl ?_
    refine WL.load Try.underlying23 rfl rfl (hVg13.vcells 1 _ rfl) rfl ?_
    refine WL.take rfl ?_
    refine WL.call Try.func48 rfl Try.nm48 rfl rfl (Same_c han hbn) ?_
    rintro _ w16 ⟨rfl, hGw16⟩
    have hB := ext_trans hB hGw16
    have had := had0.ext hB
    have hbd := hbd0.ext hB
    have hVg11 := hVg11.ext hGw16
    have hVg13 := hVg13.ext hGw16
    refine WL.pick rfl rfl rfl ?_
    refine WL.move rfl rfl ?_
    rcases hg17 : (decide (xan = xbn)) with _ | _
    · refine WL.pass rfl rfl rfl ?_
      refine WL.pass rfl rfl rfl ?_
      refine WL.pass rfl rfl rfl ?_
      refine WL.pass rfl rfl rfl ?_
      refine WL.pass rfl rfl rfl ?_
      refine WL.pick rfl rfl rfl ?_
      refine WL.assign rfl rfl ?_
      refine WL.done ?_
      refine W.ret ?_
      refine ⟨_, rfl, ?_⟩
      exact ⟨false, rfl, hB, (fun h => by cases h), fun _ h => of_decide_eq_false (show decide (xan = xbn) = false by assumption) h.2.1⟩
    · refine WL.take rfl ?_
      refine WL.fieldA (off := 2) Try.fla31_2 rfl rfl ?_
      refine WL.take rfl ?_
      refine WL.load Try.underlying23 rfl rfl (hVg11.vcells 2 _ rfl) rfl ?_
      refine WL.take rfl ?_
      refine WL.fieldA (off := 2) Try.fla31_2 rfl rfl ?_
      refine WL.take rfl ?_
      refine WL.load Try.underlying23 rfl rfl (hVg13.vcells 2 _ rfl) rfl ?_
      refine WL.take rfl ?_
      refine WL.call Try.func48 rfl Try.nm48 rfl rfl (Same_c had hbd) ?_
      rintro _ w18 ⟨rfl, hGw18⟩
      have hB := ext_trans hB hGw18
      refine WL.pick rfl rfl rfl ?_
      refine WL.assign rfl rfl ?_
      refine WL.done ?_
      refine W.ret ?_
      refine ⟨_, rfl, ?_⟩
      exact ⟨_, rfl, hB, (fun h => ⟨eq_of_beq (show (na == nb) = true by assumption), of_decide_eq_true (show decide (xan = xbn) = true by assumption), of_decide_eq_true h⟩), fun h h2 => of_decide_eq_false h h2.2.2⟩

theorem qsame_c {w : World} {Ban : Nat} {Aan : Option Addr} {man can : Nat} {xan : List Nat} (han : Rd Ban w 1 Aan man can (us xan)) {Bad : Nat} {Aad : Option Addr} {mad cad : Nat} {xad : List Nat} (had : Rd Bad w 1 Aad mad cad (us xad)) {Bbn : Nat} {Abn : Option Addr} {mbn cbn : Nat} {xbn : List Nat} (hbn : Rd Bbn w 1 Abn mbn cbn (us xbn)) {Bbd : Nat} {Abd : Option Addr} {mbd cbd : Nat} {xbd : List Nat} (hbd : Rd Bbd w 1 Abd mbd cbd (us xbd)) {na nb : Bool} :
    Calls Try.prog 18 #[.agg #[.bool na, .slice Aan man can, .slice Aad mad cad], .agg #[.bool nb, .slice Abn mbn cbn, .slice Abd mbd cbd]] w fun e w2 => ∃ v, e = .returned v ∧ (fun v w2 => ∃ b : Bool, v = .bool b ∧ w.grownBy w2 none ∧ (b = true → na = nb ∧ xan = xbn ∧ xad = xbd) ∧ (b = false → ¬ (na = nb ∧ xan = xbn ∧ xad = xbd))) v w2 := by
  have han := han.norm
  have han_l := han.ulen
  have han_x := han.max
  simp only [maxLen] at han_x
  have han_c := han.cap
  have had := had.norm
  have had_l := had.ulen
  have had_x := had.max
  simp only [maxLen] at had_x
  have had_c := had.cap
  have hbn := hbn.norm
  have hbn_l := hbn.ulen
  have hbn_x := hbn.max
  simp only [maxLen] at hbn_x
  have hbn_c := hbn.cap
  have hbd := hbd.norm
  have hbd_l := hbd.ulen
  have hbd_x := hbd.max
  simp only [maxLen] at hbd_x
  have hbd_c := hbd.cap
  have han0 := han
  have had0 := had
  have hbn0 := hbn
  have hbd0 := hbd
  have hB := ext_refl w
  refine calls_of_W (vs := [.agg #[.bool na, .slice Aan man can, .slice Aad mad cad], .agg #[.bool nb, .slice Abn mbn cbn, .slice Abd mbd cbd]]) [4] Try.func18 rfl rfl rfl rfl ?_
  refine W.seq ?_
  refine W.region ?_
  refine WL.box Try.el31 rfl rfl rfl ?_
  intro g11 w12 hg_g11 hVg11 hGw12
  change Own _ _ _ _ _ _ _ [.bool na, .slice Aan man can, .slice Aad mad cad] at hVg11
  have hVg11 := hVg11.low (b' := w.heap.size) hB.size
  have hB := ext_trans hB hGw12
  have han := han0.ext hB
  have had := had0.ext hB
  have hbn := hbn0.ext hB
  have hbd := hbd0.ext hB
  refine WL.box Try.el31 rfl rfl rfl ?_
  intro g13 w14 hg_g13 hVg13 hGw14
  change Own _ _ _ _ _ _ _ [.bool nb, .slice Abn mbn cbn, .slice Abd mbd cbd] at hVg13
  have hlt_g11_g13 : g11 < g13 := by rw [hg_g13]; exact (hVg11.bl_ge _ rfl).2
  have hVg13 := hVg13.low (b' := w.heap.size) hB.size
  have hB := ext_trans hB hGw14
  have han := han0.ext hB
  have had := had0.ext hB
  have hbn := hbn0.ext hB
  have hbd := hbd0.ext hB
  have hVg11 := hVg11.ext hGw14
  refine WL.assign rfl rfl ?_
  refine WL.done ?_
  refine W.seq ?_
  refine W.region ?_
  refine WL.loadV (cs := [.bool na, .slice Aan man can, .slice Aad mad cad]) Try.el31 Try.agg31 rfl rfl hVg11.vcells rfl ?_
  refine WL.loadV (cs := [.bool nb, .slice Abn mbn cbn, .slice Abd mbd cbd]) Try.el31 Try.agg31 rfl rfl hVg13.vcells rfl ?_
  refine WL.call Try.func49 rfl Try.nm49 rfl rfl (rSame_c han had hbn hbd) ?_
  rintro _ w15 ⟨bhs, rfl, hGw15, hs_t, hs_f⟩
  have hB := ext_trans hB hGw15
  refine WL.assign rfl rfl ?_
  refine WL.done ?_
  refine W.ret ?_
  refine ⟨_, rfl, ?_⟩
  exact ⟨_, rfl, hB, hs_t, hs_f⟩

theorem qsame_t {w : World} {Ban : Nat} {Aan : Option Addr} {man can : Nat} {xan : List Nat} (han : Rd Ban w 1 Aan man can (us xan)) {Bad : Nat} {Aad : Option Addr} {mad cad : Nat} {xad : List Nat} (had : Rd Bad w 1 Aad mad cad (us xad)) {Bbn : Nat} {Abn : Option Addr} {mbn cbn : Nat} {xbn : List Nat} (hbn : Rd Bbn w 1 Abn mbn cbn (us xbn)) {Bbd : Nat} {Abd : Option Addr} {mbd cbd : Nat} {xbd : List Nat} (hbd : Rd Bbd w 1 Abd mbd cbd (us xbd)) {na nb : Bool} (h : na = nb ∧ xan = xbn ∧ xad = xbd) : Calls Try.prog 18 #[.agg #[.bool na, .slice Aan man can, .slice Aad mad cad], .agg #[.bool nb, .slice Abn mbn cbn, .slice Abd mbd cbd]] w fun e w2 => ∃ v, e = .returned v ∧ (fun v w2 => v = .bool true ∧ w.grownBy w2 none) v w2 :=
  (qsame_c han had hbn hbd).mono fun e w2 ⟨v, he, b, hv, hw, h1, h2⟩ => ⟨v, he, by rw [hv]; cases b with | true => rfl | false => exact absurd h (h2 rfl), hw⟩
end Go.Proofs.Ythfpcebcfjlkmab
set_option linter.unusedSimpArgs false
set_option linter.unusedVariables false
namespace Go.Proofs.Ythfpcebcfjlkmab
open Go.RowKit
theorem long_c {w : World} {X : Int} {most : Nat} {Bl BNl : Nat} {Al : Option Addr} {ml cl : Nat} {cel : List Value} {rl : List Fr3} (hl : Rd Bl w 3 Al ml cl cel) (hNl : RatsR BNl w cel rl) (hX : X = most) (hK : RLen 140737488355328 rl) :
    Calls Try.prog 17 #[.int .i64 X, .slice Al ml cl] w fun e w2 => ∃ v, e = .returned v ∧ (fun v w2 => ∃ b : Bool, v = .bool b ∧ w.grownBy w2 none ∧ (b = true → True) ∧ (b = false → ∀ j, j < rl.length → (rl.getD j fr0).2.1.length + (rl.getD j fr0).2.2.length ≤ most)) v w2 := by
  have hl := hl.norm
  have hNl := hNl.norm
  have hl_n := hl.len
  have hl_nn := hNl.len
  have hl_l : rl.length = ml := by omega
  have hl_x := hl.max
  simp only [maxLen] at hl_x
  have hl_c := hl.cap
  have hl0 := hl
  have hNl0 := hNl
  have hB := ext_refl w
  refine calls_of_W (vs := [.int .i64 X, .slice Al ml cl]) [4] Try.func17 rfl rfl rfl rfl ?_
  refine W.seq ?_
  refine W.region ?_
  refine WL.assign rfl rfl ?_
  refine WL.done ?_
  refine W.seq ?_
  refine W.seq ?_
  refine W.region ?_
  refine WL.assign rfl rfl ?_
  refine WL.done ?_
  refine W.block ?_
  refine W.loop (σ := Nat) (fun j w1 => w.grownBy w1 none ∧ j ≤ ml ∧ ∀ i, i < j → (rl.getD i fr0).2.1.length + (rl.getD i fr0).2.2.length ≤ most) (fun j => [(0, .int .i64 X), (1, .slice Al ml cl), (5, .int .i64 ((j : Nat) : Int))]) (fun j => ml - j) 0 ?_ ?_ ?_
  · exact ⟨hB, by omega, fun i h => by omega⟩
  · exact ⟨iv (by omega), rfl, iv (by omega), trivial⟩
  · rintro j w11 ⟨hB, hj, hin⟩
    have hl := hl0.ext hB
    have hNl := hNl0.ext hB
    refine W.seq ?_
    refine W.seq ?_
    refine W.region ?_
    refine WL.move rfl rfl ?_
    refine WL.move rfl rfl ?_
    refine WL.len Try.underlying44 rfl rfl ?_
    refine WL.lss rfl rfl rfl (fun c12 => ?_) (fun c12 => ?_)
    · refine WL.done ?_
      refine W.condT rfl ?_
      refine W.skip ?_
      refine W.seq ?_
      refine W.block ?_
      refine W.seq ?_
      obtain ⟨hk1, hk2⟩ := hK j (by omega); have hu1 := (hNl0.rd1 j (by omega)).ulen; have hu2 := (hNl0.rd2 j (by omega)).ulen
      · refine W.draw [⟨[], [1], true⟩, ⟨[], [5], true⟩, ⟨[0, 1], [], true⟩, ⟨[2], [], true⟩, ⟨[3], [], false⟩, ⟨[4], [], true⟩, ⟨[], [1], true⟩, ⟨[], [5], true⟩, ⟨[6, 7], [], true⟩, ⟨[8], [], true⟩, ⟨[9], [], false⟩, ⟨[10], [], true⟩, ⟨[5, 11], [], true⟩, ⟨[], [0], true⟩, ⟨[12, 13], [], true⟩] [[(1, .slice Al ml cl)], [(5, .int .i64 ((j : Nat) : Int))], [], [], [], [], [(1, .slice Al ml cl)], [(5, .int .i64 ((j : Nat) : Int))], [], [], [], [], [], [(0, .int .i64 X)], []] (fun iQ => [fun v wQ => v = .slice Al ml cl, fun v wQ => v = .int .i64 ((j : Nat) : Int), fun v wQ => v = .pointer (some ((adOf Al).add (j * 3))), fun v wQ => v = .pointer (some (((adOf Al).add (j * 3)).add 1)), fun v wQ => v = .slice (sA (cel.getD (j * 3 + 1) undef)) (sM (cel.getD (j * 3 + 1) undef)) (sC (cel.getD (j * 3 + 1) undef)), fun v wQ => v = .int .i64 (((sM (cel.getD (j * 3 + 1) undef)) : Nat) : Int), fun v wQ => v = .slice Al ml cl, fun v wQ => v = .int .i64 ((j : Nat) : Int), fun v wQ => v = .pointer (some ((adOf Al).add (j * 3))), fun v wQ => v = .pointer (some (((adOf Al).add (j * 3)).add 2)), fun v wQ => v = .slice (sA (cel.getD (j * 3 + 2) undef)) (sM (cel.getD (j * 3 + 2) undef)) (sC (cel.getD (j * 3 + 2) undef)), fun v wQ => v = .int .i64 (((sM (cel.getD (j * 3 + 2) undef)) : Nat) : Int), fun v wQ => v = .int .i64 (((sM (cel.getD (j * 3 + 1) undef)) + (sM (cel.getD (j * 3 + 2) undef)) : Nat) : Int), fun v wQ => v = .int .i64 X, fun v wQ => v = .bool (decide (X < (((sM (cel.getD (j * 3 + 1) undef)) + (sM (cel.getD (j * 3 + 2) undef)) : Nat) : Int)))].getD iQ (fun _ _ => True)) (fun _ => True) 15 Try.mixed (by kernel_rfl) ?_ ?_ ?_
        · refine Vs_mono _ ?_
          intro VQ hVQ vQ wQ1 wQ2 hQ1 hQ2
          have hQ2 := hQ2.resolve_right (by decide)
          simp only [List.mem_cons, List.not_mem_nil, or_false] at hVQ
          rcases hVQ with rfl | rfl | rfl | rfl | rfl | rfl | rfl | rfl | rfl | rfl | rfl | rfl | rfl | rfl | rfl
          · exact hQ1
          · exact hQ1
          · exact hQ1
          · exact hQ1
          · exact hQ1
          · exact hQ1
          · exact hQ1
          · exact hQ1
          · exact hQ1
          · exact hQ1
          · exact hQ1
          · exact hQ1
          · exact hQ1
          · exact hQ1
          · exact hQ1
        · refine ⟨⟨rfl, ⟨rfl, trivial⟩, ?_⟩, ⟨rfl, ⟨rfl, trivial⟩, ?_⟩, ⟨rfl, trivial, ?_⟩, ⟨rfl, trivial, ?_⟩, ⟨rfl, trivial, ?_⟩, ⟨rfl, trivial, ?_⟩, ⟨rfl, ⟨rfl, trivial⟩, ?_⟩, ⟨rfl, ⟨rfl, trivial⟩, ?_⟩, ⟨rfl, trivial, ?_⟩, ⟨rfl, trivial, ?_⟩, ⟨rfl, trivial, ?_⟩, ⟨rfl, trivial, ?_⟩, ⟨rfl, trivial, ?_⟩, ⟨rfl, ⟨rfl, trivial⟩, ?_⟩, ⟨rfl, trivial, ?_⟩, trivial⟩
          · intro w13 hE
            intro R
            refine WL.move rfl rfl ?_
            exact WL.done ⟨_, rfl, rfl, rfl⟩
          · intro w14 hE
            intro R
            refine WL.move rfl rfl ?_
            exact WL.done ⟨_, rfl, rfl, rfl⟩
          · intro w15 hE
            rintro _ rfl
            rintro _ rfl
            intro R
            refine WL.index (j) Try.underlying44 Try.el31 rfl rfl (by omega) (by omega) hl rfl ?_
            exact WL.done ⟨_, rfl, rfl, rfl⟩
          · intro w16 hE
            rintro _ rfl
            intro R
            refine WL.fieldA (off := 1) Try.fla31_1 rfl rfl ?_
            exact WL.done ⟨_, rfl, rfl, rfl⟩
          · intro w17 hE
            have hE := hE rfl
            have hB := ext_trans hB hE
            have hl := hl0.ext hB
            have hNl := hNl0.ext hB
            rintro _ rfl
            intro R
            refine WL.load Try.underlying23 rfl rfl (by rw [add_add]; exact Rd.at_ hl (hNl.c1 j (by omega))) rfl ?_
            exact WL.done ⟨_, rfl, ext_refl _, rfl⟩
          · intro w18 hE
            rintro _ rfl
            intro R
            refine WL.len Try.underlying23 rfl rfl ?_
            exact WL.done ⟨_, rfl, rfl, rfl⟩
          · intro w19 hE
            intro R
            refine WL.move rfl rfl ?_
            exact WL.done ⟨_, rfl, rfl, rfl⟩
          · intro w20 hE
            intro R
            refine WL.move rfl rfl ?_
            exact WL.done ⟨_, rfl, rfl, rfl⟩
          · intro w21 hE
            rintro _ rfl
            rintro _ rfl
            intro R
            refine WL.index (j) Try.underlying44 Try.el31 rfl rfl (by omega) (by omega) hl rfl ?_
            exact WL.done ⟨_, rfl, rfl, rfl⟩
          · intro w22 hE
            rintro _ rfl
            intro R
            refine WL.fieldA (off := 2) Try.fla31_2 rfl rfl ?_
            exact WL.done ⟨_, rfl, rfl, rfl⟩
          · intro w23 hE
            have hE := hE rfl
            have hB := ext_trans hB hE
            have hl := hl0.ext hB
            have hNl := hNl0.ext hB
            rintro _ rfl
            intro R
            refine WL.load Try.underlying23 rfl rfl (by rw [add_add]; exact Rd.at_ hl (hNl.c2 j (by omega))) rfl ?_
            exact WL.done ⟨_, rfl, ext_refl _, rfl⟩
          · intro w24 hE
            rintro _ rfl
            intro R
            refine WL.len Try.underlying23 rfl rfl ?_
            exact WL.done ⟨_, rfl, rfl, rfl⟩
          · intro w25 hE
            rintro _ rfl
            rintro _ rfl
            intro R
            refine WL.add (r := (((sM (cel.getD (j * 3 + 1) undef)) + (sM (cel.getD (j * 3 + 2) undef)) : Nat) : Int)) rfl rfl (wi64 (by omega) (by omega) (by omega)) rfl ?_
            exact WL.done ⟨_, rfl, rfl, rfl⟩
          · intro w26 hE
            intro R
            refine WL.move rfl rfl ?_
            exact WL.done ⟨_, rfl, rfl, rfl⟩
          · intro w27 hE
            rintro _ rfl
            rintro _ rfl
            intro R
            refine WL.gtrD rfl rfl rfl ?_
            exact WL.done ⟨_, rfl, rfl, rfl⟩
        · intro vals w28 hT hVs
          rw [if_neg (by decide)] at hT
          have hB := ext_trans hB hT
          have hv0 : vals 0 = _ := hVs 0 (by decide) (by decide)
          have hv1 : vals 1 = _ := hVs 1 (by decide) (by decide)
          have hv2 : vals 2 = _ := hVs 2 (by decide) (by decide)
          have hv3 : vals 3 = _ := hVs 3 (by decide) (by decide)
          have hv4 : vals 4 = _ := hVs 4 (by decide) (by decide)
          have hv5 : vals 5 = _ := hVs 5 (by decide) (by decide)
          have hv6 : vals 6 = _ := hVs 6 (by decide) (by decide)
          have hv7 : vals 7 = _ := hVs 7 (by decide) (by decide)
          have hv8 : vals 8 = _ := hVs 8 (by decide) (by decide)
          have hv9 : vals 9 = _ := hVs 9 (by decide) (by decide)
          have hv10 : vals 10 = _ := hVs 10 (by decide) (by decide)
          have hv11 : vals 11 = _ := hVs 11 (by decide) (by decide)
          have hv12 : vals 12 = _ := hVs 12 (by decide) (by decide)
          have hv13 : vals 13 = _ := hVs 13 (by decide) (by decide)
          have hv14 : vals 14 = _ := hVs 14 (by decide) (by decide)
          rw [show (List.filterMap (fun i => Option.map (fun t => (t, vals i)) (dstAt _ i)) (List.range _)) = [(12, .slice Al ml cl), (13, .int .i64 ((j : Nat) : Int)), (14, .pointer (some ((adOf Al).add (j * 3)))), (15, .pointer (some (((adOf Al).add (j * 3)).add 1))), (16, .slice (sA (cel.getD (j * 3 + 1) undef)) (sM (cel.getD (j * 3 + 1) undef)) (sC (cel.getD (j * 3 + 1) undef))), (17, .int .i64 (((sM (cel.getD (j * 3 + 1) undef)) : Nat) : Int)), (18, .slice Al ml cl), (19, .int .i64 ((j : Nat) : Int)), (20, .pointer (some ((adOf Al).add (j * 3)))), (21, .pointer (some (((adOf Al).add (j * 3)).add 2))), (22, .slice (sA (cel.getD (j * 3 + 2) undef)) (sM (cel.getD (j * 3 + 2) undef)) (sC (cel.getD (j * 3 + 2) undef))), (23, .int .i64 (((sM (cel.getD (j * 3 + 2) undef)) : Nat) : Int)), (24, .int .i64 (((sM (cel.getD (j * 3 + 1) undef)) + (sM (cel.getD (j * 3 + 2) undef)) : Nat) : Int)), (25, .int .i64 X), (26, .bool (decide (X < (((sM (cel.getD (j * 3 + 1) undef)) + (sM (cel.getD (j * 3 + 2) undef)) : Nat) : Int))))] from by
            show [(12, vals 0), (13, vals 1), (14, vals 2), (15, vals 3), (16, vals 4), (17, vals 5), (18, vals 6), (19, vals 7), (20, vals 8), (21, vals 9), (22, vals 10), (23, vals 11), (24, vals 12), (25, vals 13), (26, vals 14)] = _
            rw [hv0, hv1, hv2, hv3, hv4, hv5, hv6, hv7, hv8, hv9, hv10, hv11, hv12, hv13, hv14]]
          refine W.cond2 rfl (fun c29 => ?_) (fun c29 => ?_)
          · have c29 := of_decide_eq_true c29
            refine W.seq ?_
            refine W.region ?_
            refine WL.assign rfl rfl ?_
            refine WL.done ?_
            refine W.ret ?_
            refine ⟨_, rfl, ?_⟩
            exact ⟨true, rfl, hB, (fun _ => trivial), fun h => by cases h⟩
          · have c29 := of_decide_eq_false c29
            refine W.skip ?_
            refine W.region ?_
            refine WL.move rfl rfl ?_
            refine WL.add (r := ((j + 1 : Nat) : Int)) rfl rfl (wi64 (by omega) (by omega) (by omega)) rfl ?_
            refine WL.assign rfl rfl ?_
            refine WL.done ?_
            refine ⟨j + 1, ⟨iv (by omega), rfl, iv (by omega), trivial⟩, by omega, ?_⟩
            refine ⟨hB, by omega, fun i hi => ?_⟩
            rcases Nat.lt_succ_iff_lt_or_eq.1 hi with h | rfl
            · exact hin i h
            · omega
    · refine WL.done ?_
      refine W.condF rfl ?_
      refine W.exit ?_
      refine W.seq ?_
      refine W.region ?_
      refine WL.assign rfl rfl ?_
      refine WL.done ?_
      refine W.ret ?_
      refine ⟨_, rfl, ?_⟩
      exact ⟨false, rfl, hB, (fun h => by cases h), fun _ i hi => hin i (by omega)⟩

end Go.Proofs.Ythfpcebcfjlkmab
set_option linter.unusedSimpArgs false
set_option linter.unusedVariables false
namespace Go.Proofs.Ythfpcebcfjlkmab
open Go.RowKit
theorem fold_prod_z {w : World} {Bl BNl : Nat} {Al : Option Addr} {ml cl : Nat} {cel : List Value} {rl : List Fr3} (hl : Rd Bl w 3 Al ml cl cel) (hNl : RatsR BNl w cel rl) {ne : Bool} {An Ad : Option Addr} {mn cn md cd : Nat} (hm : ml = 0) :
    Calls Try.prog 64 #[.slice Al ml cl, .agg #[.bool ne, .slice An mn cn, .slice Ad md cd], .func (.func 67) #[] #[]] w fun e w2 => ∃ v, e = .returned v ∧ (fun v w2 => v = .agg #[.bool ne, .slice An mn cn, .slice Ad md cd] ∧ w.grownBy w2 none) v w2 := by
  have hl := hl.norm
  have hNl := hNl.norm
  have hl_n := hl.len
  have hl_nn := hNl.len
  have hl_l : rl.length = ml := by omega
  have hl_x := hl.max
  simp only [maxLen] at hl_x
  have hl_c := hl.cap
  have hl0 := hl
  have hNl0 := hNl
  have hB := ext_refl w
  refine calls_of_Wc (vs := [.slice Al ml cl, .agg #[.bool ne, .slice An mn cn, .slice Ad md cd], .func (.func 67) #[] #[]]) [.cell 6 31] Try.func64 rfl rfl rfl rfl ?_
  refine W.seq ?_
  refine W.region ?_
  refine WL.box Try.el31 rfl rfl rfl ?_
  intro g11 w12 hg_g11 hVg11 hGw12
  change Own _ _ _ _ _ _ _ [.bool ne, .slice An mn cn, .slice Ad md cd] at hVg11
  have hVg11 := hVg11.low (b' := w.heap.size) hB.size
  have hB := ext_trans hB hGw12
  refine WL.alloc Try.el31 rfl ?_
  intro g13 w14 hg_g13 hVg13 hGw14
  change Own _ _ _ _ _ _ _ [.bool false, .slice none 0 0, .slice none 0 0] at hVg13
  have hlt_g11_g13 : g11 < g13 := by rw [hg_g13]; exact (hVg11.bl_ge _ rfl).2
  have hVg13 := hVg13.low (b' := w.heap.size) hB.size
  have hB := ext_trans hB hGw14
  have hVg11 := hVg11.ext hGw14
  refine WL.done ?_
  refine W.seq ?_
  refine W.seq ?_
  refine W.region ?_
  refine WL.move rfl rfl ?_
  refine WL.len Try.underlying44 rfl rfl ?_
  refine WL.eql rfl rfl rfl (fun c15 => ?_) (fun c15 => ?_)
  · refine WL.done ?_
    refine W.condT rfl ?_
    refine W.seq ?_
    refine W.region ?_
    refine WL.loadV (cs := [.bool ne, .slice An mn cn, .slice Ad md cd]) Try.el31 Try.agg31 rfl rfl hVg11.vcells rfl ?_
    refine WL.storeV Try.el31 rfl rfl rfl rfl hVg13 ?_
    have hOld17 := hVg13
    intro w16 hVg13 hGw16
    change Own _ _ _ _ _ _ _ [.bool ne, .slice An mn cn, .slice Ad md cd] at hVg13
    have hB := ext_own hB hGw16 (fun g hg => (hOld17.bl_ge g hg).1)
    refine WL.done ?_
    refine W.ret ?_
    refine ⟨[.agg #[.bool ne, .slice An mn cn, .slice Ad md cd]], ⟨_, _, _, rfl, rfl, run_loadV (cs := [.bool ne, .slice An mn cn, .slice Ad md cd]) Try.el31 Try.agg31 rfl hVg13.vcells, rfl⟩, ?_⟩
    exact ⟨rfl, hB⟩
  · exfalso
    omega

theorem fold_prod {w : World} {Bl BNl : Nat} {Al : Option Addr} {ml cl : Nat} {cel : List Value} {rl : List Fr3} (hl : Rd Bl w 3 Al ml cl cel) (hNl : RatsR BNl w cel rl) (hLl : RLim rl) {ne : Bool} {An Ad : Option Addr} {mn cn md cd : Nat} (K : Nat) (hK : RLen K rl) (hfb : fb K ml ≤ 4194304) (hm : 0 < ml) :
    Calls Try.prog 64 #[.slice Al ml cl, .agg #[.bool ne, .slice An mn cn, .slice Ad md cd], .func (.func 67) #[] #[]] w fun e w2 => ∃ v, e = .returned v ∧ (fun v w2 => ∃ A2 m2 c2 A3 m3 c3, v = .agg #[.bool (qneg (qprod rl)), .slice A2 m2 c2, .slice A3 m3 c3] ∧ w.grownBy w2 none ∧ Own w.heap.size w2 43 1 A2 m2 c2 (us (digs (qnum (qprod rl)))) ∧ Own w.heap.size w2 43 1 A3 m3 c3 (us (digs (Rat.den (qprod rl)))) ∧ m2 ≤ fb K ml ∧ m3 ≤ fb K ml) v w2 := by
  have hl := hl.norm
  have hNl := hNl.norm
  have hl_n := hl.len
  have hl_nn := hNl.len
  have hl_l : rl.length = ml := by omega
  have hl_x := hl.max
  simp only [maxLen] at hl_x
  have hl_c := hl.cap
  have hl0 := hl
  have hNl0 := hNl
  have hf0 := fb_zero K
  have hfm := fb_mono (K := K) (Nat.zero_le rl.length)
  have hfb2 := hfb
  rw [← hl_l] at hfb2
  have hdl : (rl.drop 2).length = ml - 2 := by simp; omega
  have hB := ext_refl w
  refine calls_of_Wc (vs := [.slice Al ml cl, .agg #[.bool ne, .slice An mn cn, .slice Ad md cd], .func (.func 67) #[] #[]]) [.cell 6 31] Try.func64 rfl rfl rfl rfl ?_
  refine W.seq ?_
  refine W.region ?_
  refine WL.box Try.el31 rfl rfl rfl ?_
  intro ge w11 hg_ge hVge hGw11
  change Own _ _ _ _ _ _ _ [.bool ne, .slice An mn cn, .slice Ad md cd] at hVge
  have hVge := hVge.low (b' := w.heap.size) hB.size
  have hB := ext_trans hB hGw11
  have hl := hl0.ext hB
  have hNl := hNl0.ext hB
  refine WL.alloc Try.el31 rfl ?_
  intro go w12 hg_go hVgo hGw12
  change Own _ _ _ _ _ _ _ [.bool false, .slice none 0 0, .slice none 0 0] at hVgo
  have hlt_ge_go : ge < go := by rw [hg_go]; exact (hVge.bl_ge _ rfl).2
  have hVgo := hVgo.low (b' := w.heap.size) hB.size
  have hB := ext_trans hB hGw12
  have hl := hl0.ext hB
  have hNl := hNl0.ext hB
  have hVge := hVge.ext hGw12
  refine WL.done ?_
  refine W.seq ?_
  refine W.seq ?_
  refine W.region ?_
  refine WL.move rfl rfl ?_
  refine WL.len Try.underlying44 rfl rfl ?_
  refine WL.eql rfl rfl rfl (fun hm0 => ?_) (fun hm0 => ?_)
  · exfalso
    omega
  · refine WL.done ?_
    refine W.condF rfl ?_
    refine W.skip ?_
    refine W.seq ?_
    refine W.seq ?_
    refine W.region ?_
    refine WL.move rfl rfl ?_
    refine WL.len Try.underlying44 rfl rfl ?_
    refine WL.eql rfl rfl rfl (fun hm1 => ?_) (fun hm1 => ?_)
    · refine WL.done ?_
      refine W.condT rfl ?_
      refine W.seq ?_
      have hk0 := hK 0 (by omega); have hu0 := (hNl0.rd1 0 (by omega)).ulen; have hu1 := (hNl0.rd2 0 (by omega)).ulen
      · refine W.region ?_
        refine WL.move rfl rfl ?_
        refine WL.index (0) Try.underlying44 Try.el31 rfl rfl (by omega) (by omega) hl rfl ?_
        refine WL.loadV (cs := [.bool (rl.getD 0 fr0).1, .slice (sA (cel.getD (0 * 3 + 1) undef)) (sM (cel.getD (0 * 3 + 1) undef)) (sC (cel.getD (0 * 3 + 1) undef)), .slice (sA (cel.getD (0 * 3 + 2) undef)) (sM (cel.getD (0 * 3 + 2) undef)) (sC (cel.getD (0 * 3 + 2) undef))]) Try.el31 Try.agg31 rfl rfl (hNl.load hl 0 (by omega)) rfl ?_
        refine WL.call Try.func19 rfl Try.nm19 rfl rfl (qTrim_c (hNl.rd1 0 (by omega)) (hNl.rd2 0 (by omega)) (hLl 0 (by omega)).1 (hLl 0 (by omega)).2 (qv (rl.getD 0 fr0)) rfl (by omega)) ?_
        rintro _ w15 ⟨A16, m17, c18, A19, m20, c21, rfl, hGw15, hrn, hrd, hrm⟩
        have hap_hrn_go := ap_new hrn (hVgo.bl_ge _ rfl).2
        have hap_hrd_go := ap_new hrd (hVgo.bl_ge _ rfl).2
        have hrn := hrn.low (b' := w.heap.size) hB.size
        have hrd := hrd.low (b' := w.heap.size) hB.size
        have hB := ext_trans hB hGw15
        have hVgo := hVgo.ext hGw15
        have hrn_l := hrn.rd.ulen
        have hrd_l := hrd.rd.ulen
        refine WL.storeV Try.el31 rfl rfl rfl rfl hVgo ?_
        have hOld23 := hVgo
        intro w22 hVgo hGw22
        change Own _ _ _ _ _ _ _ [.bool (qneg ((qv (rl.getD 0 fr0)))), .slice A16 m17 c18, .slice A19 m20 c21] at hVgo
        have hB := ext_own hB hGw22 (fun g hg => (hOld23.bl_ge g hg).1)
        have hrn := hrn.grown hGw22 (ap_row (by first | exact hap_hrn_go | exact ap_type hrn hOld23 (by decide)))
        have hrd := hrd.grown hGw22 (ap_row (by first | exact hap_hrd_go | exact ap_type hrd hOld23 (by decide)))
        refine WL.done ?_
        refine W.ret ?_
        refine ⟨[.agg #[.bool (qneg ((qv (rl.getD 0 fr0)))), .slice A16 m17 c18, .slice A19 m20 c21]], ⟨_, _, _, rfl, rfl, run_loadV (cs := [.bool (qneg ((qv (rl.getD 0 fr0)))), .slice A16 m17 c18, .slice A19 m20 c21]) Try.el31 Try.agg31 rfl hVgo.vcells, rfl⟩, ?_⟩
        have e1 := qprod_one (rs := rl) (by omega)
        rw [e1]
        rw [hl_l] at hfm
        exact ⟨_, _, _, _, _, _, rfl, hB, hrn, hrd, by omega⟩
    · refine WL.done ?_
      refine W.condF rfl ?_
      refine W.skip ?_
      refine W.seq ?_
      have hk0 := hK 0 (by omega); have hk1 := hK 1 (by omega); have hu0 := (hNl0.rd1 0 (by omega)).ulen; have hu1 := (hNl0.rd2 0 (by omega)).ulen; have hu2 := (hNl0.rd1 1 (by omega)).ulen; have hu3 := (hNl0.rd2 1 (by omega)).ulen
      · refine W.drawT 9 [⟨[], [2], true⟩, ⟨[], [0], true⟩, ⟨[1], [], true⟩, ⟨[2], [], false⟩, ⟨[], [0], true⟩, ⟨[4], [], true⟩, ⟨[5], [], false⟩, ⟨[0, 3, 6], [], false⟩, ⟨[], [], false⟩] [[(2, .func (.func 67) #[] #[])], [(0, .slice Al ml cl)], [], [], [(0, .slice Al ml cl)], [], [], [], []] (fun iQ => [fun v wQ => v = .func (.func 67) #[] #[], fun v wQ => v = .slice Al ml cl, fun v wQ => v = .pointer (some ((adOf Al).add (0 * 3))), fun v wQ => v = .agg #[.bool (rl.getD 0 fr0).1, .slice (sA (cel.getD (0 * 3 + 1) undef)) (sM (cel.getD (0 * 3 + 1) undef)) (sC (cel.getD (0 * 3 + 1) undef)), .slice (sA (cel.getD (0 * 3 + 2) undef)) (sM (cel.getD (0 * 3 + 2) undef)) (sC (cel.getD (0 * 3 + 2) undef))], fun v wQ => v = .slice Al ml cl, fun v wQ => v = .pointer (some ((adOf Al).add (1 * 3))), fun v wQ => v = .agg #[.bool (rl.getD 1 fr0).1, .slice (sA (cel.getD (1 * 3 + 1) undef)) (sM (cel.getD (1 * 3 + 1) undef)) (sC (cel.getD (1 * 3 + 1) undef)), .slice (sA (cel.getD (1 * 3 + 2) undef)) (sM (cel.getD (1 * 3 + 2) undef)) (sC (cel.getD (1 * 3 + 2) undef))], fun v wQ => ∃ A33 m34 c35 A36 m37 c38, v = .agg #[.bool (qneg ((qv (rl.getD 0 fr0)) * (qv (rl.getD 1 fr0)))), .slice A33 m34 c35, .slice A36 m37 c38] ∧ (Own w.heap.size wQ 43 1 A33 m34 c35 (us (digs (qnum ((qv (rl.getD 0 fr0)) * (qv (rl.getD 1 fr0))))))) ∧ (Own w.heap.size wQ 43 1 A36 m37 c38 (us (digs (Rat.den ((qv (rl.getD 0 fr0)) * (qv (rl.getD 1 fr0))))))) ∧ (m34 ≤ (sM (cel.getD (0 * 3 + 1) undef)) + (sM (cel.getD (1 * 3 + 1) undef)) ∧ m37 ≤ (sM (cel.getD (0 * 3 + 2) undef)) + (sM (cel.getD (1 * 3 + 2) undef)) + 1) ∧ (∀ k, bl A33 = some k → k ≠ ge) ∧ (∀ k, bl A33 = some k → k ≠ go) ∧ (∀ k, bl A36 = some k → k ≠ ge) ∧ (∀ k, bl A36 = some k → k ≠ go), fun v wQ => ∃ gj, v = .pointer (some ⟨gj, 0, none⟩) ∧ (Own w.heap.size wQ 31 3 (some ⟨gj, 0, none⟩) 1 1 [.bool false, .slice none 0 0, .slice none 0 0]) ∧ (ge < gj) ∧ (go < gj)].getD iQ (fun _ _ => True)) Try.mixed (by kernel_rfl) ?_ ?_ ?_
        · refine Vs_monoT _ ?_
          intro VQ hVQ vQ wQ1 wQ2 hQ1 hQ2
          simp only [List.mem_cons, List.not_mem_nil, or_false] at hVQ
          rcases hVQ with rfl | rfl | rfl | rfl | rfl | rfl | rfl | rfl | rfl
          · exact hQ1
          · exact hQ1
          · exact hQ1
          · exact hQ1
          · exact hQ1
          · exact hQ1
          · exact hQ1
          · obtain ⟨A33, m34, c35, A36, m37, c38, hQe, hjn, hjd, hjm, hap_hjn_ge, hap_hjn_go, hap_hjd_ge, hap_hjd_go⟩ := hQ1
            exact ⟨A33, m34, c35, A36, m37, c38, hQe, hjn.ext hQ2, hjd.ext hQ2, hjm, hap_hjn_ge, hap_hjn_go, hap_hjd_ge, hap_hjd_go⟩
          · obtain ⟨gj, hQe, hVgj, hlt_ge_gj, hlt_go_gj⟩ := hQ1
            exact ⟨gj, hQe, hVgj.ext hQ2, hlt_ge_gj, hlt_go_gj⟩
        · refine ⟨⟨rfl, ⟨rfl, trivial⟩, ?_⟩, ⟨rfl, ⟨rfl, trivial⟩, ?_⟩, ⟨rfl, trivial, ?_⟩, ⟨rfl, trivial, ?_⟩, ⟨rfl, ⟨rfl, trivial⟩, ?_⟩, ⟨rfl, trivial, ?_⟩, ⟨rfl, trivial, ?_⟩, ⟨rfl, trivial, ?_⟩, ⟨rfl, trivial, ?_⟩, trivial⟩
          · intro w24 hE
            intro R
            refine WL.move rfl rfl ?_
            exact WL.done ⟨_, rfl, rfl, rfl⟩
          · intro w25 hE
            intro R
            refine WL.move rfl rfl ?_
            exact WL.done ⟨_, rfl, rfl, rfl⟩
          · intro w26 hE
            rintro _ rfl
            intro R
            refine WL.index (0) Try.underlying44 Try.el31 rfl rfl (by omega) (by omega) hl rfl ?_
            exact WL.done ⟨_, rfl, rfl, rfl⟩
          · intro w27 hE
            have hE := hE rfl
            have hB := ext_trans hB hE
            have hl := hl0.ext hB
            have hNl := hNl0.ext hB
            rintro _ rfl
            intro R
            refine WL.loadV (cs := [.bool (rl.getD 0 fr0).1, .slice (sA (cel.getD (0 * 3 + 1) undef)) (sM (cel.getD (0 * 3 + 1) undef)) (sC (cel.getD (0 * 3 + 1) undef)), .slice (sA (cel.getD (0 * 3 + 2) undef)) (sM (cel.getD (0 * 3 + 2) undef)) (sC (cel.getD (0 * 3 + 2) undef))]) Try.el31 Try.agg31 rfl rfl (hNl.load hl 0 (by omega)) rfl ?_
            exact WL.done ⟨_, rfl, ext_refl _, rfl⟩
          · intro w28 hE
            intro R
            refine WL.move rfl rfl ?_
            exact WL.done ⟨_, rfl, rfl, rfl⟩
          · intro w29 hE
            rintro _ rfl
            intro R
            refine WL.index (1) Try.underlying44 Try.el31 rfl rfl (by omega) (by omega) hl rfl ?_
            exact WL.done ⟨_, rfl, rfl, rfl⟩
          · intro w30 hE
            have hE := hE rfl
            have hB := ext_trans hB hE
            have hl := hl0.ext hB
            have hNl := hNl0.ext hB
            rintro _ rfl
            intro R
            refine WL.loadV (cs := [.bool (rl.getD 1 fr0).1, .slice (sA (cel.getD (1 * 3 + 1) undef)) (sM (cel.getD (1 * 3 + 1) undef)) (sC (cel.getD (1 * 3 + 1) undef)), .slice (sA (cel.getD (1 * 3 + 2) undef)) (sM (cel.getD (1 * 3 + 2) undef)) (sC (cel.getD (1 * 3 + 2) undef))]) Try.el31 Try.agg31 rfl rfl (hNl.load hl 1 (by omega)) rfl ?_
            exact WL.done ⟨_, rfl, ext_refl _, rfl⟩
          · intro w31 hE
            have hE := hE rfl
            have hB := ext_trans hB hE
            have hNl := hNl0.ext hB
            have hVge := hVge.ext hE
            have hVgo := hVgo.ext hE
            rintro _ rfl
            rintro _ rfl
            rintro _ rfl
            intro R
            refine WL.callv rfl Try.func67 rfl Try.nm67 rfl rfl (prod_c (hNl.rd1 0 (by omega)) (hNl.rd2 0 (by omega)) (hNl.rd1 1 (by omega)) (hNl.rd2 1 (by omega)) (hLl 0 (by omega)).1 (hLl 0 (by omega)).2 (qv (rl.getD 0 fr0)) rfl (hLl 1 (by omega)).1 (hLl 1 (by omega)).2 (qv (rl.getD 1 fr0)) rfl (by omega) (by omega)) ?_
            rintro _ w32 ⟨A33, m34, c35, A36, m37, c38, rfl, hGw32, hjn, hjd, hjm⟩
            have hap_hjn_ge := ap_new hjn (hVge.bl_ge _ rfl).2
            have hap_hjn_go := ap_new hjn (hVgo.bl_ge _ rfl).2
            have hap_hjd_ge := ap_new hjd (hVge.bl_ge _ rfl).2
            have hap_hjd_go := ap_new hjd (hVgo.bl_ge _ rfl).2
            have hjn := hjn.low (b' := w.heap.size) hB.size
            have hjd := hjd.low (b' := w.heap.size) hB.size
            have hB := ext_trans hB hGw32
            have hjn_l := hjn.rd.ulen
            have hjd_l := hjd.rd.ulen
            exact WL.done ⟨_, rfl, hGw32, ⟨A33, m34, c35, A36, m37, c38, rfl, hjn, hjd, hjm, hap_hjn_ge, hap_hjn_go, hap_hjd_ge, hap_hjd_go⟩⟩
          · intro w39 hE
            have hE := hE rfl
            have hB := ext_trans hB hE
            have hVge := hVge.ext hE
            have hVgo := hVgo.ext hE
            intro R
            refine WL.alloc Try.el31 rfl ?_
            intro gj w40 hg_gj hVgj hGw40
            change Own _ _ _ _ _ _ _ [.bool false, .slice none 0 0, .slice none 0 0] at hVgj
            have hlt_ge_gj : ge < gj := by rw [hg_gj]; exact (hVge.bl_ge _ rfl).2
            have hlt_go_gj : go < gj := by rw [hg_gj]; exact (hVgo.bl_ge _ rfl).2
            have hVgj := hVgj.low (b' := w.heap.size) hB.size
            have hB := ext_trans hB hGw40
            exact WL.done ⟨_, rfl, hGw40, ⟨gj, rfl, hVgj, hlt_ge_gj, hlt_go_gj⟩⟩
        · intro vals w41 hT hVs
          have hB := ext_trans hB hT
          have hl := hl0.ext hB
          have hNl := hNl0.ext hB
          have hVgo := hVgo.ext hT
          have hv0 : vals 0 = _ := hVs 0 (by decide)
          have hv1 : vals 1 = _ := hVs 1 (by decide)
          have hv2 : vals 2 = _ := hVs 2 (by decide)
          have hv3 : vals 3 = _ := hVs 3 (by decide)
          have hv4 : vals 4 = _ := hVs 4 (by decide)
          have hv5 : vals 5 = _ := hVs 5 (by decide)
          have hv6 : vals 6 = _ := hVs 6 (by decide)
          obtain ⟨A33, m34, c35, A36, m37, c38, hv7, hjn, hjd, hjm, hap_hjn_ge, hap_hjn_go, hap_hjd_ge, hap_hjd_go⟩ := hVs 7 (by decide)
          obtain ⟨gj, hv8, hVgj, hlt_ge_gj, hlt_go_gj⟩ := hVs 8 (by decide)
          have hap_hjn_gj := ap_type hjn hVgj (by decide)
          have hap_hjd_gj := ap_type hjd hVgj (by decide)
          rw [show (List.filterMap (fun i => Option.map (fun t => (t, vals i)) (dstAt _ i)) (List.range _)) = [(21, .func (.func 67) #[] #[]), (22, .slice Al ml cl), (23, .pointer (some ((adOf Al).add (0 * 3)))), (24, .agg #[.bool (rl.getD 0 fr0).1, .slice (sA (cel.getD (0 * 3 + 1) undef)) (sM (cel.getD (0 * 3 + 1) undef)) (sC (cel.getD (0 * 3 + 1) undef)), .slice (sA (cel.getD (0 * 3 + 2) undef)) (sM (cel.getD (0 * 3 + 2) undef)) (sC (cel.getD (0 * 3 + 2) undef))]), (25, .slice Al ml cl), (26, .pointer (some ((adOf Al).add (1 * 3)))), (27, .agg #[.bool (rl.getD 1 fr0).1, .slice (sA (cel.getD (1 * 3 + 1) undef)) (sM (cel.getD (1 * 3 + 1) undef)) (sC (cel.getD (1 * 3 + 1) undef)), .slice (sA (cel.getD (1 * 3 + 2) undef)) (sM (cel.getD (1 * 3 + 2) undef)) (sC (cel.getD (1 * 3 + 2) undef))]), (28, .agg #[.bool (qneg ((qv (rl.getD 0 fr0)) * (qv (rl.getD 1 fr0)))), .slice A33 m34 c35, .slice A36 m37 c38]), (7, .pointer (some ⟨gj, 0, none⟩))] from by
            show [(21, vals 0), (22, vals 1), (23, vals 2), (24, vals 3), (25, vals 4), (26, vals 5), (27, vals 6), (28, vals 7), (7, vals 8)] = _
            rw [hv0, hv1, hv2, hv3, hv4, hv5, hv6, hv7, hv8]]
          refine WA.step [9] (by decide +kernel) rfl ?_
          intro iQ hQ
          simp only [List.mem_cons, List.not_mem_nil, or_false] at hQ
          obtain rfl := hQ
          · refine ⟨_, rfl, ?_⟩
            refine WL.storeV Try.el31 rfl rfl rfl rfl hVgj ?_
            have hOld43 := hVgj
            intro w42 hVgj hGw42
            change Own _ _ _ _ _ _ _ [.bool (qneg ((qv (rl.getD 0 fr0)) * (qv (rl.getD 1 fr0)))), .slice A33 m34 c35, .slice A36 m37 c38] at hVgj
            have hB := ext_own hB hGw42 (fun g hg => (hOld43.bl_ge g hg).1)
            have hl := hl0.ext hB
            have hNl := hNl0.ext hB
            have hVgo := hVgo.grown hGw42 (apart (by omega))
            have hjn := hjn.grown hGw42 (ap_row (by first | exact hap_hjn_gj | exact ap_type hjn hOld43 (by decide)))
            have hjd := hjd.grown hGw42 (ap_row (by first | exact hap_hjd_gj | exact ap_type hjd hOld43 (by decide)))
            refine WL.done ?_
            refine WA.done (by decide +kernel) ?_
            refine W.seq ?_
            refine W.seq ?_
            refine W.region ?_
            refine WL.move rfl rfl ?_
            refine WL.slFrom (2) Try.underlying44 Try.el31 rfl rfl (by omega) (by omega) rfl ?_
            refine WL.len Try.underlying44 rfl rfl ?_
            refine WL.move rfl rfl ?_
            refine WL.done ?_
            refine W.block ?_
            refine W.loop (σ := Nat × Option Addr × Nat × Nat × Option Addr × Nat × Nat × Nat) (fun s w1 => match s with | (j, Aj, mj, cj, Ak, mk, ck, gx) => w.grownBy w1 none ∧ j ≤ ml - 2 ∧ Own w.heap.size w1 43 1 Aj mj cj (us (digs (qnum (qv (rl.getD 0 fr0) * qv (rl.getD 1 fr0) * qprod ((rl.drop 2).take j))))) ∧ Own w.heap.size w1 43 1 Ak mk ck (us (digs (Rat.den (qv (rl.getD 0 fr0) * qv (rl.getD 1 fr0) * qprod ((rl.drop 2).take j))))) ∧ mj ≤ fb K j ∧ mk ≤ fb K j ∧ gx = 0 ∧ Own w.heap.size w1 31 3 (some ⟨gj, 0, none⟩) 1 1 [.bool (qneg (qv (rl.getD 0 fr0) * qv (rl.getD 1 fr0) * qprod ((rl.drop 2).take j))), .slice Aj mj cj, .slice Ak mk ck] ∧ Own w.heap.size w1 31 3 (some ⟨go, 0, none⟩) 1 1 [.bool false, .slice none 0 0, .slice none 0 0]) (fun s => match s with | (j, Aj, mj, cj, Ak, mk, ck, gx) => [(0, .slice Al ml cl), (2, .func (.func 67) #[] #[]), (6, .pointer (some ⟨go, 0, none⟩)), (7, .pointer (some ⟨gj, 0, none⟩)), (30, .slice (if cl = 2 then Al else (Al).map (·.add (2 * 3))) (ml - 2) (cl - 2)), (31, .int .i64 ((ml - 2 : Nat) : Int)), (32, .int .i64 ((j : Nat) : Int))]) (fun s => match s with | (j, Aj, mj, cj, Ak, mk, ck, gx) => ml - 2 - j) (0, A33, m34, c35, A36, m37, c38, 0) ?_ ?_ ?_
            · have e0 : qv (rl.getD 0 fr0) * qv (rl.getD 1 fr0) = qv (rl.getD 0 fr0) * qv (rl.getD 1 fr0) * qprod ((rl.drop 2).take 0) := by rw [List.take_zero]; exact (Rat.mul_one _).symm
              rw [e0] at hjn hjd hVgj
              exact ⟨hB, by omega, hjn, hjd, by rw [hf0]; omega, by rw [hf0]; omega, rfl, hVgj, hVgo⟩
            · exact ⟨rfl, rfl, rfl, rfl, rfl, iv (by omega), iv (by omega), trivial⟩
            · rintro ⟨j, Aj, mj, cj, Ak, mk, ck, gx⟩ w44 ⟨hB, hj, hjn, hjd, hbj, hbk, hgx, hVgj, hVgo⟩
              have hl := hl0.ext hB
              have hNl := hNl0.ext hB
              have hjn_l := hjn.rd.ulen
              have hjd_l := hjd.rd.ulen
              have hap_hjn_go := ap_type hjn hVgo (by decide)
              have hap_hjd_go := ap_type hjd hVgo (by decide)
              refine W.seq ?_
              refine W.region ?_
              refine WL.lss rfl rfl rfl (fun c45 => ?_) (fun c45 => ?_)
              · refine WL.done ?_
                refine W.seq ?_
                refine W.condT rfl ?_
                refine W.skip ?_
                refine W.seq ?_
                refine W.block ?_
                refine W.seq ?_
                skip; have hkj := hK (2 + j) (by omega); have hv1 := ((hNl0.drop 2).rd1 j (by simp; omega)).ulen; have hv2 := ((hNl0.drop 2).rd2 j (by simp; omega)).ulen; rw [getD_frdrop] at hv1 hv2; have hfs := fb_succ K j; have hfj := fb_mono (K := K) (show j ≤ rl.length by omega)
                · refine W.region ?_
                  refine WL.index (j) Try.underlying44 Try.el31 rfl rfl (by omega) (by omega) (hl.drop (k := 2) (by omega)) rfl ?_
                  refine WL.loadV (cs := [.bool ((rl.drop 2).getD j fr0).1, .slice (sA ((cel.drop (2 * 3)).getD (j * 3 + 1) undef)) (sM ((cel.drop (2 * 3)).getD (j * 3 + 1) undef)) (sC ((cel.drop (2 * 3)).getD (j * 3 + 1) undef)), .slice (sA ((cel.drop (2 * 3)).getD (j * 3 + 2) undef)) (sM ((cel.drop (2 * 3)).getD (j * 3 + 2) undef)) (sC ((cel.drop (2 * 3)).getD (j * 3 + 2) undef))]) Try.el31 Try.agg31 rfl rfl ((hNl.drop 2).load (hl.drop (k := 2) (by omega)) j (by omega)) rfl ?_
                  refine WL.alloc Try.el31 rfl ?_
                  intro gn w46 hg_gn hVgn hGw46
                  change Own _ _ _ _ _ _ _ [.bool false, .slice none 0 0, .slice none 0 0] at hVgn
                  have hlt_go_gn : go < gn := by rw [hg_gn]; exact (hVgo.bl_ge _ rfl).2
                  have hlt_gj_gn : gj < gn := by rw [hg_gn]; exact (hVgj.bl_ge _ rfl).2
                  have hap_hjn_gn := ap_old hjn hg_gn
                  have hap_hjd_gn := ap_old hjd hg_gn
                  have hVgn := hVgn.low (b' := w.heap.size) hB.size
                  have hB := ext_trans hB hGw46
                  have hNl := hNl0.ext hB
                  have hjn := hjn.ext hGw46
                  have hjd := hjd.ext hGw46
                  have hVgj := hVgj.ext hGw46
                  have hVgo := hVgo.ext hGw46
                  refine WL.storeV Try.el31 rfl rfl rfl rfl hVgn ?_
                  have hOld48 := hVgn
                  intro w47 hVgn hGw47
                  change Own _ _ _ _ _ _ _ [.bool ((rl.drop 2).getD j fr0).1, .slice (sA ((cel.drop (2 * 3)).getD (j * 3 + 1) undef)) (sM ((cel.drop (2 * 3)).getD (j * 3 + 1) undef)) (sC ((cel.drop (2 * 3)).getD (j * 3 + 1) undef)), .slice (sA ((cel.drop (2 * 3)).getD (j * 3 + 2) undef)) (sM ((cel.drop (2 * 3)).getD (j * 3 + 2) undef)) (sC ((cel.drop (2 * 3)).getD (j * 3 + 2) undef))] at hVgn
                  have hB := ext_own hB hGw47 (fun g hg => (hOld48.bl_ge g hg).1)
                  have hNl := hNl0.ext hB
                  have hjn := hjn.grown hGw47 (ap_row (by first | exact hap_hjn_gn | exact ap_type hjn hOld48 (by decide)))
                  have hjd := hjd.grown hGw47 (ap_row (by first | exact hap_hjd_gn | exact ap_type hjd hOld48 (by decide)))
                  have hVgj := hVgj.grown hGw47 (apart (by omega))
                  have hVgo := hVgo.grown hGw47 (apart (by omega))
                  refine WL.done ?_
                  refine W.region ?_
                  refine WL.move rfl rfl ?_
                  refine WL.loadV (cs := [.bool (qneg (qv (rl.getD 0 fr0) * qv (rl.getD 1 fr0) * qprod ((rl.drop 2).take j))), .slice Aj mj cj, .slice Ak mk ck]) Try.el31 Try.agg31 rfl rfl hVgj.vcells rfl ?_
                  refine WL.loadV (cs := [.bool ((rl.drop 2).getD j fr0).1, .slice (sA ((cel.drop (2 * 3)).getD (j * 3 + 1) undef)) (sM ((cel.drop (2 * 3)).getD (j * 3 + 1) undef)) (sC ((cel.drop (2 * 3)).getD (j * 3 + 1) undef)), .slice (sA ((cel.drop (2 * 3)).getD (j * 3 + 2) undef)) (sM ((cel.drop (2 * 3)).getD (j * 3 + 2) undef)) (sC ((cel.drop (2 * 3)).getD (j * 3 + 2) undef))]) Try.el31 Try.agg31 rfl rfl hVgn.vcells rfl ?_
                  refine WL.callv rfl Try.func67 rfl Try.nm67 rfl rfl (prod_c hjn.rd hjd.rd ((hNl.drop 2).rd1 j (by omega)) ((hNl.drop 2).rd2 j (by omega)) (digs_lim _) (digs_lim _) (qv (rl.getD 0 fr0) * qv (rl.getD 1 fr0) * qprod ((rl.drop 2).take j)) (val_canon _) ((hLl.drop 2) j (by omega)).1 ((hLl.drop 2) j (by omega)).2 (qv ((rl.drop 2).getD j fr0)) rfl (by omega) (by omega)) ?_
                  rintro _ w49 ⟨A50, m51, c52, A53, m54, c55, rfl, hGw49, hrn, hrd, hrm⟩
                  have hap_hrn_gj := ap_new hrn (hVgj.bl_ge _ rfl).2
                  have hap_hrd_gj := ap_new hrd (hVgj.bl_ge _ rfl).2
                  have hrn := hrn.low (b' := w.heap.size) hB.size
                  have hrd := hrd.low (b' := w.heap.size) hB.size
                  have hB := ext_trans hB hGw49
                  have hjn := hjn.ext hGw49
                  have hjd := hjd.ext hGw49
                  have hVgj := hVgj.ext hGw49
                  have hVgo := hVgo.ext hGw49
                  have hrn_l := hrn.rd.ulen
                  have hrd_l := hrd.rd.ulen
                  refine WL.storeV Try.el31 rfl rfl rfl rfl hVgj ?_
                  have hOld57 := hVgj
                  intro w56 hVgj hGw56
                  change Own _ _ _ _ _ _ _ [.bool (qneg ((qv (rl.getD 0 fr0) * qv (rl.getD 1 fr0) * qprod ((rl.drop 2).take j)) * (qv ((rl.drop 2).getD j fr0)))), .slice A50 m51 c52, .slice A53 m54 c55] at hVgj
                  have hB := ext_own hB hGw56 (fun g hg => (hOld57.bl_ge g hg).1)
                  have hVgo := hVgo.grown hGw56 (apart (by omega))
                  have hrn := hrn.grown hGw56 (ap_row (by first | exact hap_hrn_gj | exact ap_type hrn hOld57 (by decide)))
                  have hrd := hrd.grown hGw56 (ap_row (by first | exact hap_hrd_gj | exact ap_type hrd hOld57 (by decide)))
                  refine WL.done ?_
                  refine W.region ?_
                  refine WL.add (r := ((j + 1 : Nat) : Int)) rfl rfl (wi64 (by omega) (by omega) (by omega)) rfl ?_
                  refine WL.move rfl rfl ?_
                  refine WL.done ?_
                  refine ⟨(j + 1, A50, m51, c52, A53, m54, c55, 0), ⟨rfl, rfl, rfl, rfl, rfl, iv (by omega), iv (by omega), trivial⟩, by (dsimp only; omega), ?_⟩
                  clear hjn hjd
                  have e1 : qv (rl.getD 0 fr0) * qv (rl.getD 1 fr0) * qprod ((rl.drop 2).take j) * qv ((rl.drop 2).getD j fr0) = qv (rl.getD 0 fr0) * qv (rl.getD 1 fr0) * qprod ((rl.drop 2).take (j + 1)) := by rw [qprod_take (by simp; omega)]; simp only [Rat.mul_assoc]
                  rw [e1] at hrn hrd hVgj
                  exact ⟨hB, by omega, hrn, hrd, by omega, by omega, rfl, hVgj, hVgo⟩
              · refine WL.done ?_
                refine W.seq ?_
                refine W.condF rfl ?_
                refine W.exit ?_
                refine W.seq ?_
                refine W.region ?_
                refine WL.loadV (cs := [.bool (qneg (qv (rl.getD 0 fr0) * qv (rl.getD 1 fr0) * qprod ((rl.drop 2).take j))), .slice Aj mj cj, .slice Ak mk ck]) Try.el31 Try.agg31 rfl rfl hVgj.vcells rfl ?_
                refine WL.storeV Try.el31 rfl rfl rfl rfl hVgo ?_
                have hOld59 := hVgo
                intro w58 hVgo hGw58
                change Own _ _ _ _ _ _ _ [.bool (qneg (qv (rl.getD 0 fr0) * qv (rl.getD 1 fr0) * qprod ((rl.drop 2).take j))), .slice Aj mj cj, .slice Ak mk ck] at hVgo
                have hB := ext_own hB hGw58 (fun g hg => (hOld59.bl_ge g hg).1)
                have hjn := hjn.grown hGw58 (ap_row (by first | exact hap_hjn_go | exact ap_type hjn hOld59 (by decide)))
                have hjd := hjd.grown hGw58 (ap_row (by first | exact hap_hjd_go | exact ap_type hjd hOld59 (by decide)))
                refine WL.done ?_
                refine W.ret ?_
                refine ⟨[.agg #[.bool (qneg (qv (rl.getD 0 fr0) * qv (rl.getD 1 fr0) * qprod ((rl.drop 2).take j))), .slice Aj mj cj, .slice Ak mk ck]], ⟨_, _, _, rfl, rfl, run_loadV (cs := [.bool (qneg (qv (rl.getD 0 fr0) * qv (rl.getD 1 fr0) * qprod ((rl.drop 2).take j))), .slice Aj mj cj, .slice Ak mk ck]) Try.el31 Try.agg31 rfl hVgo.vcells, rfl⟩, ?_⟩
                have e2 : qv (rl.getD 0 fr0) * qv (rl.getD 1 fr0) * qprod ((rl.drop 2).take j) = qprod rl := by rw [List.take_of_length_le (by simp; omega), ← qprod_two (by omega)]
                rw [e2] at hjn hjd ⊢
                have hfl := fb_mono (K := K) (show j ≤ rl.length by omega)
                rw [hl_l] at hfl
                exact ⟨_, _, _, _, _, _, rfl, hB, hjn, hjd, by omega⟩
end Go.Proofs.Ythfpcebcfjlkmab
set_option linter.unusedSimpArgs false
set_option linter.unusedVariables false
namespace Go.Proofs.Ythfpcebcfjlkmab
open Go.RowKit
theorem qMul_c {w : World} {Bl BNl : Nat} {Al : Option Addr} {ml cl : Nat} {cel : List Value} {rl : List Fr3} (hl : Rd Bl w 3 Al ml cl cel) (hNl : RatsR BNl w cel rl) (hLl : RLim rl) (K : Nat) (hK : RLen K rl) (hfb : fb K ml ≤ 4194304) :
    Calls Try.prog 34 #[.slice Al ml cl] w fun e w2 => ∃ v, e = .returned v ∧ (fun v w2 => ∃ A2 m2 c2 A3 m3 c3, v = .agg #[.bool (qneg (qprod rl)), .slice A2 m2 c2, .slice A3 m3 c3] ∧ w.grownBy w2 none ∧ Own w.heap.size w2 43 1 A2 m2 c2 (us (digs (qnum (qprod rl)))) ∧ Own w.heap.size w2 43 1 A3 m3 c3 (us (digs (Rat.den (qprod rl)))) ∧ m2 ≤ fb K ml ∧ m3 ≤ fb K ml) v w2 := by
  have hl := hl.norm
  have hNl := hNl.norm
  have hl_n := hl.len
  have hl_nn := hNl.len
  have hl_l : rl.length = ml := by omega
  have hl_x := hl.max
  simp only [maxLen] at hl_x
  have hl_c := hl.cap
  have hl0 := hl
  have hNl0 := hNl
  have hB := ext_refl w
  refine calls_of_Wc (vs := [.slice Al ml cl]) [.cell 2 31] Try.func34 rfl rfl rfl rfl ?_
  refine W.seq ?_
  refine W.region ?_
  refine WL.alloc Try.el31 rfl ?_
  intro g11 w12 hg_g11 hVg11 hGw12
  change Own _ _ _ _ _ _ _ [.bool false, .slice none 0 0, .slice none 0 0] at hVg11
  have hVg11 := hVg11.low (b' := w.heap.size) hB.size
  have hB := ext_trans hB hGw12
  have hl := hl0.ext hB
  have hNl := hNl0.ext hB
  refine WL.done ?_
  refine W.seq ?_
  rcases Nat.eq_zero_or_pos ml with hm | hm
  · refine W.region ?_
    refine WL.move rfl rfl ?_
    refine WL.call Try.func66 rfl Try.nm66 rfl rfl (one_c) ?_
    rintro _ w13 ⟨A14, m15, c16, rfl, hGw13, hp, hpm⟩
    have hap_hp_g11 := ap_new hp (hVg11.bl_ge _ rfl).2
    have hp := hp.low (b' := w.heap.size) hB.size
    have hB := ext_trans hB hGw13
    have hl := hl0.ext hB
    have hNl := hNl0.ext hB
    have hVg11 := hVg11.ext hGw13
    have hp_l := hp.rd.ulen
    refine WL.call Try.func66 rfl Try.nm66 rfl rfl (one_c) ?_
    rintro _ w17 ⟨A18, m19, c20, rfl, hGw17, hq, hqm⟩
    have hap_hq_g11 := ap_new hq (hVg11.bl_ge _ rfl).2
    have hq := hq.low (b' := w.heap.size) hB.size
    have hB := ext_trans hB hGw17
    have hl := hl0.ext hB
    have hNl := hNl0.ext hB
    have hVg11 := hVg11.ext hGw17
    have hp := hp.ext hGw17
    have hq_l := hq.rd.ulen
    refine WL.build (cells := #[.bool false, .slice A14 m15 c16, .slice A18 m19 c20]) Try.bld31 rfl rfl rfl ?_
    refine WL.call Try.func64 rfl Try.nm64 rfl rfl (fold_prod_z hl hNl hm) ?_
    rintro _ w21 ⟨rfl, hGw21⟩
    have hB := ext_trans hB hGw21
    have hVg11 := hVg11.ext hGw21
    have hp := hp.ext hGw21
    have hq := hq.ext hGw21
    refine WL.storeV Try.el31 rfl rfl rfl rfl hVg11 ?_
    have hOld23 := hVg11
    intro w22 hVg11 hGw22
    change Own _ _ _ _ _ _ _ [.bool false, .slice A14 m15 c16, .slice A18 m19 c20] at hVg11
    have hB := ext_own hB hGw22 (fun g hg => (hOld23.bl_ge g hg).1)
    have hp := hp.grown hGw22 (ap_row (by first | exact hap_hp_g11 | exact ap_type hp hOld23 (by decide)))
    have hq := hq.grown hGw22 (ap_row (by first | exact hap_hq_g11 | exact ap_type hq hOld23 (by decide)))
    refine WL.done ?_
    refine W.ret ?_
    refine ⟨[.agg #[.bool false, .slice A14 m15 c16, .slice A18 m19 c20]], ⟨_, _, _, rfl, rfl, run_loadV (cs := [.bool false, .slice A14 m15 c16, .slice A18 m19 c20]) Try.el31 Try.agg31 rfl hVg11.vcells, rfl⟩, ?_⟩
    have e0 : qprod rl = 1 := by rw [List.eq_nil_of_length_eq_zero (show rl.length = 0 by omega)]; rfl
    rw [e0]
    have hf0 := fb_zero K
    have hfm := fb_mono (K := K) (Nat.zero_le ml)
    exact ⟨_, _, _, _, _, _, rfl, hB, hp, hq, by omega⟩
  · refine W.region ?_
    refine WL.move rfl rfl ?_
    refine WL.call Try.func66 rfl Try.nm66 rfl rfl (one_c) ?_
    rintro _ w24 ⟨A25, m26, c27, rfl, hGw24, hp, hpm⟩
    have hp := hp.low (b' := w.heap.size) hB.size
    have hB := ext_trans hB hGw24
    have hl := hl0.ext hB
    have hNl := hNl0.ext hB
    have hVg11 := hVg11.ext hGw24
    have hp_l := hp.rd.ulen
    refine WL.call Try.func66 rfl Try.nm66 rfl rfl (one_c) ?_
    rintro _ w28 ⟨A29, m30, c31, rfl, hGw28, hq, hqm⟩
    have hq := hq.low (b' := w.heap.size) hB.size
    have hB := ext_trans hB hGw28
    have hl := hl0.ext hB
    have hNl := hNl0.ext hB
    have hVg11 := hVg11.ext hGw28
    have hq_l := hq.rd.ulen
    refine WL.build (cells := #[.bool false, .slice A25 m26 c27, .slice A29 m30 c31]) Try.bld31 rfl rfl rfl ?_
    refine WL.call Try.func64 rfl Try.nm64 rfl rfl (fold_prod hl hNl hLl K hK hfb hm) ?_
    rintro _ w32 ⟨A33, m34, c35, A36, m37, c38, rfl, hGw32, hrn, hrd, hrm⟩
    have hap_hrn_g11 := ap_new hrn (hVg11.bl_ge _ rfl).2
    have hap_hrd_g11 := ap_new hrd (hVg11.bl_ge _ rfl).2
    have hrn := hrn.low (b' := w.heap.size) hB.size
    have hrd := hrd.low (b' := w.heap.size) hB.size
    have hB := ext_trans hB hGw32
    have hVg11 := hVg11.ext hGw32
    have hrn_l := hrn.rd.ulen
    have hrd_l := hrd.rd.ulen
    refine WL.storeV Try.el31 rfl rfl rfl rfl hVg11 ?_
    have hOld40 := hVg11
    intro w39 hVg11 hGw39
    change Own _ _ _ _ _ _ _ [.bool (qneg (qprod rl)), .slice A33 m34 c35, .slice A36 m37 c38] at hVg11
    have hB := ext_own hB hGw39 (fun g hg => (hOld40.bl_ge g hg).1)
    have hrn := hrn.grown hGw39 (ap_row (by first | exact hap_hrn_g11 | exact ap_type hrn hOld40 (by decide)))
    have hrd := hrd.grown hGw39 (ap_row (by first | exact hap_hrd_g11 | exact ap_type hrd hOld40 (by decide)))
    refine WL.done ?_
    refine W.ret ?_
    refine ⟨[.agg #[.bool (qneg (qprod rl)), .slice A33 m34 c35, .slice A36 m37 c38]], ⟨_, _, _, rfl, rfl, run_loadV (cs := [.bool (qneg (qprod rl)), .slice A33 m34 c35, .slice A36 m37 c38]) Try.el31 Try.agg31 rfl hVg11.vcells, rfl⟩, ?_⟩
    exact ⟨_, _, _, _, _, _, rfl, hB, hrn, hrd, by omega⟩

theorem qMul2_c {w : World} {B BN : Nat} {A : Option Addr} {c : Nat} {na nb : Bool} {Aan Aad Abn Abd : Option Addr} {man can mad cad mbn cbn mbd cbd : Nat} {xan xad xbn xbd : List Nat}
    (hT : Rd B w 3 A 2 c [.bool na, .slice Aan man can, .slice Aad mad cad, .bool nb, .slice Abn mbn cbn, .slice Abd mbd cbd]) (hN : RatsR BN w [.bool na, .slice Aan man can, .slice Aad mad cad, .bool nb, .slice Abn mbn cbn, .slice Abd mbd cbd] [(na, xan, xad), (nb, xbn, xbd)])
    (hLan : Lim xan) (hLad : Lim xad) (hLbn : Lim xbn) (hLbd : Lim xbd) (qa : Rat) (hqa : val na (nv xan) (nv xad) = qa) (qb : Rat) (hqb : val nb (nv xbn) (nv xbd) = qb) (K : Nat) (hs : man ≤ K ∧ mad ≤ K ∧ mbn ≤ K ∧ mbd ≤ K) (hK : 4 * (K + 1) + 1 ≤ 4194304) :
    Calls Try.prog 34 #[.slice A 2 c] w fun e w2 => ∃ v, e = .returned v ∧ (fun v w2 => ∃ A2 m2 c2 A3 m3 c3, v = .agg #[.bool (qneg (qa * qb)), .slice A2 m2 c2, .slice A3 m3 c3] ∧ w.grownBy w2 none ∧ Own w.heap.size w2 43 1 A2 m2 c2 (us (digs (qnum (qa * qb)))) ∧ Own w.heap.size w2 43 1 A3 m3 c3 (us (digs (Rat.den (qa * qb)))) ∧ m2 ≤ 4 * (K + 1) + 1 ∧ m3 ≤ 4 * (K + 1) + 1) v w2 := by
  have h1 : xan.length = man := (hN.rd1 0 (by simp)).ulen
  have h2 : xad.length = mad := (hN.rd2 0 (by simp)).ulen
  have h3 : xbn.length = mbn := (hN.rd1 1 (by simp)).ulen
  have h4 : xbd.length = mbd := (hN.rd2 1 (by simp)).ulen
  have e : qprod [(na, xan, xad), (nb, xbn, xbd)] = qa * qb := by simp only [qprod, qv, Rat.mul_one]; rw [hqa, hqb]
  have hf : fb K 2 = 4 * (K + 1) + 1 := rfl
  refine (qMul_c hT hN (RLim.cons hLan hLad (RLim.cons hLbn hLbd RLim.nil)) K (RLen.cons (by omega) (by omega) (RLen.cons (by omega) (by omega) (RLen.nil _))) (by omega)).mono fun e w2 h => ?_
  rw [hf] at h
  rwa [‹qprod _ = _›] at h

end Go.Proofs.Ythfpcebcfjlkmab
set_option linter.unusedSimpArgs false
set_option linter.unusedVariables false
namespace Go.Proofs.Ythfpcebcfjlkmab
open Go.RowKit
/-- The same, where one operation ahead of m may come late. -/
def tailF (n : Nat) (l : List Oper) (ps : List Plan) (m f : Nat) : Bool :=
  ps.length == m && Nat.ble m l.length && (List.range l.length).all (fun i => (anyOn l i).all (fun j => Nat.blt j i)) &&
    (List.range l.length).all (fun i => Nat.blt i m || (List.range m).all (fun j => j == f || (reach l 6 (anyOn l i)).contains j)) && (List.range m).all fun i =>
    (match ps[i]? with
     | none => false
     | some p => p.on.all (fun j => (anyOn l i).contains j) && p.slots.all (fun t => (List.range m).all fun k => k == i || dstAt l k != some t || (anyOn l k).contains i)) &&
    (match dstAt l i with
     | none => false
     | some d => Nat.blt d n && (List.range m).all fun k => k == i || dstAt l k != some d)
end Go.Proofs.Ythfpcebcfjlkmab
set_option linter.unusedSimpArgs false
set_option linter.unusedVariables false
namespace Go.Proofs.Ythfpcebcfjlkmab
/-! ### powers of fractions -/
theorem powcap {x k N : Nat} (h : k = N ∨ (131072 ≤ k ∧ 131072 ≤ N)) : (x ^ k < bigN ↔ x ^ N < bigN) ∧ (x ^ N < bigN → x ^ k = x ^ N) := by
  rcases h with rfl | ⟨h1, h2⟩
  · exact ⟨Iff.rfl, fun _ => rfl⟩
  · rcases Nat.lt_or_ge x 2 with h | h
    · have : x = 0 ∨ x = 1 := by omega
      rcases this with rfl | rfl
      · rw [Nat.zero_pow (by omega), Nat.zero_pow (by omega)]; exact ⟨Iff.rfl, fun _ => rfl⟩
      · rw [Nat.one_pow, Nat.one_pow]; exact ⟨Iff.rfl, fun _ => rfl⟩
    · have hb : ∀ j, 131072 ≤ j → ¬ x ^ j < bigN := fun j hj => by
        have := pow_big2 (a := x) (n := j) h hj
        omega
      exact ⟨⟨fun h3 => absurd h3 (hb k h1), fun h3 => absurd h3 (hb N h2)⟩, fun h3 => absurd h3 (hb N h2)⟩
def cntZ (X : Int) : Nat := if X = -9223372036854775808 then 9223372036854775807 else X.natAbs
def crZ (X : Int) : Nat := if X < 0 then min X.natAbs 4611686018427387904 else X.natAbs
def negw (X : Int) : Int := if X = -9223372036854775808 then X else -X
def mxw (X : Int) : Int := max X (negw X)
theorem cntZ_cap (X : Int) : cntZ X = X.natAbs ∨ (131072 ≤ cntZ X ∧ 131072 ≤ X.natAbs) := by unfold cntZ; split <;> omega
theorem crZ_cap (X : Int) : crZ X = X.natAbs ∨ (131072 ≤ crZ X ∧ 131072 ≤ X.natAbs) := by unfold crZ; split <;> omega
theorem cntZ_lt {X : Int} (h : -9223372036854775808 ≤ X ∧ X ≤ 9223372036854775807) : cntZ X < 9223372036854775808 := by unfold cntZ; split <;> omega
theorem crZ_lt {X : Int} (h : -9223372036854775808 ≤ X ∧ X ≤ 9223372036854775807) : crZ X < 9223372036854775808 := by unfold crZ; split <;> omega
theorem negw_wrap {X : Int} (h : -9223372036854775808 ≤ X ∧ X ≤ 9223372036854775807) : IntKind.i64.wrap (0 - X) = negw X := by
  unfold negw; split
  · rename_i h1; subst h1; rfl
  · exact wi64 (by omega) (by omega) (by omega)
theorem tm2 (X : Int) : X.tmod 2 ≠ 0 ↔ X % 2 ≠ 0 := by
  rw [Int.tmod_eq_emod]; split <;> omega
theorem ipow_neg : ∀ (z : Int) (n : Nat), decide (z ^ n < 0) = (decide (z < 0) && decide (n % 2 ≠ 0))
  | z, 0 => by simp
  | z, n + 1 => by
    have ih := ipow_neg z n
    rw [Int.pow_succ]
    rcases Int.lt_trichotomy z 0 with h | h | h
    · have hne : z ^ n ≠ 0 := Int.pow_ne_zero (by omega)
      have e1 : decide (z < 0) = true := decide_eq_true h
      rw [e1, Bool.true_and] at ih ⊢
      by_cases hn : n % 2 ≠ 0
      · rw [decide_eq_true hn] at ih
        have h1 := of_decide_eq_true ih
        have h2 : 0 < z ^ n * z := Int.mul_pos_of_neg_of_neg h1 h
        rw [decide_eq_false (by omega), decide_eq_false (by omega)]
      · rw [decide_eq_false hn] at ih
        have h1 := of_decide_eq_false ih
        have h2 : z ^ n * z < 0 := Int.mul_neg_of_pos_of_neg (by omega) h
        rw [decide_eq_true h2, decide_eq_true (by omega)]
    · subst h; simp
    · have h1 : 0 < z ^ n := Int.pow_pos h
      have h2 : 0 < z ^ n * z := Int.mul_pos h1 h
      rw [decide_eq_false (by omega), decide_eq_false (by omega)]; rfl
theorem qneg_pow (q : Rat) (n : Nat) : qneg (q ^ n) = (qneg q && decide (n % 2 ≠ 0)) := by
  unfold qneg; rw [Rat.num_pow]; exact ipow_neg _ _
theorem qnum_pow (q : Rat) (n : Nat) : qnum (q ^ n) = qnum q ^ n := by
  unfold qnum; rw [Rat.num_pow, Int.natAbs_pow]
theorem zp_pos {q : Rat} {X : Int} (h : 0 ≤ X) : qneg (q ^ X) = (qneg q && decide (X % 2 ≠ 0)) ∧ qnum (q ^ X) = qnum q ^ X.natAbs ∧ (q ^ X).den = q.den ^ X.natAbs := by
  obtain ⟨n, rfl⟩ : ∃ n : Nat, X = n := ⟨X.toNat, by omega⟩
  rw [Rat.zpow_natCast, Int.natAbs_natCast]
  refine ⟨?_, qnum_pow q n, Rat.den_pow q n⟩
  rw [qneg_pow]; congr 1
  exact decide_eq_decide.2 (by omega)
theorem val_qinv {q : Rat} (h : q ≠ 0) : val (qneg q) q.den (qnum q) = q⁻¹ := by
  have := val_inv (a := qneg q) (fun h1 => h (qnum_eq_zero.1 h1)) q.den_nz
  rw [val_q] at this; exact this
theorem inv_parts {q : Rat} (h : q ≠ 0) : qneg q⁻¹ = qneg q ∧ qnum q⁻¹ = q.den ∧ (q⁻¹).den = qnum q := by
  have hn : qnum q ≠ 0 := fun h1 => h (qnum_eq_zero.1 h1)
  have hg : Nat.gcd q.den (qnum q) = 1 := by rw [Nat.gcd_comm]; exact q.reduced
  rw [← val_qinv h, val_qneg q.den_nz hn, val_qnum hn, val_den hn, hg, Nat.div_one, Nat.div_one]
  exact ⟨rfl, rfl, rfl⟩
theorem zp_neg {q : Rat} {X : Int} (hq : q ≠ 0) (h : X < 0) : qneg (q ^ X) = (qneg q && decide (X % 2 ≠ 0)) ∧ qnum (q ^ X) = q.den ^ X.natAbs ∧ (q ^ X).den = qnum q ^ X.natAbs := by
  obtain ⟨n, rfl⟩ : ∃ n : Nat, X = -(n : Int) := ⟨X.natAbs, by omega⟩
  have hi := inv_parts hq
  have e : q ^ (-(n : Int)) = q⁻¹ ^ n := by
    rw [Rat.zpow_neg, Rat.zpow_natCast]
    have hqn : q ^ n ≠ 0 := fun h0 => by
      have h1 := congrArg qnum h0
      rw [qnum_pow, qnum_zero] at h1
      exact hq (qnum_eq_zero.1 (Nat.pow_eq_zero.1 h1).1)
    have h2 : q⁻¹ ^ n * q ^ n = 1 := by
      clear hqn h hi
      induction n with
      | zero => simp
      | succ n ih =>
        rw [Rat.pow_succ, Rat.pow_succ]
        have h3 := Rat.inv_mul_cancel _ hq
        have : q⁻¹ ^ n * q⁻¹ * (q ^ n * q) = (q⁻¹ ^ n * q ^ n) * (q⁻¹ * q) := by grind
        rw [this, ih, h3]; grind
    have h4 : q⁻¹ ^ n * q ^ n * (q ^ n)⁻¹ = 1 * (q ^ n)⁻¹ := by rw [h2]
    rw [Rat.mul_assoc, Rat.mul_inv_cancel _ hqn, Rat.mul_one, Rat.one_mul] at h4
    exact h4.symm
  rw [e, qneg_pow, qnum_pow, Rat.den_pow, hi.1, hi.2.1, hi.2.2]
  refine ⟨?_, by rw [show (-(n : Int)).natAbs = n by omega], by rw [show (-(n : Int)).natAbs = n by omega]⟩
  congr 1
  exact decide_eq_decide.2 (by omega)
theorem zp_add {q : Rat} (hq : q ≠ 0) (m n : Int) : q ^ (m + n) = q ^ m * q ^ n := Rat.zpow_add hq m n
/-- Few limbs, a small exponent: the power is small. -/
theorem small_pow {x k j : Nat} (hx : x < 4294967296 ^ k) (hk : k ≤ 3) (hj : j ≤ 256) : x ^ j < bigN := by
  rcases Nat.eq_zero_or_pos j with h0 | h0
  · subst h0; rw [Nat.pow_zero]; exact Nat.lt_of_lt_of_le (by decide) (Nat.le_of_lt bigN_gt)
  · have h1 : x ^ j < (4294967296 ^ k) ^ j := Nat.pow_lt_pow_left hx (by omega)
    rw [← Nat.pow_mul] at h1
    have h2 : 4294967296 ^ (k * j) ≤ 4294967296 ^ c4 := Nat.pow_le_pow_right (by decide) (Nat.le_trans (Nat.mul_le_mul hk hj) (by rw [c4_eq]; decide))
    rw [bigN_eq]; exact Nat.lt_of_lt_of_le h1 h2
end Go.Proofs.Ythfpcebcfjlkmab
namespace Go.Proofs.Ythfpcebcfjlkmab
theorem sgn_f1 {q : Rat} {X : Int} (h : qneg q = false) : (qneg q && decide (X % 2 ≠ 0)) = false := by rw [h]; rfl
theorem sgn_f2 {q : Rat} {X : Int} (h : X.tmod 2 = 0) : (qneg q && decide (X % 2 ≠ 0)) = false := by
  rw [decide_eq_false (by have := tm2 X; omega)]; simp
theorem sgn_t {q : Rat} {X : Int} (h : qneg q = true) (h2 : X.tmod 2 ≠ 0) : (qneg q && decide (X % 2 ≠ 0)) = true := by
  rw [h, decide_eq_true ((tm2 X).1 h2)]; rfl
end Go.Proofs.Ythfpcebcfjlkmab
namespace Go.Proofs.Ythfpcebcfjlkmab
theorem val_parts_lt {b : Bool} {xn xd : List Nat} {q : Rat} (hn : Lim xn) (hd : Lim xd) (h : val b (nv xn) (nv xd) = q) (hq : q ≠ 0) (hl : xn.length + xd.length ≤ 2) : qnum q < 4294967296 ^ 2 ∧ q.den < 4294967296 ^ 2 := by
  have hd0 : nv xd ≠ 0 := fun h0 => hq (by rw [← h, h0]; exact val_d0 _ _)
  have h1 := nv_lt hn
  have h2 := nv_lt hd
  have h3 : 4294967296 ^ xn.length ≤ 4294967296 ^ 2 := Nat.pow_le_pow_right (by decide) (by omega)
  have h4 : 4294967296 ^ xd.length ≤ 4294967296 ^ 2 := Nat.pow_le_pow_right (by decide) (by omega)
  rw [← h, val_qnum hd0, val_den hd0]
  have h5 := Nat.div_le_self (nv xn) (Nat.gcd (nv xn) (nv xd))
  have h6 := Nat.div_le_self (nv xd) (Nat.gcd (nv xn) (nv xd))
  omega
theorem two_third : sg (val false (nv [2]) (nv [3])) = 1 := by decide +kernel
end Go.Proofs.Ythfpcebcfjlkmab
