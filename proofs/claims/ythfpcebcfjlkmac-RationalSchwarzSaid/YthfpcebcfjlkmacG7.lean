/- Contracts of functions of the program, and what they lean on: W18, Ap, Rr. -/
import Derived.Test.YthfpcebcfjlkmacG6
set_option linter.unusedSimpArgs false
set_option linter.unusedVariables false
namespace Go.Proofs.Ythfpcebcfjlkmac
open Go.RowKit
theorem bitn_is0 {x : Nat} : bitn x = 0 ↔ x = 0 := by
  constructor
  · intro h
    have := (bitn_le (x := x) (k := 0)).1 (by omega)
    omega
  · rintro rfl; rfl
theorem bitn_is1 {x : Nat} : bitn x = 1 ↔ x = 1 := by
  constructor
  · intro h
    have h1 := (bitn_le (x := x) (k := 1)).1 (by omega)
    have h2 := (bitn_lt (x := x) (k := 0)).1 (by omega)
    omega
  · rintro rfl; rfl
theorem mul_len {xa xb : List Nat} (ha : Lim xa) (hb : Lim xb) : (digs (nv xa * nv xb)).length ≤ xa.length + xb.length := by
  refine digs_len ?_
  rw [Nat.pow_add]
  exact Nat.mul_lt_mul_of_lt_of_le (nv_lt ha) (Nat.le_of_lt (nv_lt hb)) (Nat.pow_pos (by decide))
theorem add_len {xa xb : List Nat} (ha : Lim xa) (hb : Lim xb) : (digs (nv xa + nv xb)).length ≤ max xa.length xb.length + 1 := by
  refine digs_len ?_
  have h1 := nv_lt ha; have h2 := nv_lt hb
  have h3 : 4294967296 ^ xa.length ≤ 4294967296 ^ (max xa.length xb.length) := Nat.pow_le_pow_right (by decide) (Nat.le_max_left _ _)
  have h4 : 4294967296 ^ xb.length ≤ 4294967296 ^ (max xa.length xb.length) := Nat.pow_le_pow_right (by decide) (Nat.le_max_right _ _)
  rw [Nat.pow_succ]; omega
theorem div_len {xa : List Nat} (ha : Lim xa) (b : Nat) : (digs (nv xa / b)).length ≤ xa.length := digs_len (Nat.lt_of_le_of_lt (Nat.div_le_self _ _) (nv_lt ha))

theorem Mul2_c {w : World} {B : Nat} {A : Option Addr} {c : Nat} {Aa : Option Addr} {ma ca : Nat} {Ab : Option Addr} {mb cb : Nat} (hT : Rd B w 1 A 2 c [.slice Aa ma ca, .slice Ab mb cb]) {B2 : Nat} {xa xb : List Nat} (hN : NatsR B2 w [.slice Aa ma ca, .slice Ab mb cb] [xa, xb]) (hLa : Lim xa) (hLb : Lim xb) (hm : ma ≤ 33554432 ∧ mb ≤ 33554432) : Calls Try.prog 36 #[.slice A 2 c] w fun e w2 => ∃ v, e = .returned v ∧ (fun v w2 => ∃ A2 m2 c2, v = .slice A2 m2 c2 ∧ w.grownBy w2 none ∧ Own w.heap.size w2 48 1 A2 m2 c2 (us (digs (nv xa * nv xb))) ∧ m2 ≤ ma + mb) v w2 := by
  have h1 := (hN.at_ 0 (by simp)).2.ulen
  have h2 := (hN.at_ 1 (by simp)).2.ulen
  have h1' : xa.length = ma := h1
  have h2' : xb.length = mb := h2
  have hl : LimAll [xa, xb] := LimAll.cons hLa (LimAll.cons hLb LimAll.nil)
  have hk : LenAll 33554432 [xa, xb] := LenAll.cons (by omega) (LenAll.cons (by omega) (LenAll.nil _))
  refine (Mul_c hT hN hl 33554432 hk (by simp)).mono fun e w2 ⟨v, he, A2, m2, c2, hv, hg, ho, _⟩ => ⟨v, he, A2, m2, c2, hv, hg, ?_, ?_⟩
  · have e1 : prodN [xa, xb] = nv xa * nv xb := by simp
    rwa [e1] at ho
  · have h3 := ho.rd.ulen
    have e1 : prodN [xa, xb] = nv xa * nv xb := by simp
    rw [e1] at h3
    have h4 := mul_len hLa hLb
    omega

theorem Add2_c {w : World} {B : Nat} {A : Option Addr} {c : Nat} {Aa : Option Addr} {ma ca : Nat} {Ab : Option Addr} {mb cb : Nat} (hT : Rd B w 1 A 2 c [.slice Aa ma ca, .slice Ab mb cb]) {B2 : Nat} {xa xb : List Nat} (hN : NatsR B2 w [.slice Aa ma ca, .slice Ab mb cb] [xa, xb]) (hLa : Lim xa) (hLb : Lim xb) (hm : ma ≤ 33554432 ∧ mb ≤ 33554432) : Calls Try.prog 25 #[.slice A 2 c] w fun e w2 => ∃ v, e = .returned v ∧ (fun v w2 => ∃ A2 m2 c2, v = .slice A2 m2 c2 ∧ w.grownBy w2 none ∧ Own w.heap.size w2 48 1 A2 m2 c2 (us (digs (nv xa + nv xb))) ∧ m2 ≤ max ma mb + 1) v w2 := by
  have h1 := (hN.at_ 0 (by simp)).2.ulen
  have h2 := (hN.at_ 1 (by simp)).2.ulen
  have h1' : xa.length = ma := h1
  have h2' : xb.length = mb := h2
  have hl : LimAll [xa, xb] := LimAll.cons hLa (LimAll.cons hLb LimAll.nil)
  have hk : LenAll 33554432 [xa, xb] := LenAll.cons (by omega) (LenAll.cons (by omega) (LenAll.nil _))
  refine (Add_c hT hN hl 33554432 hk (by decide) (by simp)).mono fun e w2 ⟨v, he, A2, m2, c2, hv, hg, ho, _⟩ => ⟨v, he, A2, m2, c2, hv, hg, ?_, ?_⟩
  · have e1 : sumN [xa, xb] = nv xa + nv xb := by simp
    rwa [e1] at ho
  · have h3 := ho.rd.ulen
    have e1 : sumN [xa, xb] = nv xa + nv xb := by simp
    rw [e1] at h3
    have h4 := add_len hLa hLb
    omega

theorem nought_c {w : World} {Ba : Nat} {Aa : Option Addr} {ma ca : Nat} {xa : List Nat} (ha : Rd Ba w 1 Aa ma ca (us xa)) (hLa : Lim xa) (hs : ma ≤ 1099511627776) :
    Calls Try.prog 24 #[.slice Aa ma ca] w fun e w2 => ∃ v, e = .returned v ∧ (fun v w2 => ∃ b : Bool, v = .bool b ∧ w.grownBy w2 none ∧ (b = true → nv xa = 0) ∧ (b = false → nv xa ≠ 0)) v w2 := by
  have ha := ha.norm
  have ha_l := ha.ulen
  have ha_x := ha.max
  simp only [maxLen] at ha_x
  have ha_c := ha.cap
  have ha0 := ha
  have hb0 := @bitn_is0 (nv xa)
  have hB := ext_refl w
  refine calls_of_W (vs := [.slice Aa ma ca]) [2] Try.func24 rfl rfl rfl rfl ?_
  refine W.seq ?_
  refine W.region ?_
  refine WL.assign rfl rfl ?_
  refine WL.done ?_
  refine W.seq ?_
  refine W.region ?_
  refine WL.move rfl rfl ?_
  refine WL.call Try.func51 rfl Try.nm51 rfl rfl (Bits_c ha hLa (by omega)) ?_
  rintro _ w11 ⟨rfl, hGw11⟩
  have hB := ext_trans hB hGw11
  refine WL.eql rfl rfl rfl (fun hz => ?_) (fun hz => ?_)
  · refine WL.assign rfl rfl ?_
    refine WL.done ?_
    refine W.ret ?_
    refine ⟨_, rfl, ?_⟩
    exact ⟨true, rfl, hB, (fun _ => hb0.1 (by omega)), fun h => by cases h⟩
  · refine WL.assign rfl rfl ?_
    refine WL.done ?_
    refine W.ret ?_
    refine ⟨_, rfl, ?_⟩
    exact ⟨false, rfl, hB, (fun h => by cases h), fun _ => fun h => hz (by have := hb0.2 h; omega)⟩

theorem isOne_c {w : World} {Ba : Nat} {Aa : Option Addr} {ma ca : Nat} {xa : List Nat} (ha : Rd Ba w 1 Aa ma ca (us xa)) (hLa : Lim xa) (hs : ma ≤ 1099511627776) :
    Calls Try.prog 44 #[.slice Aa ma ca] w fun e w2 => ∃ v, e = .returned v ∧ (fun v w2 => ∃ b : Bool, v = .bool b ∧ w.grownBy w2 none ∧ (b = true → nv xa = 1) ∧ (b = false → nv xa ≠ 1)) v w2 := by
  have ha := ha.norm
  have ha_l := ha.ulen
  have ha_x := ha.max
  simp only [maxLen] at ha_x
  have ha_c := ha.cap
  have ha0 := ha
  have hb0 := @bitn_is1 (nv xa)
  have hB := ext_refl w
  refine calls_of_W (vs := [.slice Aa ma ca]) [2] Try.func44 rfl rfl rfl rfl ?_
  refine W.seq ?_
  refine W.region ?_
  refine WL.assign rfl rfl ?_
  refine WL.done ?_
  refine W.seq ?_
  refine W.region ?_
  refine WL.move rfl rfl ?_
  refine WL.call Try.func51 rfl Try.nm51 rfl rfl (Bits_c ha hLa (by omega)) ?_
  rintro _ w11 ⟨rfl, hGw11⟩
  have hB := ext_trans hB hGw11
  refine WL.eql rfl rfl rfl (fun hz => ?_) (fun hz => ?_)
  · refine WL.assign rfl rfl ?_
    refine WL.done ?_
    refine W.ret ?_
    refine ⟨_, rfl, ?_⟩
    exact ⟨true, rfl, hB, (fun _ => hb0.1 (by omega)), fun h => by cases h⟩
  · refine WL.assign rfl rfl ?_
    refine WL.done ?_
    refine W.ret ?_
    refine ⟨_, rfl, ?_⟩
    exact ⟨false, rfl, hB, (fun h => by cases h), fun _ => fun h => hz (by have := hb0.2 h; omega)⟩

theorem isZero_c {w : World} {Ban : Nat} {Aan : Option Addr} {man can : Nat} {xan : List Nat} (han : Rd Ban w 1 Aan man can (us xan)) {Bad : Nat} {Aad : Option Addr} {mad cad : Nat} {xad : List Nat} (had : Rd Bad w 1 Aad mad cad (us xad)) {na : Bool} (hLan : Lim xan) (hLad : Lim xad) (qa : Rat) (hqa : val na (nv xan) (nv xad) = qa) (hsa : man ≤ 4194304 ∧ mad ≤ 4194304) :
    Calls Try.prog 21 #[.agg #[.bool na, .slice Aan man can, .slice Aad mad cad]] w fun e w2 => ∃ v, e = .returned v ∧ (fun v w2 => ∃ b : Bool, v = .bool b ∧ w.grownBy w2 none ∧ (b = true → qa = 0) ∧ (b = false → nv xan ≠ 0 ∧ nv xad ≠ 0)) v w2 := by
  have han := han.norm
  have han_l := han.ulen
  have han_x := han.max
  simp only [maxLen] at han_x
  have han_c := han.cap
  have had := had.norm
  have had_l := had.ulen
  have had_x := had.max
  simp only [maxLen] at had_x
  have had_c := had.cap
  have han0 := han
  have had0 := had
  have hB := ext_refl w
  refine calls_of_W (vs := [.agg #[.bool na, .slice Aan man can, .slice Aad mad cad]]) [2] Try.func21 rfl rfl rfl rfl ?_
  refine W.seq ?_
  refine W.region ?_
  refine WL.box Try.el25 rfl rfl rfl ?_
  intro g11 w12 hg_g11 hVg11 hGw12
  change Own _ _ _ _ _ _ _ [.bool na, .slice Aan man can, .slice Aad mad cad] at hVg11
  have hVg11 := hVg11.low (b' := w.heap.size) hB.size
  have hB := ext_trans hB hGw12
  have han := han0.ext hB
  have had := had0.ext hB
  refine WL.assign rfl rfl ?_
  refine WL.done ?_
  refine W.seq ?_
  refine W.region ?_
  refine WL.fieldA (off := 1) Try.fla25_1 rfl rfl ?_
  refine WL.load Try.underlying23 rfl rfl (hVg11.vcells 1 _ rfl) rfl ?_
  refine WL.call Try.func24 rfl Try.nm24 rfl rfl (nought_c han hLan (by omega)) ?_
  rintro _ w13 ⟨bz1, rfl, hGw13, z1_t, z1_f⟩
  have hB := ext_trans hB hGw13
  have had := had0.ext hB
  have hVg11 := hVg11.ext hGw13
  rcases bz1 with _ | _
  · have z1 := z1_f rfl
    refine WL.move rfl rfl ?_
    refine WL.take rfl ?_
    refine WL.fieldA (off := 2) Try.fla25_2 rfl rfl ?_
    refine WL.take rfl ?_
    refine WL.load Try.underlying23 rfl rfl (hVg11.vcells 2 _ rfl) rfl ?_
    refine WL.take rfl ?_
    refine WL.call Try.func24 rfl Try.nm24 rfl rfl (nought_c had hLad (by omega)) ?_
    rintro _ w14 ⟨bz2, rfl, hGw14, z2_t, z2_f⟩
    have hB := ext_trans hB hGw14
    rcases bz2 with _ | _
    · have z2 := z2_f rfl
      refine WL.pick rfl rfl rfl ?_
      refine WL.assign rfl rfl ?_
      refine WL.done ?_
      refine W.ret ?_
      refine ⟨_, rfl, ?_⟩
      exact ⟨false, rfl, hB, (fun h => by cases h), fun _ => ⟨z1, z2⟩⟩
    · have z2 := z2_t rfl
      refine WL.pick rfl rfl rfl ?_
      refine WL.assign rfl rfl ?_
      refine WL.done ?_
      refine W.ret ?_
      refine ⟨_, rfl, ?_⟩
      exact ⟨true, rfl, hB, (fun _ => by rw [← hqa, z2]; exact val_d0 _ _), fun h => by cases h⟩
  · have z1 := z1_t rfl
    refine WL.move rfl rfl ?_
    refine WL.pass rfl rfl rfl ?_
    refine WL.pass rfl rfl rfl ?_
    refine WL.pass rfl rfl rfl ?_
    refine WL.pick rfl rfl rfl ?_
    refine WL.assign rfl rfl ?_
    refine WL.done ?_
    refine W.ret ?_
    refine ⟨_, rfl, ?_⟩
    exact ⟨true, rfl, hB, (fun _ => by rw [← hqa, z1]; exact val_n0 _ _), fun h => by cases h⟩

theorem one_c {w : World} :
    Calls Try.prog 26 #[] w fun e w2 => ∃ v, e = .returned v ∧ (fun v w2 => ∃ A2 m2 c2, v = .slice A2 m2 c2 ∧ w.grownBy w2 none ∧ Own w.heap.size w2 48 1 A2 m2 c2 (us (digs 1)) ∧ m2 = 1) v w2 := by
  have hB := ext_refl w
  refine calls_of_W (vs := []) [0] Try.func26 rfl rfl rfl rfl ?_
  refine W.seq ?_
  refine W.region ?_
  refine WL.assign rfl rfl ?_
  refine WL.done ?_
  refine W.seq ?_
  refine W.region ?_
  refine WL.lit1 (b := w.heap.size) Try.underlying23 Try.el48 rfl rfl rfl rfl (by intro v hv; simp only [List.mem_cons, List.not_mem_nil, or_false] at hv; rcases hv with rfl <;> rfl) (Nat.le_refl _) rfl ?_
  rintro A11 w12 - hO13 hGw12
  have hO13 := hO13.low (b' := w.heap.size) hB.size
  have hB := ext_trans hB hGw12
  change Own _ _ _ _ _ _ _ (us [1]) at hO13
  refine WL.assign rfl rfl ?_
  refine WL.done ?_
  refine W.ret ?_
  refine ⟨_, rfl, ?_⟩
  rw [show digs 1 = [1] from by decide]
  exact ⟨_, _, _, rfl, hB, hO13, rfl⟩

theorem zero_c {w : World} :
    Calls Try.prog 22 #[] w fun e w2 => ∃ v, e = .returned v ∧ (fun v w2 => ∃ A2 m2 c2 A3 m3 c3, v = .agg #[.bool (qneg ((0 : Rat))), .slice A2 m2 c2, .slice A3 m3 c3] ∧ w.grownBy w2 none ∧ Own w.heap.size w2 48 1 A2 m2 c2 (us (digs (qnum ((0 : Rat))))) ∧ Own w.heap.size w2 48 1 A3 m3 c3 (us (digs (Rat.den ((0 : Rat))))) ∧ m2 = 0 ∧ m3 = 1) v w2 := by
  have hB := ext_refl w
  refine calls_of_Wc (vs := []) [.cell 0 25] Try.func22 rfl rfl rfl rfl ?_
  refine W.seq ?_
  refine W.region ?_
  refine WL.alloc Try.el25 rfl ?_
  intro g11 w12 hg_g11 hVg11 hGw12
  change Own _ _ _ _ _ _ _ [.bool false, .slice none 0 0, .slice none 0 0] at hVg11
  have hVg11 := hVg11.low (b' := w.heap.size) hB.size
  have hB := ext_trans hB hGw12
  refine WL.done ?_
  refine W.seq ?_
  refine W.region ?_
  refine WL.call Try.func26 rfl Try.nm26 rfl rfl (one_c) ?_
  rintro _ w13 ⟨A14, m15, c16, rfl, hGw13, h1, h1m⟩
  have hap_h1_g11 := ap_new h1 (hVg11.bl_ge _ rfl).2
  have h1 := h1.low (b' := w.heap.size) hB.size
  have hB := ext_trans hB hGw13
  have hVg11 := hVg11.ext hGw13
  have h1_l := h1.rd.ulen
  refine WL.build (cells := #[.bool false, .slice none 0 0, .slice A14 m15 c16]) Try.bld25 rfl rfl rfl ?_
  refine WL.storeV Try.el25 rfl rfl rfl rfl hVg11 ?_
  have hOld18 := hVg11
  intro w17 hVg11 hGw17
  change Own _ _ _ _ _ _ _ [.bool false, .slice none 0 0, .slice A14 m15 c16] at hVg11
  have hB := ext_own hB hGw17 (fun g hg => (hOld18.bl_ge g hg).1)
  have h1 := h1.grown hGw17 (ap_row hap_h1_g11)
  refine WL.done ?_
  refine W.ret ?_
  refine ⟨[.agg #[.bool false, .slice none 0 0, .slice A14 m15 c16]], ⟨_, _, _, rfl, rfl, run_loadV (cs := [.bool false, .slice none 0 0, .slice A14 m15 c16]) Try.el25 Try.agg25 rfl hVg11.vcells, rfl⟩, ?_⟩
  exact ⟨none, 0, 0, _, _, _, rfl, hB, World.ownsRow_nil _ _ _ _, h1, by omega⟩

theorem quo_c {w : World} {Ba : Nat} {Aa : Option Addr} {ma ca : Nat} {xa : List Nat} (ha : Rd Ba w 1 Aa ma ca (us xa)) {Bb : Nat} {Ab : Option Addr} {mb cb : Nat} {xb : List Nat} (hb : Rd Bb w 1 Ab mb cb (us xb)) (hLa : Lim xa) (hLb : Lim xb) (hb0z : nv xb ≠ 0) (hsa : ma ≤ 33554432) (hsb : mb ≤ 33554432) :
    Calls Try.prog 65 #[.slice Aa ma ca, .slice Ab mb cb] w fun e w2 => ∃ v, e = .returned v ∧ (fun v w2 => ∃ A2 m2 c2, v = .slice A2 m2 c2 ∧ w.grownBy w2 none ∧ Own w.heap.size w2 48 1 A2 m2 c2 (us (digs (nv xa / nv xb))) ∧ m2 ≤ ma) v w2 := by
  have ha := ha.norm
  have ha_l := ha.ulen
  have ha_x := ha.max
  simp only [maxLen] at ha_x
  have ha_c := ha.cap
  have hb := hb.norm
  have hb_l := hb.ulen
  have hb_x := hb.max
  simp only [maxLen] at hb_x
  have hb_c := hb.cap
  have ha0 := ha
  have hb0 := hb
  have hdl := div_len hLa (nv xb)
  have hB := ext_refl w
  refine calls_of_W (vs := [.slice Aa ma ca, .slice Ab mb cb]) [4] Try.func65 rfl rfl rfl rfl ?_
  refine W.seq ?_
  refine W.region ?_
  refine WL.assign rfl rfl ?_
  refine WL.done ?_
  refine W.seq ?_
  refine W.seq ?_
  refine W.region ?_
  refine WL.move rfl rfl ?_
  refine WL.call Try.func44 rfl Try.nm44 rfl rfl (isOne_c hb hLb (by omega)) ?_
  rintro _ w11 ⟨bz, rfl, hGw11, z_t, z_f⟩
  have hB := ext_trans hB hGw11
  have ha := ha0.ext hB
  have hb := hb0.ext hB
  rcases bz with _ | _
  · have z := z_f rfl
    refine WL.done ?_
    refine W.condF rfl ?_
    refine W.skip ?_
    refine W.seq ?_
    refine W.region ?_
    refine WL.move rfl rfl ?_
    refine WL.move rfl rfl ?_
    refine WL.call Try.func23 rfl Try.nm23 rfl rfl (DivMod_ok ha hb hLa hLb (by omega) (by omega)) ?_
    rintro _ w12 ⟨A13, m14, cp15, A16, m17, cp18, rfl, hGw12, hdq, hdr, hm19, hm20⟩
    have hdq := hdq.low (b' := w.heap.size) hB.size
    have hdr := hdr.low (b' := w.heap.size) hB.size
    have hB := ext_trans hB hGw12
    have hdq_l := hdq.rd.ulen
    have hdr_l := hdr.rd.ulen
    refine WL.move rfl rfl ?_
    refine WL.extract rfl rfl rfl ?_
    refine WL.extract rfl rfl rfl ?_
    refine WL.extract rfl rfl rfl ?_
    refine WL.assign rfl rfl ?_
    refine WL.assign rfl rfl ?_
    refine WL.assign rfl rfl ?_
    refine WL.done ?_
    refine W.seq ?_
    refine W.region ?_
    refine WL.move rfl rfl ?_
    refine WL.assign rfl rfl ?_
    refine WL.done ?_
    refine W.ret ?_
    refine ⟨_, rfl, ?_⟩
    have := hdq.rd.ulen
    exact ⟨_, _, _, rfl, hB, hdq, by omega⟩
  · have z := z_t rfl
    refine WL.done ?_
    refine W.condT rfl ?_
    refine W.seq ?_
    refine W.region ?_
    refine WL.move rfl rfl ?_
    refine WL.call Try.func47 rfl Try.nm47 rfl rfl (Trim_c ha (by omega)) ?_
    rintro _ w21 ⟨A22, m23, cp24, rfl, hGw21, hO, hm25⟩
    have hO := hO.low (b' := w.heap.size) hB.size
    have hB := ext_trans hB hGw21
    have hO_l := hO.rd.ulen
    refine WL.assign rfl rfl ?_
    refine WL.done ?_
    refine W.ret ?_
    refine ⟨_, rfl, ?_⟩
    rw [digs_trim hLa] at hO
    rw [z, Nat.div_one] at hdl ⊢
    have := hO.rd.ulen
    exact ⟨_, _, _, rfl, hB, hO, by omega⟩

theorem red_c {w : World} {Bn : Nat} {An : Option Addr} {mn cn : Nat} {xn : List Nat} (hn : Rd Bn w 1 An mn cn (us xn)) {Bd : Nat} {Ad : Option Addr} {md cd : Nat} {xd : List Nat} (hd : Rd Bd w 1 Ad md cd (us xd)) {ne : Bool} (hLn : Lim xn) (hLd : Lim xd) (hn0z : nv xn ≠ 0) (hd0z : nv xd ≠ 0) (hsn : mn ≤ 33554432) (hsd : md ≤ 33554432) :
    Calls Try.prog 39 #[.bool ne, .slice An mn cn, .slice Ad md cd] w fun e w2 => ∃ v, e = .returned v ∧ (fun v w2 => ∃ A2 m2 c2 A3 m3 c3, v = .agg #[.bool (qneg (val ne (nv xn) (nv xd))), .slice A2 m2 c2, .slice A3 m3 c3] ∧ w.grownBy w2 none ∧ Own w.heap.size w2 48 1 A2 m2 c2 (us (digs (qnum (val ne (nv xn) (nv xd))))) ∧ Own w.heap.size w2 48 1 A3 m3 c3 (us (digs (Rat.den (val ne (nv xn) (nv xd))))) ∧ m2 ≤ mn ∧ m3 ≤ md) v w2 := by
  have hn := hn.norm
  have hn_l := hn.ulen
  have hn_x := hn.max
  simp only [maxLen] at hn_x
  have hn_c := hn.cap
  have hd := hd.norm
  have hd_l := hd.ulen
  have hd_x := hd.max
  simp only [maxLen] at hd_x
  have hd_c := hd.cap
  have hn0 := hn
  have hd0 := hd
  have hB := ext_refl w
  refine calls_of_Wc (vs := [.bool ne, .slice An mn cn, .slice Ad md cd]) [.cell 6 25] Try.func39 rfl rfl rfl rfl ?_
  refine W.seq ?_
  refine W.region ?_
  refine WL.alloc Try.el25 rfl ?_
  intro g11 w12 hg_g11 hVg11 hGw12
  change Own _ _ _ _ _ _ _ [.bool false, .slice none 0 0, .slice none 0 0] at hVg11
  have hVg11 := hVg11.low (b' := w.heap.size) hB.size
  have hB := ext_trans hB hGw12
  have hn := hn0.ext hB
  have hd := hd0.ext hB
  refine WL.done ?_
  refine W.seq ?_
  refine W.region ?_
  refine WL.move rfl rfl ?_
  refine WL.move rfl rfl ?_
  refine WL.call Try.func45 rfl Try.nm45 rfl rfl (Gcd_c hn hd hLn hLd (by omega) (by omega)) ?_
  rintro _ w13 ⟨A14, m15, cp16, rfl, hGw13, hg, hm17⟩
  have hg := hg.low (b' := w.heap.size) hB.size
  have hB := ext_trans hB hGw13
  have hn := hn0.ext hB
  have hd := hd0.ext hB
  have hVg11 := hVg11.ext hGw13
  have hg_l := hg.rd.ulen
  have hgp : 0 < Nat.gcd (nv xn) (nv xd) := Nat.gcd_pos_of_pos_left _ (by omega)
  have hgv := nv_digs (Nat.gcd (nv xn) (nv xd))
  refine WL.assign rfl rfl ?_
  refine WL.done ?_
  refine W.seq ?_
  refine W.region ?_
  refine WL.move rfl rfl ?_
  refine WL.move rfl rfl ?_
  refine WL.move rfl rfl ?_
  refine WL.call Try.func65 rfl Try.nm65 rfl rfl (quo_c hn hg.rd hLn (digs_lim _) (by omega) (by omega) (by omega)) ?_
  rintro _ w18 ⟨A19, m20, c21, rfl, hGw18, h1, h1m⟩
  have hap_h1_g11 := ap_new h1 (hVg11.bl_ge _ rfl).2
  have h1 := h1.low (b' := w.heap.size) hB.size
  have hB := ext_trans hB hGw18
  have hd := hd0.ext hB
  have hVg11 := hVg11.ext hGw18
  have hg := hg.ext hGw18
  have h1_l := h1.rd.ulen
  refine WL.move rfl rfl ?_
  refine WL.move rfl rfl ?_
  refine WL.call Try.func65 rfl Try.nm65 rfl rfl (quo_c hd hg.rd hLd (digs_lim _) (by omega) (by omega) (by omega)) ?_
  rintro _ w22 ⟨A23, m24, c25, rfl, hGw22, h2, h2m⟩
  have hap_h2_g11 := ap_new h2 (hVg11.bl_ge _ rfl).2
  have h2 := h2.low (b' := w.heap.size) hB.size
  have hB := ext_trans hB hGw22
  have hVg11 := hVg11.ext hGw22
  have hg := hg.ext hGw22
  have h1 := h1.ext hGw22
  have h2_l := h2.rd.ulen
  refine WL.build (cells := #[.bool ne, .slice A19 m20 c21, .slice A23 m24 c25]) Try.bld25 rfl rfl rfl ?_
  refine WL.storeV Try.el25 rfl rfl rfl rfl hVg11 ?_
  have hOld27 := hVg11
  intro w26 hVg11 hGw26
  change Own _ _ _ _ _ _ _ [.bool ne, .slice A19 m20 c21, .slice A23 m24 c25] at hVg11
  have hB := ext_own hB hGw26 (fun g hg => (hOld27.bl_ge g hg).1)
  have h1 := h1.grown hGw26 (ap_row hap_h1_g11)
  have h2 := h2.grown hGw26 (ap_row hap_h2_g11)
  refine WL.done ?_
  refine W.ret ?_
  refine ⟨[.agg #[.bool ne, .slice A19 m20 c21, .slice A23 m24 c25]], ⟨_, _, _, rfl, rfl, run_loadV (cs := [.bool ne, .slice A19 m20 c21, .slice A23 m24 c25]) Try.el25 Try.agg25 rfl hVg11.vcells, rfl⟩, ?_⟩
  rw [nv_digs] at h1 h2
  rw [val_qneg hn0z hd0z, val_qnum hd0z, val_den hd0z]
  exact ⟨_, _, _, _, _, _, rfl, hB, h1, h2, by omega⟩

theorem qTrim_c {w : World} {Ban : Nat} {Aan : Option Addr} {man can : Nat} {xan : List Nat} (han : Rd Ban w 1 Aan man can (us xan)) {Bad : Nat} {Aad : Option Addr} {mad cad : Nat} {xad : List Nat} (had : Rd Bad w 1 Aad mad cad (us xad)) {na : Bool} (hLan : Lim xan) (hLad : Lim xad) (qa : Rat) (hqa : val na (nv xan) (nv xad) = qa) (hsa : man ≤ 4194304 ∧ mad ≤ 4194304) :
    Calls Try.prog 15 #[.agg #[.bool na, .slice Aan man can, .slice Aad mad cad]] w fun e w2 => ∃ v, e = .returned v ∧ (fun v w2 => ∃ A2 m2 c2 A3 m3 c3, v = .agg #[.bool (qneg (qa)), .slice A2 m2 c2, .slice A3 m3 c3] ∧ w.grownBy w2 none ∧ Own w.heap.size w2 48 1 A2 m2 c2 (us (digs (qnum (qa)))) ∧ Own w.heap.size w2 48 1 A3 m3 c3 (us (digs (Rat.den (qa)))) ∧ m2 ≤ man ∧ m3 ≤ mad + 1) v w2 := by
  have han := han.norm
  have han_l := han.ulen
  have han_x := han.max
  simp only [maxLen] at han_x
  have han_c := han.cap
  have had := had.norm
  have had_l := had.ulen
  have had_x := had.max
  simp only [maxLen] at had_x
  have had_c := had.cap
  have han0 := han
  have had0 := had
  have hB := ext_refl w
  refine calls_of_Wc (vs := [.agg #[.bool na, .slice Aan man can, .slice Aad mad cad]]) [.cell 2 25] Try.func15 rfl rfl rfl rfl ?_
  refine W.seq ?_
  refine W.region ?_
  refine WL.box Try.el25 rfl rfl rfl ?_
  intro g11 w12 hg_g11 hVg11 hGw12
  change Own _ _ _ _ _ _ _ [.bool na, .slice Aan man can, .slice Aad mad cad] at hVg11
  have hVg11 := hVg11.low (b' := w.heap.size) hB.size
  have hB := ext_trans hB hGw12
  have han := han0.ext hB
  have had := had0.ext hB
  refine WL.alloc Try.el25 rfl ?_
  intro g13 w14 hg_g13 hVg13 hGw14
  change Own _ _ _ _ _ _ _ [.bool false, .slice none 0 0, .slice none 0 0] at hVg13
  have hlt_g11_g13 : g11 < g13 := by rw [hg_g13]; exact (hVg11.bl_ge _ rfl).2
  have hVg13 := hVg13.low (b' := w.heap.size) hB.size
  have hB := ext_trans hB hGw14
  have han := han0.ext hB
  have had := had0.ext hB
  have hVg11 := hVg11.ext hGw14
  refine WL.done ?_
  refine W.seq ?_
  refine W.seq ?_
  refine W.region ?_
  refine WL.loadV (cs := [.bool na, .slice Aan man can, .slice Aad mad cad]) Try.el25 Try.agg25 rfl rfl hVg11.vcells rfl ?_
  refine WL.call Try.func21 rfl Try.nm21 rfl rfl (isZero_c han had hLan hLad qa hqa (by omega)) ?_
  rintro _ w15 ⟨bz, rfl, hGw15, z_t, z_f⟩
  have hB := ext_trans hB hGw15
  have han := han0.ext hB
  have had := had0.ext hB
  have hVg11 := hVg11.ext hGw15
  have hVg13 := hVg13.ext hGw15
  rcases bz with _ | _
  · have z := z_f rfl
    refine WL.done ?_
    refine W.condF rfl ?_
    refine W.skip ?_
    refine W.seq ?_
    refine W.region ?_
    refine WL.fieldA (off := 0) Try.fla25_0 rfl rfl ?_
    refine WL.load Try.underlying4 rfl rfl (hVg11.vcells 0 _ rfl) rfl ?_
    refine WL.fieldA (off := 1) Try.fla25_1 rfl rfl ?_
    refine WL.load Try.underlying23 rfl rfl (hVg11.vcells 1 _ rfl) rfl ?_
    refine WL.fieldA (off := 2) Try.fla25_2 rfl rfl ?_
    refine WL.load Try.underlying23 rfl rfl (hVg11.vcells 2 _ rfl) rfl ?_
    refine WL.call Try.func39 rfl Try.nm39 rfl rfl (red_c han had hLan hLad (by omega) (by omega) (by omega) (by omega)) ?_
    rintro _ w16 ⟨A17, m18, c19, A20, m21, c22, rfl, hGw16, hrn, hrd, hrm⟩
    have hap_hrn_g13 := ap_new hrn (hVg13.bl_ge _ rfl).2
    have hap_hrd_g13 := ap_new hrd (hVg13.bl_ge _ rfl).2
    have hrn := hrn.low (b' := w.heap.size) hB.size
    have hrd := hrd.low (b' := w.heap.size) hB.size
    have hB := ext_trans hB hGw16
    have hVg13 := hVg13.ext hGw16
    have hrn_l := hrn.rd.ulen
    have hrd_l := hrd.rd.ulen
    refine WL.storeV Try.el25 rfl rfl rfl rfl hVg13 ?_
    have hOld24 := hVg13
    intro w23 hVg13 hGw23
    change Own _ _ _ _ _ _ _ [.bool (qneg (val na (nv xan) (nv xad))), .slice A17 m18 c19, .slice A20 m21 c22] at hVg13
    have hB := ext_own hB hGw23 (fun g hg => (hOld24.bl_ge g hg).1)
    have hrn := hrn.grown hGw23 (ap_row hap_hrn_g13)
    have hrd := hrd.grown hGw23 (ap_row hap_hrd_g13)
    refine WL.done ?_
    refine W.ret ?_
    refine ⟨[.agg #[.bool (qneg (val na (nv xan) (nv xad))), .slice A17 m18 c19, .slice A20 m21 c22]], ⟨_, _, _, rfl, rfl, run_loadV (cs := [.bool (qneg (val na (nv xan) (nv xad))), .slice A17 m18 c19, .slice A20 m21 c22]) Try.el25 Try.agg25 rfl hVg13.vcells, rfl⟩, ?_⟩
    rw [← hqa]
    exact ⟨_, _, _, _, _, _, rfl, hB, hrn, hrd, by omega⟩
  · have z := z_t rfl
    refine WL.done ?_
    refine W.condT rfl ?_
    refine W.seq ?_
    refine W.region ?_
    refine WL.call Try.func22 rfl Try.nm22 rfl rfl (zero_c) ?_
    rintro _ w25 ⟨A26, m27, c28, A29, m30, c31, rfl, hGw25, hzn, hzd, hzm⟩
    have hap_hzn_g13 := ap_new hzn (hVg13.bl_ge _ rfl).2
    have hap_hzd_g13 := ap_new hzd (hVg13.bl_ge _ rfl).2
    have hzn := hzn.low (b' := w.heap.size) hB.size
    have hzd := hzd.low (b' := w.heap.size) hB.size
    have hB := ext_trans hB hGw25
    have hVg13 := hVg13.ext hGw25
    have hzn_l := hzn.rd.ulen
    have hzd_l := hzd.rd.ulen
    refine WL.storeV Try.el25 rfl rfl rfl rfl hVg13 ?_
    have hOld33 := hVg13
    intro w32 hVg13 hGw32
    change Own _ _ _ _ _ _ _ [.bool (qneg ((0 : Rat))), .slice A26 m27 c28, .slice A29 m30 c31] at hVg13
    have hB := ext_own hB hGw32 (fun g hg => (hOld33.bl_ge g hg).1)
    have hzn := hzn.grown hGw32 (ap_row hap_hzn_g13)
    have hzd := hzd.grown hGw32 (ap_row hap_hzd_g13)
    refine WL.done ?_
    refine W.ret ?_
    refine ⟨[.agg #[.bool (qneg ((0 : Rat))), .slice A26 m27 c28, .slice A29 m30 c31]], ⟨_, _, _, rfl, rfl, run_loadV (cs := [.bool (qneg ((0 : Rat))), .slice A26 m27 c28, .slice A29 m30 c31]) Try.el25 Try.agg25 rfl hVg13.vcells, rfl⟩, ?_⟩
    rw [z]
    exact ⟨_, _, _, _, _, _, rfl, hB, hzn, hzd, by omega⟩

theorem qneg_val {n : Bool} {x y : Nat} {q : Rat} (h : val n x y = q) (hx : x ≠ 0) (hy : y ≠ 0) : qneg q = n ∧ q ≠ 0 := by
  subst h; exact ⟨val_qneg hx hy, val_ne hx hy⟩

theorem qSign_c {w : World} {Ban : Nat} {Aan : Option Addr} {man can : Nat} {xan : List Nat} (han : Rd Ban w 1 Aan man can (us xan)) {Bad : Nat} {Aad : Option Addr} {mad cad : Nat} {xad : List Nat} (had : Rd Bad w 1 Aad mad cad (us xad)) {na : Bool} (hLan : Lim xan) (hLad : Lim xad) (qa : Rat) (hqa : val na (nv xan) (nv xad) = qa) (hsa : man ≤ 4194304 ∧ mad ≤ 4194304) :
    Calls Try.prog 34 #[.agg #[.bool na, .slice Aan man can, .slice Aad mad cad]] w fun e w2 => ∃ v, e = .returned v ∧ (fun v w2 => v = .int .i64 (sg qa) ∧ w.grownBy w2 none) v w2 := by
  have han := han.norm
  have han_l := han.ulen
  have han_x := han.max
  simp only [maxLen] at han_x
  have han_c := han.cap
  have had := had.norm
  have had_l := had.ulen
  have had_x := had.max
  simp only [maxLen] at had_x
  have had_c := had.cap
  have han0 := han
  have had0 := had
  have hB := ext_refl w
  refine calls_of_W (vs := [.agg #[.bool na, .slice Aan man can, .slice Aad mad cad]]) [2] Try.func34 rfl rfl rfl rfl ?_
  refine W.seq ?_
  refine W.region ?_
  refine WL.box Try.el25 rfl rfl rfl ?_
  intro g11 w12 hg_g11 hVg11 hGw12
  change Own _ _ _ _ _ _ _ [.bool na, .slice Aan man can, .slice Aad mad cad] at hVg11
  have hVg11 := hVg11.low (b' := w.heap.size) hB.size
  have hB := ext_trans hB hGw12
  have han := han0.ext hB
  have had := had0.ext hB
  refine WL.assign rfl rfl ?_
  refine WL.done ?_
  refine W.seq ?_
  refine W.seq ?_
  refine W.region ?_
  refine WL.loadV (cs := [.bool na, .slice Aan man can, .slice Aad mad cad]) Try.el25 Try.agg25 rfl rfl hVg11.vcells rfl ?_
  refine WL.call Try.func21 rfl Try.nm21 rfl rfl (isZero_c han had hLan hLad qa hqa (by omega)) ?_
  rintro _ w13 ⟨bz, rfl, hGw13, z_t, z_f⟩
  have hB := ext_trans hB hGw13
  have hVg11 := hVg11.ext hGw13
  rcases bz with _ | _
  · have z := z_f rfl
    refine WL.done ?_
    refine W.condF rfl ?_
    refine W.skip ?_
    refine W.seq ?_
    refine W.seq ?_
    refine W.region ?_
    refine WL.fieldA (off := 0) Try.fla25_0 rfl rfl ?_
    refine WL.load Try.underlying4 rfl rfl (hVg11.vcells 0 _ rfl) rfl ?_
    refine WL.done ?_
    refine W.cond2 rfl (fun c14 => ?_) (fun c14 => ?_)
    · skip
      refine W.seq ?_
      refine W.region ?_
      refine WL.assign rfl rfl ?_
      refine WL.done ?_
      refine W.ret ?_
      refine ⟨_, rfl, ?_⟩
      obtain ⟨e1, e2⟩ := qneg_val hqa z.1 z.2
      rw [sg_neg (by rw [e1]; assumption)]; exact ⟨rfl, hB⟩
    · skip
      refine W.skip ?_
      refine W.seq ?_
      refine W.region ?_
      refine WL.assign rfl rfl ?_
      refine WL.done ?_
      refine W.ret ?_
      refine ⟨_, rfl, ?_⟩
      obtain ⟨e1, e2⟩ := qneg_val hqa z.1 z.2
      rw [sg_pos (by rw [e1]; assumption) e2]; exact ⟨rfl, hB⟩
  · have z := z_t rfl
    refine WL.done ?_
    refine W.condT rfl ?_
    refine W.seq ?_
    refine W.region ?_
    refine WL.assign rfl rfl ?_
    refine WL.done ?_
    refine W.ret ?_
    refine ⟨_, rfl, ?_⟩
    rw [sg_zero.2 z]; exact ⟨rfl, hB⟩

theorem sum_c {w : World} {Ban : Nat} {Aan : Option Addr} {man can : Nat} {xan : List Nat} (han : Rd Ban w 1 Aan man can (us xan)) {Bad : Nat} {Aad : Option Addr} {mad cad : Nat} {xad : List Nat} (had : Rd Bad w 1 Aad mad cad (us xad)) {Bbn : Nat} {Abn : Option Addr} {mbn cbn : Nat} {xbn : List Nat} (hbn : Rd Bbn w 1 Abn mbn cbn (us xbn)) {Bbd : Nat} {Abd : Option Addr} {mbd cbd : Nat} {xbd : List Nat} (hbd : Rd Bbd w 1 Abd mbd cbd (us xbd)) {na : Bool} (hLan : Lim xan) (hLad : Lim xad) (qa : Rat) (hqa : val na (nv xan) (nv xad) = qa) {nb : Bool} (hLbn : Lim xbn) (hLbd : Lim xbd) (qb : Rat) (hqb : val nb (nv xbn) (nv xbd) = qb) (hsa : man ≤ 4194304 ∧ mad ≤ 4194304) (hsb : mbn ≤ 4194304 ∧ mbd ≤ 4194304) :
    Calls Try.prog 38 #[.agg #[.bool na, .slice Aan man can, .slice Aad mad cad], .agg #[.bool nb, .slice Abn mbn cbn, .slice Abd mbd cbd]] w fun e w2 => ∃ v, e = .returned v ∧ (fun v w2 => ∃ A2 m2 c2 A3 m3 c3, v = .agg #[.bool (qneg (qa + qb)), .slice A2 m2 c2, .slice A3 m3 c3] ∧ w.grownBy w2 none ∧ Own w.heap.size w2 48 1 A2 m2 c2 (us (digs (qnum (qa + qb)))) ∧ Own w.heap.size w2 48 1 A3 m3 c3 (us (digs (Rat.den (qa + qb)))) ∧ m2 ≤ max (man + mbd) (mbn + mad) + 1 ∧ m3 ≤ mad + mbd + 1) v w2 := by
  have han := han.norm
  have han_l := han.ulen
  have han_x := han.max
  simp only [maxLen] at han_x
  have han_c := han.cap
  have had := had.norm
  have had_l := had.ulen
  have had_x := had.max
  simp only [maxLen] at had_x
  have had_c := had.cap
  have hbn := hbn.norm
  have hbn_l := hbn.ulen
  have hbn_x := hbn.max
  simp only [maxLen] at hbn_x
  have hbn_c := hbn.cap
  have hbd := hbd.norm
  have hbd_l := hbd.ulen
  have hbd_x := hbd.max
  simp only [maxLen] at hbd_x
  have hbd_c := hbd.cap
  have han0 := han
  have had0 := had
  have hbn0 := hbn
  have hbd0 := hbd
  have hB := ext_refl w
  refine calls_of_Wc (vs := [.agg #[.bool na, .slice Aan man can, .slice Aad mad cad], .agg #[.bool nb, .slice Abn mbn cbn, .slice Abd mbd cbd]]) [.cell 4 25] Try.func38 rfl rfl rfl rfl ?_
  refine W.seq ?_
  refine W.region ?_
  refine WL.box Try.el25 rfl rfl rfl ?_
  intro g11 w12 hg_g11 hVg11 hGw12
  change Own _ _ _ _ _ _ _ [.bool na, .slice Aan man can, .slice Aad mad cad] at hVg11
  have hVg11 := hVg11.low (b' := w.heap.size) hB.size
  have hB := ext_trans hB hGw12
  have han := han0.ext hB
  have had := had0.ext hB
  have hbn := hbn0.ext hB
  have hbd := hbd0.ext hB
  refine WL.box Try.el25 rfl rfl rfl ?_
  intro g13 w14 hg_g13 hVg13 hGw14
  change Own _ _ _ _ _ _ _ [.bool nb, .slice Abn mbn cbn, .slice Abd mbd cbd] at hVg13
  have hlt_g11_g13 : g11 < g13 := by rw [hg_g13]; exact (hVg11.bl_ge _ rfl).2
  have hVg13 := hVg13.low (b' := w.heap.size) hB.size
  have hB := ext_trans hB hGw14
  have han := han0.ext hB
  have had := had0.ext hB
  have hbn := hbn0.ext hB
  have hbd := hbd0.ext hB
  have hVg11 := hVg11.ext hGw14
  refine WL.alloc Try.el25 rfl ?_
  intro g15 w16 hg_g15 hVg15 hGw16
  change Own _ _ _ _ _ _ _ [.bool false, .slice none 0 0, .slice none 0 0] at hVg15
  have hlt_g11_g15 : g11 < g15 := by rw [hg_g15]; exact (hVg11.bl_ge _ rfl).2
  have hlt_g13_g15 : g13 < g15 := by rw [hg_g15]; exact (hVg13.bl_ge _ rfl).2
  have hVg15 := hVg15.low (b' := w.heap.size) hB.size
  have hB := ext_trans hB hGw16
  have han := han0.ext hB
  have had := had0.ext hB
  have hbn := hbn0.ext hB
  have hbd := hbd0.ext hB
  have hVg11 := hVg11.ext hGw16
  have hVg13 := hVg13.ext hGw16
  refine WL.done ?_
  refine W.seq ?_
  refine W.seq ?_
  refine W.region ?_
  refine WL.loadV (cs := [.bool na, .slice Aan man can, .slice Aad mad cad]) Try.el25 Try.agg25 rfl rfl hVg11.vcells rfl ?_
  refine WL.call Try.func21 rfl Try.nm21 rfl rfl (isZero_c han had hLan hLad qa hqa (by omega)) ?_
  rintro _ w17 ⟨bza, rfl, hGw17, za_t, za_f⟩
  have hB := ext_trans hB hGw17
  have han := han0.ext hB
  have had := had0.ext hB
  have hbn := hbn0.ext hB
  have hbd := hbd0.ext hB
  have hVg11 := hVg11.ext hGw17
  have hVg13 := hVg13.ext hGw17
  have hVg15 := hVg15.ext hGw17
  rcases bza with _ | _
  · have za := za_f rfl
    refine WL.done ?_
    refine W.condF rfl ?_
    refine W.skip ?_
    refine W.seq ?_
    refine W.seq ?_
    refine W.region ?_
    refine WL.loadV (cs := [.bool nb, .slice Abn mbn cbn, .slice Abd mbd cbd]) Try.el25 Try.agg25 rfl rfl hVg13.vcells rfl ?_
    refine WL.call Try.func21 rfl Try.nm21 rfl rfl (isZero_c hbn hbd hLbn hLbd qb hqb (by omega)) ?_
    rintro _ w18 ⟨bzb, rfl, hGw18, zb_t, zb_f⟩
    have hB := ext_trans hB hGw18
    have han := han0.ext hB
    have had := had0.ext hB
    have hbn := hbn0.ext hB
    have hbd := hbd0.ext hB
    have hVg11 := hVg11.ext hGw18
    have hVg13 := hVg13.ext hGw18
    have hVg15 := hVg15.ext hGw18
    rcases bzb with _ | _
    · have zb := zb_f rfl
      have hd9 : nv xad * nv xbd ≠ 0 := Nat.mul_ne_zero za.2 zb.2
      refine WL.done ?_
      refine W.condF rfl ?_
      refine W.skip ?_
      refine W.seq ?_
      refine W.drawT 11 [⟨[], [2], true⟩, ⟨[0], [], false⟩, ⟨[], [3], true⟩, ⟨[2], [], false⟩, ⟨[1, 3], [], false⟩, ⟨[4], [], false⟩, ⟨[], [3], true⟩, ⟨[6], [], false⟩, ⟨[], [2], true⟩, ⟨[8], [], false⟩, ⟨[7, 9], [], false⟩] [[(2, .pointer (some ⟨g11, 0, none⟩))], [], [(3, .pointer (some ⟨g13, 0, none⟩))], [], [], [], [(3, .pointer (some ⟨g13, 0, none⟩))], [], [(2, .pointer (some ⟨g11, 0, none⟩))], [], []] (fun iQ => [fun v wQ => v = .pointer (some ((⟨g11, 0, none⟩ : Addr).add 1)), fun v wQ => v = .slice Aan man can, fun v wQ => v = .pointer (some ((⟨g13, 0, none⟩ : Addr).add 2)), fun v wQ => v = .slice Abd mbd cbd, fun v wQ => ∃ A24, v = .slice A24 2 2 ∧ (Own w.heap.size wQ 23 1 A24 2 2 [.slice Aan man can, .slice Abd mbd cbd]) ∧ (NatsR wQ.heap.size wQ [.slice Aan man can, .slice Abd mbd cbd] [xan, xbd]) ∧ (∀ k, bl A24 = some k → k ≠ g11) ∧ (∀ k, bl A24 = some k → k ≠ g13) ∧ (∀ k, bl A24 = some k → k ≠ g15), fun v wQ => ∃ A30 m31 c32, v = .slice A30 m31 c32 ∧ (Own w.heap.size wQ 48 1 A30 m31 c32 (us (digs (nv xan * nv xbd)))) ∧ (m31 ≤ man + mbd) ∧ (∀ k, bl A30 = some k → k ≠ g11) ∧ (∀ k, bl A30 = some k → k ≠ g13) ∧ (∀ k, bl A30 = some k → k ≠ g15), fun v wQ => v = .pointer (some ((⟨g13, 0, none⟩ : Addr).add 1)), fun v wQ => v = .slice Abn mbn cbn, fun v wQ => v = .pointer (some ((⟨g11, 0, none⟩ : Addr).add 2)), fun v wQ => v = .slice Aad mad cad, fun v wQ => ∃ A38, v = .slice A38 2 2 ∧ (Own w.heap.size wQ 23 1 A38 2 2 [.slice Abn mbn cbn, .slice Aad mad cad]) ∧ (NatsR wQ.heap.size wQ [.slice Abn mbn cbn, .slice Aad mad cad] [xbn, xad]) ∧ (∀ k, bl A38 = some k → k ≠ g11) ∧ (∀ k, bl A38 = some k → k ≠ g13) ∧ (∀ k, bl A38 = some k → k ≠ g15)].getD iQ (fun _ _ => True)) Try.mixed (by kernel_rfl) ?_ ?_ ?_
      · refine Vs_monoT _ ?_
        intro VQ hVQ vQ wQ1 wQ2 hQ1 hQ2
        simp only [List.mem_cons, List.not_mem_nil, or_false] at hVQ
        rcases hVQ with rfl | rfl | rfl | rfl | rfl | rfl | rfl | rfl | rfl | rfl | rfl
        · exact hQ1
        · exact hQ1
        · exact hQ1
        · exact hQ1
        · obtain ⟨A24, hQe, hO26, hN27, hap_hO26_g11, hap_hO26_g13, hap_hO26_g15⟩ := hQ1
          exact ⟨A24, hQe, hO26.ext hQ2, (hN27.ext hQ2).norm, hap_hO26_g11, hap_hO26_g13, hap_hO26_g15⟩
        · obtain ⟨A30, m31, c32, hQe, hl, hlm, hap_hl_g11, hap_hl_g13, hap_hl_g15⟩ := hQ1
          exact ⟨A30, m31, c32, hQe, hl.ext hQ2, hlm, hap_hl_g11, hap_hl_g13, hap_hl_g15⟩
        · exact hQ1
        · exact hQ1
        · exact hQ1
        · exact hQ1
        · obtain ⟨A38, hQe, hO40, hN41, hap_hO40_g11, hap_hO40_g13, hap_hO40_g15⟩ := hQ1
          exact ⟨A38, hQe, hO40.ext hQ2, (hN41.ext hQ2).norm, hap_hO40_g11, hap_hO40_g13, hap_hO40_g15⟩
      · refine ⟨⟨rfl, ⟨rfl, trivial⟩, ?_⟩, ⟨rfl, trivial, ?_⟩, ⟨rfl, ⟨rfl, trivial⟩, ?_⟩, ⟨rfl, trivial, ?_⟩, ⟨rfl, trivial, ?_⟩, ⟨rfl, trivial, ?_⟩, ⟨rfl, ⟨rfl, trivial⟩, ?_⟩, ⟨rfl, trivial, ?_⟩, ⟨rfl, ⟨rfl, trivial⟩, ?_⟩, ⟨rfl, trivial, ?_⟩, ⟨rfl, trivial, ?_⟩, trivial⟩
        · intro w19 hE
          intro R
          refine WL.fieldA (off := 1) Try.fla25_1 rfl rfl ?_
          exact WL.done ⟨_, rfl, rfl, rfl⟩
        · intro w20 hE
          have hE := hE rfl
          have hB := ext_trans hB hE
          have hVg11 := hVg11.ext hE
          rintro _ rfl
          intro R
          refine WL.load Try.underlying23 rfl rfl (hVg11.vcells 1 _ rfl) rfl ?_
          exact WL.done ⟨_, rfl, ext_refl _, rfl⟩
        · intro w21 hE
          intro R
          refine WL.fieldA (off := 2) Try.fla25_2 rfl rfl ?_
          exact WL.done ⟨_, rfl, rfl, rfl⟩
        · intro w22 hE
          have hE := hE rfl
          have hB := ext_trans hB hE
          have hVg13 := hVg13.ext hE
          rintro _ rfl
          intro R
          refine WL.load Try.underlying23 rfl rfl (hVg13.vcells 2 _ rfl) rfl ?_
          exact WL.done ⟨_, rfl, ext_refl _, rfl⟩
        · intro w23 hE
          have hE := hE rfl
          have hB := ext_trans hB hE
          have han := han0.ext hB
          have hbd := hbd0.ext hB
          have hVg11 := hVg11.ext hE
          have hVg13 := hVg13.ext hE
          have hVg15 := hVg15.ext hE
          rintro _ rfl
          rintro _ rfl
          intro R
          refine WL.lit1 (b := w23.heap.size) Try.underlying63 Try.el23 rfl rfl rfl rfl (by intro v hv; simp only [List.mem_cons, List.not_mem_nil, or_false] at hv; rcases hv with rfl | rfl <;> rfl) (Nat.le_refl _) rfl ?_
          rintro A24 w25 - hO26 hGw25
          have hap_hO26_g11 := ap_new hO26 (hVg11.bl_ge _ rfl).2
          have hap_hO26_g13 := ap_new hO26 (hVg13.bl_ge _ rfl).2
          have hap_hO26_g15 := ap_new hO26 (hVg15.bl_ge _ rfl).2
          have hO26 := hO26.low (b' := w.heap.size) hB.size
          have hB := ext_trans hB hGw25
          have han := han0.ext hB
          have hbd := hbd0.ext hB
          have hN27 : NatsR w25.heap.size w25 [.slice Aan man can, .slice Abd mbd cbd] [xan, xbd] := (NatsR.cons han.norm (NatsR.cons hbd.norm (NatsR.nil _ _)))
          exact WL.done ⟨_, rfl, hGw25, ⟨A24, rfl, hO26, hN27, hap_hO26_g11, hap_hO26_g13, hap_hO26_g15⟩⟩
        · intro w28 hE
          have hE := hE rfl
          have hB := ext_trans hB hE
          have hVg11 := hVg11.ext hE
          have hVg13 := hVg13.ext hE
          have hVg15 := hVg15.ext hE
          rintro _ ⟨A24, rfl, hO26, hN27, hap_hO26_g11, hap_hO26_g13, hap_hO26_g15⟩
          intro R
          refine WL.call Try.func36 rfl Try.nm36 rfl rfl (Mul2_c hO26.rd hN27 hLan hLbd (by omega)) ?_
          rintro _ w29 ⟨A30, m31, c32, rfl, hGw29, hl, hlm⟩
          have hap_hl_g11 := ap_new hl (hVg11.bl_ge _ rfl).2
          have hap_hl_g13 := ap_new hl (hVg13.bl_ge _ rfl).2
          have hap_hl_g15 := ap_new hl (hVg15.bl_ge _ rfl).2
          have hl := hl.low (b' := w.heap.size) hB.size
          have hB := ext_trans hB hGw29
          have hl_l := hl.rd.ulen
          exact WL.done ⟨_, rfl, hGw29, ⟨A30, m31, c32, rfl, hl, hlm, hap_hl_g11, hap_hl_g13, hap_hl_g15⟩⟩
        · intro w33 hE
          intro R
          refine WL.fieldA (off := 1) Try.fla25_1 rfl rfl ?_
          exact WL.done ⟨_, rfl, rfl, rfl⟩
        · intro w34 hE
          have hE := hE rfl
          have hB := ext_trans hB hE
          have hVg13 := hVg13.ext hE
          rintro _ rfl
          intro R
          refine WL.load Try.underlying23 rfl rfl (hVg13.vcells 1 _ rfl) rfl ?_
          exact WL.done ⟨_, rfl, ext_refl _, rfl⟩
        · intro w35 hE
          intro R
          refine WL.fieldA (off := 2) Try.fla25_2 rfl rfl ?_
          exact WL.done ⟨_, rfl, rfl, rfl⟩
        · intro w36 hE
          have hE := hE rfl
          have hB := ext_trans hB hE
          have hVg11 := hVg11.ext hE
          rintro _ rfl
          intro R
          refine WL.load Try.underlying23 rfl rfl (hVg11.vcells 2 _ rfl) rfl ?_
          exact WL.done ⟨_, rfl, ext_refl _, rfl⟩
        · intro w37 hE
          have hE := hE rfl
          have hB := ext_trans hB hE
          have had := had0.ext hB
          have hbn := hbn0.ext hB
          have hVg11 := hVg11.ext hE
          have hVg13 := hVg13.ext hE
          have hVg15 := hVg15.ext hE
          rintro _ rfl
          rintro _ rfl
          intro R
          refine WL.lit1 (b := w37.heap.size) Try.underlying63 Try.el23 rfl rfl rfl rfl (by intro v hv; simp only [List.mem_cons, List.not_mem_nil, or_false] at hv; rcases hv with rfl | rfl <;> rfl) (Nat.le_refl _) rfl ?_
          rintro A38 w39 - hO40 hGw39
          have hap_hO40_g11 := ap_new hO40 (hVg11.bl_ge _ rfl).2
          have hap_hO40_g13 := ap_new hO40 (hVg13.bl_ge _ rfl).2
          have hap_hO40_g15 := ap_new hO40 (hVg15.bl_ge _ rfl).2
          have hO40 := hO40.low (b' := w.heap.size) hB.size
          have hB := ext_trans hB hGw39
          have had := had0.ext hB
          have hbn := hbn0.ext hB
          have hN41 : NatsR w39.heap.size w39 [.slice Abn mbn cbn, .slice Aad mad cad] [xbn, xad] := (NatsR.cons hbn.norm (NatsR.cons had.norm (NatsR.nil _ _)))
          exact WL.done ⟨_, rfl, hGw39, ⟨A38, rfl, hO40, hN41, hap_hO40_g11, hap_hO40_g13, hap_hO40_g15⟩⟩
      · intro vals w42 hT hVs
        have hB := ext_trans hB hT
        have had := had0.ext hB
        have hbd := hbd0.ext hB
        have hVg11 := hVg11.ext hT
        have hVg13 := hVg13.ext hT
        have hVg15 := hVg15.ext hT
        have hv0 : vals 0 = _ := hVs 0 (by decide)
        have hv1 : vals 1 = _ := hVs 1 (by decide)
        have hv2 : vals 2 = _ := hVs 2 (by decide)
        have hv3 : vals 3 = _ := hVs 3 (by decide)
        obtain ⟨A24, hv4, hO26, hN27, hap_hO26_g11, hap_hO26_g13, hap_hO26_g15⟩ := hVs 4 (by decide)
        obtain ⟨A30, m31, c32, hv5, hl, hlm, hap_hl_g11, hap_hl_g13, hap_hl_g15⟩ := hVs 5 (by decide)
        have hv6 : vals 6 = _ := hVs 6 (by decide)
        have hv7 : vals 7 = _ := hVs 7 (by decide)
        have hv8 : vals 8 = _ := hVs 8 (by decide)
        have hv9 : vals 9 = _ := hVs 9 (by decide)
        obtain ⟨A38, hv10, hO40, hN41, hap_hO40_g11, hap_hO40_g13, hap_hO40_g15⟩ := hVs 10 (by decide)
        rw [show (List.filterMap (fun i => Option.map (fun t => (t, vals i)) (dstAt _ i)) (List.range _)) = [(20, .pointer (some ((⟨g11, 0, none⟩ : Addr).add 1))), (21, .slice Aan man can), (22, .pointer (some ((⟨g13, 0, none⟩ : Addr).add 2))), (23, .slice Abd mbd cbd), (24, .slice A24 2 2), (25, .slice A30 m31 c32), (26, .pointer (some ((⟨g13, 0, none⟩ : Addr).add 1))), (27, .slice Abn mbn cbn), (28, .pointer (some ((⟨g11, 0, none⟩ : Addr).add 2))), (29, .slice Aad mad cad), (30, .slice A38 2 2)] from by
          show [(20, vals 0), (21, vals 1), (22, vals 2), (23, vals 3), (24, vals 4), (25, vals 5), (26, vals 6), (27, vals 7), (28, vals 8), (29, vals 9), (30, vals 10)] = _
          rw [hv0, hv1, hv2, hv3, hv4, hv5, hv6, hv7, hv8, hv9, hv10]]
        refine WA.step [11] (by decide +kernel) rfl ?_
        intro iQ hQ
        simp only [List.mem_cons, List.not_mem_nil, or_false] at hQ
        obtain rfl := hQ
        · refine ⟨_, rfl, ?_⟩
          refine WL.call Try.func36 rfl Try.nm36 rfl rfl (Mul2_c hO40.rd hN41 hLbn hLad (by omega)) ?_
          rintro _ w43 ⟨A44, m45, c46, rfl, hGw43, hp, hpm⟩
          have hp := hp.low (b' := w.heap.size) hB.size
          have hB := ext_trans hB hGw43
          have had := had0.ext hB
          have hbd := hbd0.ext hB
          have hVg11 := hVg11.ext hGw43
          have hVg13 := hVg13.ext hGw43
          have hVg15 := hVg15.ext hGw43
          have hl := hl.ext hGw43
          have hp_l := hp.rd.ulen
          refine WL.done ?_
          refine WA.step [12] (by decide +kernel) rfl ?_
          intro iQ hQ
          simp only [List.mem_cons, List.not_mem_nil, or_false] at hQ
          obtain rfl := hQ
          · refine ⟨_, rfl, ?_⟩
            refine WL.assign rfl rfl ?_
            refine WL.done ?_
            refine WA.step [13] (by decide +kernel) rfl ?_
            intro iQ hQ
            simp only [List.mem_cons, List.not_mem_nil, or_false] at hQ
            obtain rfl := hQ
            · refine ⟨_, rfl, ?_⟩
              refine WL.assign rfl rfl ?_
              refine WL.done ?_
              refine WA.done (by decide +kernel) ?_
              refine W.seq ?_
              refine W.region ?_
              refine WL.fieldA (off := 2) Try.fla25_2 rfl rfl ?_
              refine WL.load Try.underlying23 rfl rfl (hVg11.vcells 2 _ rfl) rfl ?_
              refine WL.fieldA (off := 2) Try.fla25_2 rfl rfl ?_
              refine WL.load Try.underlying23 rfl rfl (hVg13.vcells 2 _ rfl) rfl ?_
              refine WL.lit1 (b := w43.heap.size) Try.underlying63 Try.el23 rfl rfl rfl rfl (by intro v hv; simp only [List.mem_cons, List.not_mem_nil, or_false] at hv; rcases hv with rfl | rfl <;> rfl) (Nat.le_refl _) rfl ?_
              rintro A47 w48 - hO49 hGw48
              have hO49 := hO49.low (b' := w.heap.size) hB.size
              have hB := ext_trans hB hGw48
              have had := had0.ext hB
              have hbd := hbd0.ext hB
              have hVg11 := hVg11.ext hGw48
              have hVg13 := hVg13.ext hGw48
              have hVg15 := hVg15.ext hGw48
              have hl := hl.ext hGw48
              have hp := hp.ext hGw48
              have hN50 : NatsR w48.heap.size w48 [.slice Aad mad cad, .slice Abd mbd cbd] [xad, xbd] := (NatsR.cons had.norm (NatsR.cons hbd.norm (NatsR.nil _ _)))
              refine WL.call Try.func36 rfl Try.nm36 rfl rfl (Mul2_c hO49.rd hN50 hLad hLbd (by omega)) ?_
              rintro _ w51 ⟨A52, m53, c54, rfl, hGw51, hd, hdm⟩
              have hd := hd.low (b' := w.heap.size) hB.size
              have hB := ext_trans hB hGw51
              have hVg11 := hVg11.ext hGw51
              have hVg13 := hVg13.ext hGw51
              have hVg15 := hVg15.ext hGw51
              have hl := hl.ext hGw51
              have hp := hp.ext hGw51
              have hd_l := hd.rd.ulen
              refine WL.assign rfl rfl ?_
              refine WL.done ?_
              refine W.seq ?_
              refine W.seq ?_
              refine W.region ?_
              refine WL.fieldA (off := 0) Try.fla25_0 rfl rfl ?_
              refine WL.load Try.underlying4 rfl rfl (hVg11.vcells 0 _ rfl) rfl ?_
              refine WL.fieldA (off := 0) Try.fla25_0 rfl rfl ?_
              refine WL.load Try.underlying4 rfl rfl (hVg13.vcells 0 _ rfl) rfl ?_
              refine WL.eqB (r := (na == nb)) rfl rfl Try.underlying4 rfl rfl ?_
              refine WL.done ?_
              refine W.cond2 rfl (fun c55 => ?_) (fun c55 => ?_)
              · skip
                have hsg9 := c55
                refine W.seq ?_
                refine W.drawT 7 [⟨[], [2], true⟩, ⟨[0], [], false⟩, ⟨[], [5], true⟩, ⟨[], [6], true⟩, ⟨[2, 3], [], false⟩, ⟨[4], [], false⟩, ⟨[], [7], true⟩] [[(2, .pointer (some ⟨g11, 0, none⟩))], [], [(5, .slice A30 m31 c32)], [(6, .slice A44 m45 c46)], [], [], [(7, .slice A52 m53 c54)]] (fun iQ => [fun v wQ => v = .pointer (some ((⟨g11, 0, none⟩ : Addr).add 0)), fun v wQ => v = .bool na, fun v wQ => v = .slice A30 m31 c32, fun v wQ => v = .slice A44 m45 c46, fun v wQ => ∃ A61, v = .slice A61 2 2 ∧ (Own w.heap.size wQ 23 1 A61 2 2 [.slice A30 m31 c32, .slice A44 m45 c46]) ∧ (NatsR wQ.heap.size wQ [.slice A30 m31 c32, .slice A44 m45 c46] [digs (nv xan * nv xbd), digs (nv xbn * nv xad)]) ∧ (∀ k, bl A61 = some k → k ≠ g11) ∧ (∀ k, bl A61 = some k → k ≠ g13) ∧ (∀ k, bl A61 = some k → k ≠ g15), fun v wQ => ∃ A67 m68 c69, v = .slice A67 m68 c69 ∧ (Own w.heap.size wQ 48 1 A67 m68 c69 (us (digs (nv (digs (nv xan * nv xbd)) + nv (digs (nv xbn * nv xad)))))) ∧ (m68 ≤ max m31 m45 + 1) ∧ (∀ k, bl A67 = some k → k ≠ g11) ∧ (∀ k, bl A67 = some k → k ≠ g13) ∧ (∀ k, bl A67 = some k → k ≠ g15), fun v wQ => v = .slice A52 m53 c54].getD iQ (fun _ _ => True)) Try.mixed (by kernel_rfl) ?_ ?_ ?_
                · refine Vs_monoT _ ?_
                  intro VQ hVQ vQ wQ1 wQ2 hQ1 hQ2
                  simp only [List.mem_cons, List.not_mem_nil, or_false] at hVQ
                  rcases hVQ with rfl | rfl | rfl | rfl | rfl | rfl | rfl
                  · exact hQ1
                  · exact hQ1
                  · exact hQ1
                  · exact hQ1
                  · obtain ⟨A61, hQe, hO63, hN64, hap_hO63_g11, hap_hO63_g13, hap_hO63_g15⟩ := hQ1
                    exact ⟨A61, hQe, hO63.ext hQ2, (hN64.ext hQ2).norm, hap_hO63_g11, hap_hO63_g13, hap_hO63_g15⟩
                  · obtain ⟨A67, m68, c69, hQe, ha_, ha_m, hap_ha__g11, hap_ha__g13, hap_ha__g15⟩ := hQ1
                    exact ⟨A67, m68, c69, hQe, ha_.ext hQ2, ha_m, hap_ha__g11, hap_ha__g13, hap_ha__g15⟩
                  · exact hQ1
                · refine ⟨⟨rfl, ⟨rfl, trivial⟩, ?_⟩, ⟨rfl, trivial, ?_⟩, ⟨rfl, ⟨rfl, trivial⟩, ?_⟩, ⟨rfl, ⟨rfl, trivial⟩, ?_⟩, ⟨rfl, trivial, ?_⟩, ⟨rfl, trivial, ?_⟩, ⟨rfl, ⟨rfl, trivial⟩, ?_⟩, trivial⟩
                  · intro w56 hE
                    intro R
                    refine WL.fieldA (off := 0) Try.fla25_0 rfl rfl ?_
                    exact WL.done ⟨_, rfl, rfl, rfl⟩
                  · intro w57 hE
                    have hE := hE rfl
                    have hB := ext_trans hB hE
                    have hVg11 := hVg11.ext hE
                    rintro _ rfl
                    intro R
                    refine WL.load Try.underlying4 rfl rfl (hVg11.vcells 0 _ rfl) rfl ?_
                    exact WL.done ⟨_, rfl, ext_refl _, rfl⟩
                  · intro w58 hE
                    intro R
                    refine WL.move rfl rfl ?_
                    exact WL.done ⟨_, rfl, rfl, rfl⟩
                  · intro w59 hE
                    intro R
                    refine WL.move rfl rfl ?_
                    exact WL.done ⟨_, rfl, rfl, rfl⟩
                  · intro w60 hE
                    have hE := hE rfl
                    have hB := ext_trans hB hE
                    have hVg11 := hVg11.ext hE
                    have hVg13 := hVg13.ext hE
                    have hVg15 := hVg15.ext hE
                    have hl := hl.ext hE
                    have hp := hp.ext hE
                    rintro _ rfl
                    rintro _ rfl
                    intro R
                    refine WL.lit1 (b := w60.heap.size) Try.underlying63 Try.el23 rfl rfl rfl rfl (by intro v hv; simp only [List.mem_cons, List.not_mem_nil, or_false] at hv; rcases hv with rfl | rfl <;> rfl) (Nat.le_refl _) rfl ?_
                    rintro A61 w62 - hO63 hGw62
                    have hap_hO63_g11 := ap_new hO63 (hVg11.bl_ge _ rfl).2
                    have hap_hO63_g13 := ap_new hO63 (hVg13.bl_ge _ rfl).2
                    have hap_hO63_g15 := ap_new hO63 (hVg15.bl_ge _ rfl).2
                    have hO63 := hO63.low (b' := w.heap.size) hB.size
                    have hB := ext_trans hB hGw62
                    have hl := hl.ext hGw62
                    have hp := hp.ext hGw62
                    have hN64 : NatsR w62.heap.size w62 [.slice A30 m31 c32, .slice A44 m45 c46] [digs (nv xan * nv xbd), digs (nv xbn * nv xad)] := (NatsR.cons hl.rd.norm (NatsR.cons hp.rd.norm (NatsR.nil _ _)))
                    exact WL.done ⟨_, rfl, hGw62, ⟨A61, rfl, hO63, hN64, hap_hO63_g11, hap_hO63_g13, hap_hO63_g15⟩⟩
                  · intro w65 hE
                    have hE := hE rfl
                    have hB := ext_trans hB hE
                    have hVg11 := hVg11.ext hE
                    have hVg13 := hVg13.ext hE
                    have hVg15 := hVg15.ext hE
                    rintro _ ⟨A61, rfl, hO63, hN64, hap_hO63_g11, hap_hO63_g13, hap_hO63_g15⟩
                    intro R
                    refine WL.call Try.func25 rfl Try.nm25 rfl rfl (Add2_c hO63.rd hN64 (digs_lim _) (digs_lim _) (by omega)) ?_
                    rintro _ w66 ⟨A67, m68, c69, rfl, hGw66, ha_, ha_m⟩
                    have hap_ha__g11 := ap_new ha_ (hVg11.bl_ge _ rfl).2
                    have hap_ha__g13 := ap_new ha_ (hVg13.bl_ge _ rfl).2
                    have hap_ha__g15 := ap_new ha_ (hVg15.bl_ge _ rfl).2
                    have ha_ := ha_.low (b' := w.heap.size) hB.size
                    have hB := ext_trans hB hGw66
                    have ha__l := ha_.rd.ulen
                    exact WL.done ⟨_, rfl, hGw66, ⟨A67, m68, c69, rfl, ha_, ha_m, hap_ha__g11, hap_ha__g13, hap_ha__g15⟩⟩
                  · intro w70 hE
                    intro R
                    refine WL.move rfl rfl ?_
                    exact WL.done ⟨_, rfl, rfl, rfl⟩
                · intro vals w71 hT hVs
                  have hB := ext_trans hB hT
                  have hVg15 := hVg15.ext hT
                  have hd := hd.ext hT
                  have hv0 : vals 0 = _ := hVs 0 (by decide)
                  have hv1 : vals 1 = _ := hVs 1 (by decide)
                  have hv2 : vals 2 = _ := hVs 2 (by decide)
                  have hv3 : vals 3 = _ := hVs 3 (by decide)
                  obtain ⟨A61, hv4, hO63, hN64, hap_hO63_g11, hap_hO63_g13, hap_hO63_g15⟩ := hVs 4 (by decide)
                  obtain ⟨A67, m68, c69, hv5, ha_, ha_m, hap_ha__g11, hap_ha__g13, hap_ha__g15⟩ := hVs 5 (by decide)
                  have hv6 : vals 6 = _ := hVs 6 (by decide)
                  rw [show (List.filterMap (fun i => Option.map (fun t => (t, vals i)) (dstAt _ i)) (List.range _)) = [(43, .pointer (some ((⟨g11, 0, none⟩ : Addr).add 0))), (44, .bool na), (45, .slice A30 m31 c32), (46, .slice A44 m45 c46), (47, .slice A61 2 2), (48, .slice A67 m68 c69), (49, .slice A52 m53 c54)] from by
                    show [(43, vals 0), (44, vals 1), (45, vals 2), (46, vals 3), (47, vals 4), (48, vals 5), (49, vals 6)] = _
                    rw [hv0, hv1, hv2, hv3, hv4, hv5, hv6]]
                  refine WA.step [7] (by decide +kernel) rfl ?_
                  intro iQ hQ
                  simp only [List.mem_cons, List.not_mem_nil, or_false] at hQ
                  obtain rfl := hQ
                  · refine ⟨_, rfl, ?_⟩
                    refine WL.call Try.func39 rfl Try.nm39 rfl rfl (red_c ha_.rd hd.rd (digs_lim _) (digs_lim _) (by rw [nv_digs, nv_digs, nv_digs]; have := Nat.mul_ne_zero za.1 zb.2; omega) (by rw [nv_digs]; exact hd9) (by omega) (by omega)) ?_
                    rintro _ w72 ⟨A73, m74, c75, A76, m77, c78, rfl, hGw72, hrn, hrd, hrm⟩
                    have hap_hrn_g15 := ap_new hrn (hVg15.bl_ge _ rfl).2
                    have hap_hrd_g15 := ap_new hrd (hVg15.bl_ge _ rfl).2
                    have hrn := hrn.low (b' := w.heap.size) hB.size
                    have hrd := hrd.low (b' := w.heap.size) hB.size
                    have hB := ext_trans hB hGw72
                    have hVg15 := hVg15.ext hGw72
                    have hrn_l := hrn.rd.ulen
                    have hrd_l := hrd.rd.ulen
                    refine WL.done ?_
                    refine WA.step [8] (by decide +kernel) rfl ?_
                    intro iQ hQ
                    simp only [List.mem_cons, List.not_mem_nil, or_false] at hQ
                    obtain rfl := hQ
                    · refine ⟨_, rfl, ?_⟩
                      refine WL.storeV Try.el25 rfl rfl rfl rfl hVg15 ?_
                      have hOld80 := hVg15
                      intro w79 hVg15 hGw79
                      change Own _ _ _ _ _ _ _ [.bool (qneg (val na (nv (digs (nv (digs (nv xan * nv xbd)) + nv (digs (nv xbn * nv xad))))) (nv (digs (nv xad * nv xbd))))), .slice A73 m74 c75, .slice A76 m77 c78] at hVg15
                      have hB := ext_own hB hGw79 (fun g hg => (hOld80.bl_ge g hg).1)
                      have hrn := hrn.grown hGw79 (ap_row hap_hrn_g15)
                      have hrd := hrd.grown hGw79 (ap_row hap_hrd_g15)
                      refine WL.done ?_
                      refine WA.done (by decide +kernel) ?_
                      refine W.ret ?_
                      refine ⟨[.agg #[.bool (qneg (val na (nv (digs (nv (digs (nv xan * nv xbd)) + nv (digs (nv xbn * nv xad))))) (nv (digs (nv xad * nv xbd))))), .slice A73 m74 c75, .slice A76 m77 c78]], ⟨_, _, _, rfl, rfl, run_loadV (cs := [.bool (qneg (val na (nv (digs (nv (digs (nv xan * nv xbd)) + nv (digs (nv xbn * nv xad))))) (nv (digs (nv xad * nv xbd))))), .slice A73 m74 c75, .slice A76 m77 c78]) Try.el25 Try.agg25 rfl hVg15.vcells, rfl⟩, ?_⟩
                      have e9 : qa + qb = val na (nv (digs (nv (digs (nv xan * nv xbd)) + nv (digs (nv xbn * nv xad))))) (nv (digs (nv xad * nv xbd))) := by
                        rw [← hqa, ← hqb]; simp only [nv_digs]; exact val_add_same za.2 zb.2 (by have h := hsg9; simpa using h)
                      rw [e9]
                      exact ⟨_, _, _, _, _, _, rfl, hB, hrn, hrd, by omega⟩
              · skip
                have hsg9 := c55
                refine W.skip ?_
                refine W.seq ?_
                refine W.seq ?_
                refine W.region ?_
                refine WL.move rfl rfl ?_
                refine WL.move rfl rfl ?_
                refine WL.call Try.func35 rfl Try.nm35 rfl rfl (Cmp_c hl.rd hp.rd (digs_lim _) (digs_lim _)) ?_
                rintro _ w81 ⟨rfl, hGw81⟩
                have hB := ext_trans hB hGw81
                have hVg11 := hVg11.ext hGw81
                have hVg13 := hVg13.ext hGw81
                have hVg15 := hVg15.ext hGw81
                have hl := hl.ext hGw81
                have hp := hp.ext hGw81
                have hd := hd.ext hGw81
                rw [nv_digs, nv_digs]
                have hcc := cmpI_cases (nv xan * nv xbd) (nv xbn * nv xad)
                refine WL.done ?_
                refine W.block ?_
                refine W.seq ?_
                refine W.region ?_
                refine WL.eql rfl rfl rfl (fun c82 => ?_) (fun c82 => ?_)
                · refine WL.assign rfl rfl ?_
                  refine WL.done ?_
                  refine W.condT rfl ?_
                  refine W.seq ?_
                  refine W.region ?_
                  refine WL.move rfl rfl ?_
                  refine WL.move rfl rfl ?_
                  refine WL.call Try.func64 rfl Try.nm64 rfl rfl (Sub_ge hl.rd hp.rd (digs_lim _) (digs_lim _) (by omega) (by rw [nv_digs, nv_digs]; omega)) ?_
                  rintro _ w83 ⟨A84, m85, cp86, rfl, hGw83, hs_, hm87⟩
                  have hs_ := hs_.low (b' := w.heap.size) hB.size
                  have hB := ext_trans hB hGw83
                  have hVg11 := hVg11.ext hGw83
                  have hVg15 := hVg15.ext hGw83
                  have hd := hd.ext hGw83
                  have hs__l := hs_.rd.ulen
                  refine WL.move rfl rfl ?_
                  refine WL.extract rfl rfl rfl ?_
                  refine WL.extract rfl rfl rfl ?_
                  refine WL.assign rfl rfl ?_
                  refine WL.assign rfl rfl ?_
                  refine WL.done ?_
                  refine W.seq ?_
                  refine W.region ?_
                  refine WL.fieldA (off := 0) Try.fla25_0 rfl rfl ?_
                  refine WL.load Try.underlying4 rfl rfl (hVg11.vcells 0 _ rfl) rfl ?_
                  refine WL.move rfl rfl ?_
                  refine WL.move rfl rfl ?_
                  refine WL.call Try.func39 rfl Try.nm39 rfl rfl (red_c hs_.rd hd.rd (digs_lim _) (digs_lim _) (by rw [nv_digs, nv_digs, nv_digs]; omega) (by rw [nv_digs]; exact hd9) (by omega) (by omega)) ?_
                  rintro _ w88 ⟨A89, m90, c91, A92, m93, c94, rfl, hGw88, hrn, hrd, hrm⟩
                  have hap_hrn_g15 := ap_new hrn (hVg15.bl_ge _ rfl).2
                  have hap_hrd_g15 := ap_new hrd (hVg15.bl_ge _ rfl).2
                  have hrn := hrn.low (b' := w.heap.size) hB.size
                  have hrd := hrd.low (b' := w.heap.size) hB.size
                  have hB := ext_trans hB hGw88
                  have hVg15 := hVg15.ext hGw88
                  have hrn_l := hrn.rd.ulen
                  have hrd_l := hrd.rd.ulen
                  refine WL.storeV Try.el25 rfl rfl rfl rfl hVg15 ?_
                  have hOld96 := hVg15
                  intro w95 hVg15 hGw95
                  change Own _ _ _ _ _ _ _ [.bool (qneg (val na (nv (digs (nv (digs (nv xan * nv xbd)) - nv (digs (nv xbn * nv xad))))) (nv (digs (nv xad * nv xbd))))), .slice A89 m90 c91, .slice A92 m93 c94] at hVg15
                  have hB := ext_own hB hGw95 (fun g hg => (hOld96.bl_ge g hg).1)
                  have hrn := hrn.grown hGw95 (ap_row hap_hrn_g15)
                  have hrd := hrd.grown hGw95 (ap_row hap_hrd_g15)
                  refine WL.done ?_
                  refine W.ret ?_
                  refine ⟨[.agg #[.bool (qneg (val na (nv (digs (nv (digs (nv xan * nv xbd)) - nv (digs (nv xbn * nv xad))))) (nv (digs (nv xad * nv xbd))))), .slice A89 m90 c91, .slice A92 m93 c94]], ⟨_, _, _, rfl, rfl, run_loadV (cs := [.bool (qneg (val na (nv (digs (nv (digs (nv xan * nv xbd)) - nv (digs (nv xbn * nv xad))))) (nv (digs (nv xad * nv xbd))))), .slice A89 m90 c91, .slice A92 m93 c94]) Try.el25 Try.agg25 rfl hVg15.vcells, rfl⟩, ?_⟩
                  have e9 : qa + qb = val na (nv (digs (nv (digs (nv xan * nv xbd)) - nv (digs (nv xbn * nv xad))))) (nv (digs (nv xad * nv xbd))) := by
                    rw [← hqa, ← hqb]; simp only [nv_digs]; exact val_add_gt za.2 zb.2 (by have h := hsg9; simpa using h) (by omega)
                  rw [e9]
                  exact ⟨_, _, _, _, _, _, rfl, hB, hrn, hrd, by omega⟩
                · refine WL.assign rfl rfl ?_
                  refine WL.done ?_
                  refine W.condF rfl ?_
                  refine W.seq ?_
                  refine W.region ?_
                  refine WL.eql rfl rfl rfl (fun c97 => ?_) (fun c97 => ?_)
                  · refine WL.assign rfl rfl ?_
                    refine WL.done ?_
                    refine W.condT rfl ?_
                    refine W.seq ?_
                    refine W.region ?_
                    refine WL.move rfl rfl ?_
                    refine WL.move rfl rfl ?_
                    refine WL.call Try.func64 rfl Try.nm64 rfl rfl (Sub_ge hp.rd hl.rd (digs_lim _) (digs_lim _) (by omega) (by rw [nv_digs, nv_digs]; omega)) ?_
                    rintro _ w98 ⟨A99, m100, cp101, rfl, hGw98, hs_, hm102⟩
                    have hs_ := hs_.low (b' := w.heap.size) hB.size
                    have hB := ext_trans hB hGw98
                    have hVg13 := hVg13.ext hGw98
                    have hVg15 := hVg15.ext hGw98
                    have hd := hd.ext hGw98
                    have hs__l := hs_.rd.ulen
                    refine WL.move rfl rfl ?_
                    refine WL.extract rfl rfl rfl ?_
                    refine WL.extract rfl rfl rfl ?_
                    refine WL.assign rfl rfl ?_
                    refine WL.assign rfl rfl ?_
                    refine WL.done ?_
                    refine W.seq ?_
                    refine W.region ?_
                    refine WL.fieldA (off := 0) Try.fla25_0 rfl rfl ?_
                    refine WL.load Try.underlying4 rfl rfl (hVg13.vcells 0 _ rfl) rfl ?_
                    refine WL.move rfl rfl ?_
                    refine WL.move rfl rfl ?_
                    refine WL.call Try.func39 rfl Try.nm39 rfl rfl (red_c hs_.rd hd.rd (digs_lim _) (digs_lim _) (by rw [nv_digs, nv_digs, nv_digs]; omega) (by rw [nv_digs]; exact hd9) (by omega) (by omega)) ?_
                    rintro _ w103 ⟨A104, m105, c106, A107, m108, c109, rfl, hGw103, hrn, hrd, hrm⟩
                    have hap_hrn_g15 := ap_new hrn (hVg15.bl_ge _ rfl).2
                    have hap_hrd_g15 := ap_new hrd (hVg15.bl_ge _ rfl).2
                    have hrn := hrn.low (b' := w.heap.size) hB.size
                    have hrd := hrd.low (b' := w.heap.size) hB.size
                    have hB := ext_trans hB hGw103
                    have hVg15 := hVg15.ext hGw103
                    have hrn_l := hrn.rd.ulen
                    have hrd_l := hrd.rd.ulen
                    refine WL.storeV Try.el25 rfl rfl rfl rfl hVg15 ?_
                    have hOld111 := hVg15
                    intro w110 hVg15 hGw110
                    change Own _ _ _ _ _ _ _ [.bool (qneg (val nb (nv (digs (nv (digs (nv xbn * nv xad)) - nv (digs (nv xan * nv xbd))))) (nv (digs (nv xad * nv xbd))))), .slice A104 m105 c106, .slice A107 m108 c109] at hVg15
                    have hB := ext_own hB hGw110 (fun g hg => (hOld111.bl_ge g hg).1)
                    have hrn := hrn.grown hGw110 (ap_row hap_hrn_g15)
                    have hrd := hrd.grown hGw110 (ap_row hap_hrd_g15)
                    refine WL.done ?_
                    refine W.ret ?_
                    refine ⟨[.agg #[.bool (qneg (val nb (nv (digs (nv (digs (nv xbn * nv xad)) - nv (digs (nv xan * nv xbd))))) (nv (digs (nv xad * nv xbd))))), .slice A104 m105 c106, .slice A107 m108 c109]], ⟨_, _, _, rfl, rfl, run_loadV (cs := [.bool (qneg (val nb (nv (digs (nv (digs (nv xbn * nv xad)) - nv (digs (nv xan * nv xbd))))) (nv (digs (nv xad * nv xbd))))), .slice A104 m105 c106, .slice A107 m108 c109]) Try.el25 Try.agg25 rfl hVg15.vcells, rfl⟩, ?_⟩
                    have e9 : qa + qb = val nb (nv (digs (nv (digs (nv xbn * nv xad)) - nv (digs (nv xan * nv xbd))))) (nv (digs (nv xad * nv xbd))) := by
                      rw [← hqa, ← hqb]; simp only [nv_digs]; exact val_add_lt za.2 zb.2 (by have h := hsg9; simpa using h) (by omega)
                    rw [e9]
                    exact ⟨_, _, _, _, _, _, rfl, hB, hrn, hrd, by omega⟩
                  · refine WL.assign rfl rfl ?_
                    refine WL.done ?_
                    refine W.condF rfl ?_
                    refine W.skip ?_
                    refine W.seq ?_
                    refine W.region ?_
                    refine WL.call Try.func22 rfl Try.nm22 rfl rfl (zero_c) ?_
                    rintro _ w112 ⟨A113, m114, c115, A116, m117, c118, rfl, hGw112, hrn, hrd, hrm⟩
                    have hap_hrn_g15 := ap_new hrn (hVg15.bl_ge _ rfl).2
                    have hap_hrd_g15 := ap_new hrd (hVg15.bl_ge _ rfl).2
                    have hrn := hrn.low (b' := w.heap.size) hB.size
                    have hrd := hrd.low (b' := w.heap.size) hB.size
                    have hB := ext_trans hB hGw112
                    have hVg15 := hVg15.ext hGw112
                    have hrn_l := hrn.rd.ulen
                    have hrd_l := hrd.rd.ulen
                    refine WL.storeV Try.el25 rfl rfl rfl rfl hVg15 ?_
                    have hOld120 := hVg15
                    intro w119 hVg15 hGw119
                    change Own _ _ _ _ _ _ _ [.bool (qneg ((0 : Rat))), .slice A113 m114 c115, .slice A116 m117 c118] at hVg15
                    have hB := ext_own hB hGw119 (fun g hg => (hOld120.bl_ge g hg).1)
                    have hrn := hrn.grown hGw119 (ap_row hap_hrn_g15)
                    have hrd := hrd.grown hGw119 (ap_row hap_hrd_g15)
                    refine WL.done ?_
                    refine W.ret ?_
                    refine ⟨[.agg #[.bool (qneg ((0 : Rat))), .slice A113 m114 c115, .slice A116 m117 c118]], ⟨_, _, _, rfl, rfl, run_loadV (cs := [.bool (qneg ((0 : Rat))), .slice A113 m114 c115, .slice A116 m117 c118]) Try.el25 Try.agg25 rfl hVg15.vcells, rfl⟩, ?_⟩
                    have e9 : qa + qb = 0 := by
                      rw [← hqa, ← hqb, val_add_gt za.2 zb.2 (by have h := hsg9; simpa using h) (by omega), show nv xan * nv xbd - nv xbn * nv xad = 0 by omega]; exact val_n0 _ _
                    rw [e9]
                    exact ⟨_, _, _, _, _, _, rfl, hB, hrn, hrd, by omega⟩
    · have zb := zb_t rfl
      refine WL.done ?_
      refine W.condT rfl ?_
      refine W.seq ?_
      refine W.region ?_
      refine WL.loadV (cs := [.bool na, .slice Aan man can, .slice Aad mad cad]) Try.el25 Try.agg25 rfl rfl hVg11.vcells rfl ?_
      refine WL.call Try.func15 rfl Try.nm15 rfl rfl (qTrim_c han had hLan hLad qa hqa (by omega)) ?_
      rintro _ w121 ⟨A122, m123, c124, A125, m126, c127, rfl, hGw121, hrn, hrd, hrm⟩
      have hap_hrn_g15 := ap_new hrn (hVg15.bl_ge _ rfl).2
      have hap_hrd_g15 := ap_new hrd (hVg15.bl_ge _ rfl).2
      have hrn := hrn.low (b' := w.heap.size) hB.size
      have hrd := hrd.low (b' := w.heap.size) hB.size
      have hB := ext_trans hB hGw121
      have hVg15 := hVg15.ext hGw121
      have hrn_l := hrn.rd.ulen
      have hrd_l := hrd.rd.ulen
      refine WL.storeV Try.el25 rfl rfl rfl rfl hVg15 ?_
      have hOld129 := hVg15
      intro w128 hVg15 hGw128
      change Own _ _ _ _ _ _ _ [.bool (qneg (qa)), .slice A122 m123 c124, .slice A125 m126 c127] at hVg15
      have hB := ext_own hB hGw128 (fun g hg => (hOld129.bl_ge g hg).1)
      have hrn := hrn.grown hGw128 (ap_row hap_hrn_g15)
      have hrd := hrd.grown hGw128 (ap_row hap_hrd_g15)
      refine WL.done ?_
      refine W.ret ?_
      refine ⟨[.agg #[.bool (qneg (qa)), .slice A122 m123 c124, .slice A125 m126 c127]], ⟨_, _, _, rfl, rfl, run_loadV (cs := [.bool (qneg (qa)), .slice A122 m123 c124, .slice A125 m126 c127]) Try.el25 Try.agg25 rfl hVg15.vcells, rfl⟩, ?_⟩
      rw [zb, Rat.add_zero]
      exact ⟨_, _, _, _, _, _, rfl, hB, hrn, hrd, by omega⟩
  · have za := za_t rfl
    refine WL.done ?_
    refine W.condT rfl ?_
    refine W.seq ?_
    refine W.region ?_
    refine WL.loadV (cs := [.bool nb, .slice Abn mbn cbn, .slice Abd mbd cbd]) Try.el25 Try.agg25 rfl rfl hVg13.vcells rfl ?_
    refine WL.call Try.func15 rfl Try.nm15 rfl rfl (qTrim_c hbn hbd hLbn hLbd qb hqb (by omega)) ?_
    rintro _ w130 ⟨A131, m132, c133, A134, m135, c136, rfl, hGw130, hrn, hrd, hrm⟩
    have hap_hrn_g15 := ap_new hrn (hVg15.bl_ge _ rfl).2
    have hap_hrd_g15 := ap_new hrd (hVg15.bl_ge _ rfl).2
    have hrn := hrn.low (b' := w.heap.size) hB.size
    have hrd := hrd.low (b' := w.heap.size) hB.size
    have hB := ext_trans hB hGw130
    have hVg15 := hVg15.ext hGw130
    have hrn_l := hrn.rd.ulen
    have hrd_l := hrd.rd.ulen
    refine WL.storeV Try.el25 rfl rfl rfl rfl hVg15 ?_
    have hOld138 := hVg15
    intro w137 hVg15 hGw137
    change Own _ _ _ _ _ _ _ [.bool (qneg (qb)), .slice A131 m132 c133, .slice A134 m135 c136] at hVg15
    have hB := ext_own hB hGw137 (fun g hg => (hOld138.bl_ge g hg).1)
    have hrn := hrn.grown hGw137 (ap_row hap_hrn_g15)
    have hrd := hrd.grown hGw137 (ap_row hap_hrd_g15)
    refine WL.done ?_
    refine W.ret ?_
    refine ⟨[.agg #[.bool (qneg (qb)), .slice A131 m132 c133, .slice A134 m135 c136]], ⟨_, _, _, rfl, rfl, run_loadV (cs := [.bool (qneg (qb)), .slice A131 m132 c133, .slice A134 m135 c136]) Try.el25 Try.agg25 rfl hVg15.vcells, rfl⟩, ?_⟩
    rw [za, Rat.zero_add]
    exact ⟨_, _, _, _, _, _, rfl, hB, hrn, hrd, by omega⟩

theorem prod_c {w : World} {Ban : Nat} {Aan : Option Addr} {man can : Nat} {xan : List Nat} (han : Rd Ban w 1 Aan man can (us xan)) {Bad : Nat} {Aad : Option Addr} {mad cad : Nat} {xad : List Nat} (had : Rd Bad w 1 Aad mad cad (us xad)) {Bbn : Nat} {Abn : Option Addr} {mbn cbn : Nat} {xbn : List Nat} (hbn : Rd Bbn w 1 Abn mbn cbn (us xbn)) {Bbd : Nat} {Abd : Option Addr} {mbd cbd : Nat} {xbd : List Nat} (hbd : Rd Bbd w 1 Abd mbd cbd (us xbd)) {na : Bool} (hLan : Lim xan) (hLad : Lim xad) (qa : Rat) (hqa : val na (nv xan) (nv xad) = qa) {nb : Bool} (hLbn : Lim xbn) (hLbd : Lim xbd) (qb : Rat) (hqb : val nb (nv xbn) (nv xbd) = qb) (hsa : man ≤ 4194304 ∧ mad ≤ 4194304) (hsb : mbn ≤ 4194304 ∧ mbd ≤ 4194304) :
    Calls Try.prog 40 #[.agg #[.bool na, .slice Aan man can, .slice Aad mad cad], .agg #[.bool nb, .slice Abn mbn cbn, .slice Abd mbd cbd]] w fun e w2 => ∃ v, e = .returned v ∧ (fun v w2 => ∃ A2 m2 c2 A3 m3 c3, v = .agg #[.bool (qneg (qa * qb)), .slice A2 m2 c2, .slice A3 m3 c3] ∧ w.grownBy w2 none ∧ Own w.heap.size w2 48 1 A2 m2 c2 (us (digs (qnum (qa * qb)))) ∧ Own w.heap.size w2 48 1 A3 m3 c3 (us (digs (Rat.den (qa * qb)))) ∧ m2 ≤ man + mbn ∧ m3 ≤ mad + mbd + 1) v w2 := by
  have han := han.norm
  have han_l := han.ulen
  have han_x := han.max
  simp only [maxLen] at han_x
  have han_c := han.cap
  have had := had.norm
  have had_l := had.ulen
  have had_x := had.max
  simp only [maxLen] at had_x
  have had_c := had.cap
  have hbn := hbn.norm
  have hbn_l := hbn.ulen
  have hbn_x := hbn.max
  simp only [maxLen] at hbn_x
  have hbn_c := hbn.cap
  have hbd := hbd.norm
  have hbd_l := hbd.ulen
  have hbd_x := hbd.max
  simp only [maxLen] at hbd_x
  have hbd_c := hbd.cap
  have han0 := han
  have had0 := had
  have hbn0 := hbn
  have hbd0 := hbd
  have hB := ext_refl w
  refine calls_of_Wc (vs := [.agg #[.bool na, .slice Aan man can, .slice Aad mad cad], .agg #[.bool nb, .slice Abn mbn cbn, .slice Abd mbd cbd]]) [.cell 4 25] Try.func40 rfl rfl rfl rfl ?_
  refine W.seq ?_
  refine W.region ?_
  refine WL.box Try.el25 rfl rfl rfl ?_
  intro g11 w12 hg_g11 hVg11 hGw12
  change Own _ _ _ _ _ _ _ [.bool na, .slice Aan man can, .slice Aad mad cad] at hVg11
  have hVg11 := hVg11.low (b' := w.heap.size) hB.size
  have hB := ext_trans hB hGw12
  have han := han0.ext hB
  have had := had0.ext hB
  have hbn := hbn0.ext hB
  have hbd := hbd0.ext hB
  refine WL.box Try.el25 rfl rfl rfl ?_
  intro g13 w14 hg_g13 hVg13 hGw14
  change Own _ _ _ _ _ _ _ [.bool nb, .slice Abn mbn cbn, .slice Abd mbd cbd] at hVg13
  have hlt_g11_g13 : g11 < g13 := by rw [hg_g13]; exact (hVg11.bl_ge _ rfl).2
  have hVg13 := hVg13.low (b' := w.heap.size) hB.size
  have hB := ext_trans hB hGw14
  have han := han0.ext hB
  have had := had0.ext hB
  have hbn := hbn0.ext hB
  have hbd := hbd0.ext hB
  have hVg11 := hVg11.ext hGw14
  refine WL.alloc Try.el25 rfl ?_
  intro g15 w16 hg_g15 hVg15 hGw16
  change Own _ _ _ _ _ _ _ [.bool false, .slice none 0 0, .slice none 0 0] at hVg15
  have hlt_g11_g15 : g11 < g15 := by rw [hg_g15]; exact (hVg11.bl_ge _ rfl).2
  have hlt_g13_g15 : g13 < g15 := by rw [hg_g15]; exact (hVg13.bl_ge _ rfl).2
  have hVg15 := hVg15.low (b' := w.heap.size) hB.size
  have hB := ext_trans hB hGw16
  have han := han0.ext hB
  have had := had0.ext hB
  have hbn := hbn0.ext hB
  have hbd := hbd0.ext hB
  have hVg11 := hVg11.ext hGw16
  have hVg13 := hVg13.ext hGw16
  refine WL.done ?_
  refine W.seq ?_
  refine W.seq ?_
  refine W.region ?_
  refine WL.loadV (cs := [.bool na, .slice Aan man can, .slice Aad mad cad]) Try.el25 Try.agg25 rfl rfl hVg11.vcells rfl ?_
  refine WL.call Try.func21 rfl Try.nm21 rfl rfl (isZero_c han had hLan hLad qa hqa (by omega)) ?_
  rintro _ w17 ⟨bza, rfl, hGw17, za_t, za_f⟩
  have hB := ext_trans hB hGw17
  have han := han0.ext hB
  have had := had0.ext hB
  have hbn := hbn0.ext hB
  have hbd := hbd0.ext hB
  have hVg11 := hVg11.ext hGw17
  have hVg13 := hVg13.ext hGw17
  have hVg15 := hVg15.ext hGw17
  rcases bza with _ | _
  · have za := za_f rfl
    refine WL.move rfl rfl ?_
    refine WL.take rfl ?_
    refine WL.loadV (cs := [.bool nb, .slice Abn mbn cbn, .slice Abd mbd cbd]) Try.el25 Try.agg25 rfl rfl hVg13.vcells rfl ?_
    refine WL.take rfl ?_
    refine WL.call Try.func21 rfl Try.nm21 rfl rfl (isZero_c hbn hbd hLbn hLbd qb hqb (by omega)) ?_
    rintro _ w18 ⟨bzb, rfl, hGw18, zb_t, zb_f⟩
    have hB := ext_trans hB hGw18
    have han := han0.ext hB
    have had := had0.ext hB
    have hbn := hbn0.ext hB
    have hbd := hbd0.ext hB
    have hVg11 := hVg11.ext hGw18
    have hVg13 := hVg13.ext hGw18
    have hVg15 := hVg15.ext hGw18
    rcases bzb with _ | _
    · have zb := zb_f rfl
      refine WL.pick rfl rfl rfl ?_
      refine WL.done ?_
      refine W.condF rfl ?_
      refine W.skip ?_
      refine W.seq ?_
      refine W.drawT 17 [⟨[], [2], true⟩, ⟨[0], [], false⟩, ⟨[], [3], true⟩, ⟨[2], [], false⟩, ⟨[1, 3], [], true⟩, ⟨[], [2], true⟩, ⟨[5], [], false⟩, ⟨[], [3], true⟩, ⟨[7], [], false⟩, ⟨[6, 8], [], false⟩, ⟨[9], [], false⟩, ⟨[], [2], true⟩, ⟨[11], [], false⟩, ⟨[], [3], true⟩, ⟨[13], [], false⟩, ⟨[12, 14], [], false⟩, ⟨[15], [], false⟩] [[(2, .pointer (some ⟨g11, 0, none⟩))], [], [(3, .pointer (some ⟨g13, 0, none⟩))], [], [], [(2, .pointer (some ⟨g11, 0, none⟩))], [], [(3, .pointer (some ⟨g13, 0, none⟩))], [], [], [], [(2, .pointer (some ⟨g11, 0, none⟩))], [], [(3, .pointer (some ⟨g13, 0, none⟩))], [], [], []] (fun iQ => [fun v wQ => v = .pointer (some ((⟨g11, 0, none⟩ : Addr).add 0)), fun v wQ => v = .bool na, fun v wQ => v = .pointer (some ((⟨g13, 0, none⟩ : Addr).add 0)), fun v wQ => v = .bool nb, fun v wQ => v = .bool (na != nb), fun v wQ => v = .pointer (some ((⟨g11, 0, none⟩ : Addr).add 1)), fun v wQ => v = .slice Aan man can, fun v wQ => v = .pointer (some ((⟨g13, 0, none⟩ : Addr).add 1)), fun v wQ => v = .slice Abn mbn cbn, fun v wQ => ∃ A29, v = .slice A29 2 2 ∧ (Own w.heap.size wQ 23 1 A29 2 2 [.slice Aan man can, .slice Abn mbn cbn]) ∧ (NatsR wQ.heap.size wQ [.slice Aan man can, .slice Abn mbn cbn] [xan, xbn]) ∧ (∀ k, bl A29 = some k → k ≠ g11) ∧ (∀ k, bl A29 = some k → k ≠ g13) ∧ (∀ k, bl A29 = some k → k ≠ g15), fun v wQ => ∃ A35 m36 c37, v = .slice A35 m36 c37 ∧ (Own w.heap.size wQ 48 1 A35 m36 c37 (us (digs (nv xan * nv xbn)))) ∧ (m36 ≤ man + mbn) ∧ (∀ k, bl A35 = some k → k ≠ g11) ∧ (∀ k, bl A35 = some k → k ≠ g13) ∧ (∀ k, bl A35 = some k → k ≠ g15), fun v wQ => v = .pointer (some ((⟨g11, 0, none⟩ : Addr).add 2)), fun v wQ => v = .slice Aad mad cad, fun v wQ => v = .pointer (some ((⟨g13, 0, none⟩ : Addr).add 2)), fun v wQ => v = .slice Abd mbd cbd, fun v wQ => ∃ A43, v = .slice A43 2 2 ∧ (Own w.heap.size wQ 23 1 A43 2 2 [.slice Aad mad cad, .slice Abd mbd cbd]) ∧ (NatsR wQ.heap.size wQ [.slice Aad mad cad, .slice Abd mbd cbd] [xad, xbd]) ∧ (∀ k, bl A43 = some k → k ≠ g11) ∧ (∀ k, bl A43 = some k → k ≠ g13) ∧ (∀ k, bl A43 = some k → k ≠ g15), fun v wQ => ∃ A49 m50 c51, v = .slice A49 m50 c51 ∧ (Own w.heap.size wQ 48 1 A49 m50 c51 (us (digs (nv xad * nv xbd)))) ∧ (m50 ≤ mad + mbd) ∧ (∀ k, bl A49 = some k → k ≠ g11) ∧ (∀ k, bl A49 = some k → k ≠ g13) ∧ (∀ k, bl A49 = some k → k ≠ g15)].getD iQ (fun _ _ => True)) Try.mixed (by kernel_rfl) ?_ ?_ ?_
      · refine Vs_monoT _ ?_
        intro VQ hVQ vQ wQ1 wQ2 hQ1 hQ2
        simp only [List.mem_cons, List.not_mem_nil, or_false] at hVQ
        rcases hVQ with rfl | rfl | rfl | rfl | rfl | rfl | rfl | rfl | rfl | rfl | rfl | rfl | rfl | rfl | rfl | rfl | rfl
        · exact hQ1
        · exact hQ1
        · exact hQ1
        · exact hQ1
        · exact hQ1
        · exact hQ1
        · exact hQ1
        · exact hQ1
        · exact hQ1
        · obtain ⟨A29, hQe, hO31, hN32, hap_hO31_g11, hap_hO31_g13, hap_hO31_g15⟩ := hQ1
          exact ⟨A29, hQe, hO31.ext hQ2, (hN32.ext hQ2).norm, hap_hO31_g11, hap_hO31_g13, hap_hO31_g15⟩
        · obtain ⟨A35, m36, c37, hQe, hl, hlm, hap_hl_g11, hap_hl_g13, hap_hl_g15⟩ := hQ1
          exact ⟨A35, m36, c37, hQe, hl.ext hQ2, hlm, hap_hl_g11, hap_hl_g13, hap_hl_g15⟩
        · exact hQ1
        · exact hQ1
        · exact hQ1
        · exact hQ1
        · obtain ⟨A43, hQe, hO45, hN46, hap_hO45_g11, hap_hO45_g13, hap_hO45_g15⟩ := hQ1
          exact ⟨A43, hQe, hO45.ext hQ2, (hN46.ext hQ2).norm, hap_hO45_g11, hap_hO45_g13, hap_hO45_g15⟩
        · obtain ⟨A49, m50, c51, hQe, hd, hdm, hap_hd_g11, hap_hd_g13, hap_hd_g15⟩ := hQ1
          exact ⟨A49, m50, c51, hQe, hd.ext hQ2, hdm, hap_hd_g11, hap_hd_g13, hap_hd_g15⟩
      · refine ⟨⟨rfl, ⟨rfl, trivial⟩, ?_⟩, ⟨rfl, trivial, ?_⟩, ⟨rfl, ⟨rfl, trivial⟩, ?_⟩, ⟨rfl, trivial, ?_⟩, ⟨rfl, trivial, ?_⟩, ⟨rfl, ⟨rfl, trivial⟩, ?_⟩, ⟨rfl, trivial, ?_⟩, ⟨rfl, ⟨rfl, trivial⟩, ?_⟩, ⟨rfl, trivial, ?_⟩, ⟨rfl, trivial, ?_⟩, ⟨rfl, trivial, ?_⟩, ⟨rfl, ⟨rfl, trivial⟩, ?_⟩, ⟨rfl, trivial, ?_⟩, ⟨rfl, ⟨rfl, trivial⟩, ?_⟩, ⟨rfl, trivial, ?_⟩, ⟨rfl, trivial, ?_⟩, ⟨rfl, trivial, ?_⟩, trivial⟩
        · intro w19 hE
          intro R
          refine WL.fieldA (off := 0) Try.fla25_0 rfl rfl ?_
          exact WL.done ⟨_, rfl, rfl, rfl⟩
        · intro w20 hE
          have hE := hE rfl
          have hB := ext_trans hB hE
          have hVg11 := hVg11.ext hE
          rintro _ rfl
          intro R
          refine WL.load Try.underlying4 rfl rfl (hVg11.vcells 0 _ rfl) rfl ?_
          exact WL.done ⟨_, rfl, ext_refl _, rfl⟩
        · intro w21 hE
          intro R
          refine WL.fieldA (off := 0) Try.fla25_0 rfl rfl ?_
          exact WL.done ⟨_, rfl, rfl, rfl⟩
        · intro w22 hE
          have hE := hE rfl
          have hB := ext_trans hB hE
          have hVg13 := hVg13.ext hE
          rintro _ rfl
          intro R
          refine WL.load Try.underlying4 rfl rfl (hVg13.vcells 0 _ rfl) rfl ?_
          exact WL.done ⟨_, rfl, ext_refl _, rfl⟩
        · intro w23 hE
          rintro _ rfl
          rintro _ rfl
          intro R
          refine WL.neqB (r := (na != nb)) rfl rfl Try.underlying4 rfl rfl ?_
          exact WL.done ⟨_, rfl, rfl, rfl⟩
        · intro w24 hE
          intro R
          refine WL.fieldA (off := 1) Try.fla25_1 rfl rfl ?_
          exact WL.done ⟨_, rfl, rfl, rfl⟩
        · intro w25 hE
          have hE := hE rfl
          have hB := ext_trans hB hE
          have hVg11 := hVg11.ext hE
          rintro _ rfl
          intro R
          refine WL.load Try.underlying23 rfl rfl (hVg11.vcells 1 _ rfl) rfl ?_
          exact WL.done ⟨_, rfl, ext_refl _, rfl⟩
        · intro w26 hE
          intro R
          refine WL.fieldA (off := 1) Try.fla25_1 rfl rfl ?_
          exact WL.done ⟨_, rfl, rfl, rfl⟩
        · intro w27 hE
          have hE := hE rfl
          have hB := ext_trans hB hE
          have hVg13 := hVg13.ext hE
          rintro _ rfl
          intro R
          refine WL.load Try.underlying23 rfl rfl (hVg13.vcells 1 _ rfl) rfl ?_
          exact WL.done ⟨_, rfl, ext_refl _, rfl⟩
        · intro w28 hE
          have hE := hE rfl
          have hB := ext_trans hB hE
          have han := han0.ext hB
          have hbn := hbn0.ext hB
          have hVg11 := hVg11.ext hE
          have hVg13 := hVg13.ext hE
          have hVg15 := hVg15.ext hE
          rintro _ rfl
          rintro _ rfl
          intro R
          refine WL.lit1 (b := w28.heap.size) Try.underlying63 Try.el23 rfl rfl rfl rfl (by intro v hv; simp only [List.mem_cons, List.not_mem_nil, or_false] at hv; rcases hv with rfl | rfl <;> rfl) (Nat.le_refl _) rfl ?_
          rintro A29 w30 - hO31 hGw30
          have hap_hO31_g11 := ap_new hO31 (hVg11.bl_ge _ rfl).2
          have hap_hO31_g13 := ap_new hO31 (hVg13.bl_ge _ rfl).2
          have hap_hO31_g15 := ap_new hO31 (hVg15.bl_ge _ rfl).2
          have hO31 := hO31.low (b' := w.heap.size) hB.size
          have hB := ext_trans hB hGw30
          have han := han0.ext hB
          have hbn := hbn0.ext hB
          have hN32 : NatsR w30.heap.size w30 [.slice Aan man can, .slice Abn mbn cbn] [xan, xbn] := (NatsR.cons han.norm (NatsR.cons hbn.norm (NatsR.nil _ _)))
          exact WL.done ⟨_, rfl, hGw30, ⟨A29, rfl, hO31, hN32, hap_hO31_g11, hap_hO31_g13, hap_hO31_g15⟩⟩
        · intro w33 hE
          have hE := hE rfl
          have hB := ext_trans hB hE
          have hVg11 := hVg11.ext hE
          have hVg13 := hVg13.ext hE
          have hVg15 := hVg15.ext hE
          rintro _ ⟨A29, rfl, hO31, hN32, hap_hO31_g11, hap_hO31_g13, hap_hO31_g15⟩
          intro R
          refine WL.call Try.func36 rfl Try.nm36 rfl rfl (Mul2_c hO31.rd hN32 hLan hLbn (by omega)) ?_
          rintro _ w34 ⟨A35, m36, c37, rfl, hGw34, hl, hlm⟩
          have hap_hl_g11 := ap_new hl (hVg11.bl_ge _ rfl).2
          have hap_hl_g13 := ap_new hl (hVg13.bl_ge _ rfl).2
          have hap_hl_g15 := ap_new hl (hVg15.bl_ge _ rfl).2
          have hl := hl.low (b' := w.heap.size) hB.size
          have hB := ext_trans hB hGw34
          have hl_l := hl.rd.ulen
          exact WL.done ⟨_, rfl, hGw34, ⟨A35, m36, c37, rfl, hl, hlm, hap_hl_g11, hap_hl_g13, hap_hl_g15⟩⟩
        · intro w38 hE
          intro R
          refine WL.fieldA (off := 2) Try.fla25_2 rfl rfl ?_
          exact WL.done ⟨_, rfl, rfl, rfl⟩
        · intro w39 hE
          have hE := hE rfl
          have hB := ext_trans hB hE
          have hVg11 := hVg11.ext hE
          rintro _ rfl
          intro R
          refine WL.load Try.underlying23 rfl rfl (hVg11.vcells 2 _ rfl) rfl ?_
          exact WL.done ⟨_, rfl, ext_refl _, rfl⟩
        · intro w40 hE
          intro R
          refine WL.fieldA (off := 2) Try.fla25_2 rfl rfl ?_
          exact WL.done ⟨_, rfl, rfl, rfl⟩
        · intro w41 hE
          have hE := hE rfl
          have hB := ext_trans hB hE
          have hVg13 := hVg13.ext hE
          rintro _ rfl
          intro R
          refine WL.load Try.underlying23 rfl rfl (hVg13.vcells 2 _ rfl) rfl ?_
          exact WL.done ⟨_, rfl, ext_refl _, rfl⟩
        · intro w42 hE
          have hE := hE rfl
          have hB := ext_trans hB hE
          have had := had0.ext hB
          have hbd := hbd0.ext hB
          have hVg11 := hVg11.ext hE
          have hVg13 := hVg13.ext hE
          have hVg15 := hVg15.ext hE
          rintro _ rfl
          rintro _ rfl
          intro R
          refine WL.lit1 (b := w42.heap.size) Try.underlying63 Try.el23 rfl rfl rfl rfl (by intro v hv; simp only [List.mem_cons, List.not_mem_nil, or_false] at hv; rcases hv with rfl | rfl <;> rfl) (Nat.le_refl _) rfl ?_
          rintro A43 w44 - hO45 hGw44
          have hap_hO45_g11 := ap_new hO45 (hVg11.bl_ge _ rfl).2
          have hap_hO45_g13 := ap_new hO45 (hVg13.bl_ge _ rfl).2
          have hap_hO45_g15 := ap_new hO45 (hVg15.bl_ge _ rfl).2
          have hO45 := hO45.low (b' := w.heap.size) hB.size
          have hB := ext_trans hB hGw44
          have had := had0.ext hB
          have hbd := hbd0.ext hB
          have hN46 : NatsR w44.heap.size w44 [.slice Aad mad cad, .slice Abd mbd cbd] [xad, xbd] := (NatsR.cons had.norm (NatsR.cons hbd.norm (NatsR.nil _ _)))
          exact WL.done ⟨_, rfl, hGw44, ⟨A43, rfl, hO45, hN46, hap_hO45_g11, hap_hO45_g13, hap_hO45_g15⟩⟩
        · intro w47 hE
          have hE := hE rfl
          have hB := ext_trans hB hE
          have hVg11 := hVg11.ext hE
          have hVg13 := hVg13.ext hE
          have hVg15 := hVg15.ext hE
          rintro _ ⟨A43, rfl, hO45, hN46, hap_hO45_g11, hap_hO45_g13, hap_hO45_g15⟩
          intro R
          refine WL.call Try.func36 rfl Try.nm36 rfl rfl (Mul2_c hO45.rd hN46 hLad hLbd (by omega)) ?_
          rintro _ w48 ⟨A49, m50, c51, rfl, hGw48, hd, hdm⟩
          have hap_hd_g11 := ap_new hd (hVg11.bl_ge _ rfl).2
          have hap_hd_g13 := ap_new hd (hVg13.bl_ge _ rfl).2
          have hap_hd_g15 := ap_new hd (hVg15.bl_ge _ rfl).2
          have hd := hd.low (b' := w.heap.size) hB.size
          have hB := ext_trans hB hGw48
          have hd_l := hd.rd.ulen
          exact WL.done ⟨_, rfl, hGw48, ⟨A49, m50, c51, rfl, hd, hdm, hap_hd_g11, hap_hd_g13, hap_hd_g15⟩⟩
      · intro vals w52 hT hVs
        have hB := ext_trans hB hT
        have hVg15 := hVg15.ext hT
        have hv0 : vals 0 = _ := hVs 0 (by decide)
        have hv1 : vals 1 = _ := hVs 1 (by decide)
        have hv2 : vals 2 = _ := hVs 2 (by decide)
        have hv3 : vals 3 = _ := hVs 3 (by decide)
        have hv4 : vals 4 = _ := hVs 4 (by decide)
        have hv5 : vals 5 = _ := hVs 5 (by decide)
        have hv6 : vals 6 = _ := hVs 6 (by decide)
        have hv7 : vals 7 = _ := hVs 7 (by decide)
        have hv8 : vals 8 = _ := hVs 8 (by decide)
        obtain ⟨A29, hv9, hO31, hN32, hap_hO31_g11, hap_hO31_g13, hap_hO31_g15⟩ := hVs 9 (by decide)
        obtain ⟨A35, m36, c37, hv10, hl, hlm, hap_hl_g11, hap_hl_g13, hap_hl_g15⟩ := hVs 10 (by decide)
        have hv11 : vals 11 = _ := hVs 11 (by decide)
        have hv12 : vals 12 = _ := hVs 12 (by decide)
        have hv13 : vals 13 = _ := hVs 13 (by decide)
        have hv14 : vals 14 = _ := hVs 14 (by decide)
        obtain ⟨A43, hv15, hO45, hN46, hap_hO45_g11, hap_hO45_g13, hap_hO45_g15⟩ := hVs 15 (by decide)
        obtain ⟨A49, m50, c51, hv16, hd, hdm, hap_hd_g11, hap_hd_g13, hap_hd_g15⟩ := hVs 16 (by decide)
        rw [show (List.filterMap (fun i => Option.map (fun t => (t, vals i)) (dstAt _ i)) (List.range _)) = [(12, .pointer (some ((⟨g11, 0, none⟩ : Addr).add 0))), (13, .bool na), (14, .pointer (some ((⟨g13, 0, none⟩ : Addr).add 0))), (15, .bool nb), (16, .bool (na != nb)), (17, .pointer (some ((⟨g11, 0, none⟩ : Addr).add 1))), (18, .slice Aan man can), (19, .pointer (some ((⟨g13, 0, none⟩ : Addr).add 1))), (20, .slice Abn mbn cbn), (21, .slice A29 2 2), (22, .slice A35 m36 c37), (23, .pointer (some ((⟨g11, 0, none⟩ : Addr).add 2))), (24, .slice Aad mad cad), (25, .pointer (some ((⟨g13, 0, none⟩ : Addr).add 2))), (26, .slice Abd mbd cbd), (27, .slice A43 2 2), (28, .slice A49 m50 c51)] from by
          show [(12, vals 0), (13, vals 1), (14, vals 2), (15, vals 3), (16, vals 4), (17, vals 5), (18, vals 6), (19, vals 7), (20, vals 8), (21, vals 9), (22, vals 10), (23, vals 11), (24, vals 12), (25, vals 13), (26, vals 14), (27, vals 15), (28, vals 16)] = _
          rw [hv0, hv1, hv2, hv3, hv4, hv5, hv6, hv7, hv8, hv9, hv10, hv11, hv12, hv13, hv14, hv15, hv16]]
        refine WA.step [17] (by decide +kernel) rfl ?_
        intro iQ hQ
        simp only [List.mem_cons, List.not_mem_nil, or_false] at hQ
        obtain rfl := hQ
        · refine ⟨_, rfl, ?_⟩
          refine WL.call Try.func39 rfl Try.nm39 rfl rfl (red_c hl.rd hd.rd (digs_lim _) (digs_lim _) (by rw [nv_digs]; exact Nat.mul_ne_zero za.1 zb.1) (by rw [nv_digs]; exact Nat.mul_ne_zero za.2 zb.2) (by omega) (by omega)) ?_
          rintro _ w53 ⟨A54, m55, c56, A57, m58, c59, rfl, hGw53, hrn, hrd, hrm⟩
          have hap_hrn_g15 := ap_new hrn (hVg15.bl_ge _ rfl).2
          have hap_hrd_g15 := ap_new hrd (hVg15.bl_ge _ rfl).2
          have hrn := hrn.low (b' := w.heap.size) hB.size
          have hrd := hrd.low (b' := w.heap.size) hB.size
          have hB := ext_trans hB hGw53
          have hVg15 := hVg15.ext hGw53
          have hrn_l := hrn.rd.ulen
          have hrd_l := hrd.rd.ulen
          refine WL.done ?_
          refine WA.step [18] (by decide +kernel) rfl ?_
          intro iQ hQ
          simp only [List.mem_cons, List.not_mem_nil, or_false] at hQ
          obtain rfl := hQ
          · refine ⟨_, rfl, ?_⟩
            refine WL.storeV Try.el25 rfl rfl rfl rfl hVg15 ?_
            have hOld61 := hVg15
            intro w60 hVg15 hGw60
            change Own _ _ _ _ _ _ _ [.bool (qneg (val (na != nb) (nv (digs (nv xan * nv xbn))) (nv (digs (nv xad * nv xbd))))), .slice A54 m55 c56, .slice A57 m58 c59] at hVg15
            have hB := ext_own hB hGw60 (fun g hg => (hOld61.bl_ge g hg).1)
            have hrn := hrn.grown hGw60 (ap_row hap_hrn_g15)
            have hrd := hrd.grown hGw60 (ap_row hap_hrd_g15)
            refine WL.done ?_
            refine WA.done (by decide +kernel) ?_
            refine W.ret ?_
            refine ⟨[.agg #[.bool (qneg (val (na != nb) (nv (digs (nv xan * nv xbn))) (nv (digs (nv xad * nv xbd))))), .slice A54 m55 c56, .slice A57 m58 c59]], ⟨_, _, _, rfl, rfl, run_loadV (cs := [.bool (qneg (val (na != nb) (nv (digs (nv xan * nv xbn))) (nv (digs (nv xad * nv xbd))))), .slice A54 m55 c56, .slice A57 m58 c59]) Try.el25 Try.agg25 rfl hVg15.vcells, rfl⟩, ?_⟩
            have e9 : qa * qb = val (na != nb) (nv (digs (nv xan * nv xbn))) (nv (digs (nv xad * nv xbd))) := by
              rw [← hqa, ← hqb]; simp only [nv_digs]; exact val_mul ..
            rw [e9]
            exact ⟨_, _, _, _, _, _, rfl, hB, hrn, hrd, by omega⟩
    · have zb := zb_t rfl
      refine WL.pick rfl rfl rfl ?_
      refine WL.done ?_
      refine W.condT rfl ?_
      refine W.seq ?_
      refine W.region ?_
      refine WL.call Try.func22 rfl Try.nm22 rfl rfl (zero_c) ?_
      rintro _ w62 ⟨A63, m64, c65, A66, m67, c68, rfl, hGw62, hrn, hrd, hrm⟩
      have hap_hrn_g15 := ap_new hrn (hVg15.bl_ge _ rfl).2
      have hap_hrd_g15 := ap_new hrd (hVg15.bl_ge _ rfl).2
      have hrn := hrn.low (b' := w.heap.size) hB.size
      have hrd := hrd.low (b' := w.heap.size) hB.size
      have hB := ext_trans hB hGw62
      have hVg15 := hVg15.ext hGw62
      have hrn_l := hrn.rd.ulen
      have hrd_l := hrd.rd.ulen
      refine WL.storeV Try.el25 rfl rfl rfl rfl hVg15 ?_
      have hOld70 := hVg15
      intro w69 hVg15 hGw69
      change Own _ _ _ _ _ _ _ [.bool (qneg ((0 : Rat))), .slice A63 m64 c65, .slice A66 m67 c68] at hVg15
      have hB := ext_own hB hGw69 (fun g hg => (hOld70.bl_ge g hg).1)
      have hrn := hrn.grown hGw69 (ap_row hap_hrn_g15)
      have hrd := hrd.grown hGw69 (ap_row hap_hrd_g15)
      refine WL.done ?_
      refine W.ret ?_
      refine ⟨[.agg #[.bool (qneg ((0 : Rat))), .slice A63 m64 c65, .slice A66 m67 c68]], ⟨_, _, _, rfl, rfl, run_loadV (cs := [.bool (qneg ((0 : Rat))), .slice A63 m64 c65, .slice A66 m67 c68]) Try.el25 Try.agg25 rfl hVg15.vcells, rfl⟩, ?_⟩
      rw [zb, Rat.mul_zero]
      exact ⟨_, _, _, _, _, _, rfl, hB, hrn, hrd, by omega⟩
  · have za := za_t rfl
    refine WL.move rfl rfl ?_
    refine WL.pass rfl rfl rfl ?_
    refine WL.pass rfl rfl rfl ?_
    refine WL.pick rfl rfl rfl ?_
    refine WL.done ?_
    refine W.condT rfl ?_
    refine W.seq ?_
    refine W.region ?_
    refine WL.call Try.func22 rfl Try.nm22 rfl rfl (zero_c) ?_
    rintro _ w71 ⟨A72, m73, c74, A75, m76, c77, rfl, hGw71, hrn, hrd, hrm⟩
    have hap_hrn_g15 := ap_new hrn (hVg15.bl_ge _ rfl).2
    have hap_hrd_g15 := ap_new hrd (hVg15.bl_ge _ rfl).2
    have hrn := hrn.low (b' := w.heap.size) hB.size
    have hrd := hrd.low (b' := w.heap.size) hB.size
    have hB := ext_trans hB hGw71
    have hVg15 := hVg15.ext hGw71
    have hrn_l := hrn.rd.ulen
    have hrd_l := hrd.rd.ulen
    refine WL.storeV Try.el25 rfl rfl rfl rfl hVg15 ?_
    have hOld79 := hVg15
    intro w78 hVg15 hGw78
    change Own _ _ _ _ _ _ _ [.bool (qneg ((0 : Rat))), .slice A72 m73 c74, .slice A75 m76 c77] at hVg15
    have hB := ext_own hB hGw78 (fun g hg => (hOld79.bl_ge g hg).1)
    have hrn := hrn.grown hGw78 (ap_row hap_hrn_g15)
    have hrd := hrd.grown hGw78 (ap_row hap_hrd_g15)
    refine WL.done ?_
    refine W.ret ?_
    refine ⟨[.agg #[.bool (qneg ((0 : Rat))), .slice A72 m73 c74, .slice A75 m76 c77]], ⟨_, _, _, rfl, rfl, run_loadV (cs := [.bool (qneg ((0 : Rat))), .slice A72 m73 c74, .slice A75 m76 c77]) Try.el25 Try.agg25 rfl hVg15.vcells, rfl⟩, ?_⟩
    rw [za, Rat.zero_mul]
    exact ⟨_, _, _, _, _, _, rfl, hB, hrn, hrd, by omega⟩
end Go.Proofs.Ythfpcebcfjlkmac
namespace Go.Proofs.Ythfpcebcfjlkmac
open Go.RowKit
/-- Rows of two types are apart. -/
theorem ap_type {b b' : Nat} {w : World} {e e' z z' m c m' c' g : Nat} {A : Option Addr} {cs cs' : List Value} (h : Own b w e z A m c cs) (hV : Own b' w e' z' (some ⟨g, 0, none⟩) m' c' cs') (hne : e ≠ e') : ∀ k, bl A = some k → k ≠ g := by
  intro k hk hkg
  subst hkg
  rcases h.2 with ⟨h1, _⟩ | ⟨g1, cap, cur, h1, h2, h3, _⟩
  · cases h1; cases hk
  · cases h1
    rcases hV.2 with ⟨k1, _⟩ | ⟨g2, cap2, cur2, k1, k2, k3, _⟩
    · cases k1
    · cases k1
      cases hk
      rw [h3] at k3
      cases k3
      exact hne rfl
end Go.Proofs.Ythfpcebcfjlkmac
set_option linter.unusedSimpArgs false
set_option linter.unusedVariables false
namespace Go.Proofs.Ythfpcebcfjlkmac
open Go.RowKit
/-! ### rows of fractions: three cells each -/
abbrev Fr3 := Bool × List Nat × List Nat
def fr0 : Fr3 := (false, [], [])
def qv (r : Fr3) : Rat := val r.1 (nv r.2.1) (nv r.2.2)
def natAt (B : Nat) (w : World) (cells : List Value) (k : Nat) (xs : List Nat) : Prop :=
  cells.getD k undef = .slice (sA (cells.getD k undef)) (sM (cells.getD k undef)) (sC (cells.getD k undef)) ∧ Rd B w 1 (sA (cells.getD k undef)) (sM (cells.getD k undef)) (sC (cells.getD k undef)) (us xs)
structure RatsR (B : Nat) (w : World) (cells : List Value) (rs : List Fr3) : Prop where
  len : cells.length = rs.length * 3
  all : ∀ j, j < rs.length → cells.getD (j * 3) undef = .bool (rs.getD j fr0).1 ∧ natAt B w cells (j * 3 + 1) (rs.getD j fr0).2.1 ∧ natAt B w cells (j * 3 + 2) (rs.getD j fr0).2.2
def RLim (rs : List Fr3) : Prop := ∀ j, j < rs.length → Lim (rs.getD j fr0).2.1 ∧ Lim (rs.getD j fr0).2.2
def RLen (K : Nat) (rs : List Fr3) : Prop := ∀ j, j < rs.length → (rs.getD j fr0).2.1.length ≤ K ∧ (rs.getD j fr0).2.2.length ≤ K
theorem getD_some {cells : List Value} {k : Nat} (h : k < cells.length) : cells[k]? = some (cells.getD k undef) := by simp [List.getD_eq_getElem?_getD, h]
section
variable {B : Nat} {w w' : World} {cells : List Value} {rs : List Fr3}
theorem natAt.ext {k : Nat} {xs : List Nat} (h : natAt B w cells k xs) (hg : w.grownBy w' none) : natAt B w' cells k xs := ⟨h.1, h.2.ext hg⟩
theorem natAt.below {k : Nat} {xs : List Nat} (h : natAt B w cells k xs) (hg : Below B w w') : natAt B w' cells k xs := ⟨h.1, h.2.below hg⟩
theorem natAt.norm {k : Nat} {xs : List Nat} (h : natAt B w cells k xs) : natAt w.heap.size w cells k xs := ⟨h.1, h.2.norm⟩
theorem natAt.of {cells' : List Value} {k k' : Nat} {xs : List Nat} (h : natAt B w cells k xs) (e : cells'.getD k' undef = cells.getD k undef) : natAt B w cells' k' xs := by
  unfold natAt at *; rw [e]; exact h
theorem RatsR.ext (h : RatsR B w cells rs) (hg : w.grownBy w' none) : RatsR B w' cells rs := ⟨h.len, fun j hj => ⟨(h.all j hj).1, (h.all j hj).2.1.ext hg, (h.all j hj).2.2.ext hg⟩⟩
theorem RatsR.below (h : RatsR B w cells rs) (hg : Below B w w') : RatsR B w' cells rs := ⟨h.len, fun j hj => ⟨(h.all j hj).1, (h.all j hj).2.1.below hg, (h.all j hj).2.2.below hg⟩⟩
theorem RatsR.norm (h : RatsR B w cells rs) : RatsR w.heap.size w cells rs := ⟨h.len, fun j hj => ⟨(h.all j hj).1, (h.all j hj).2.1.norm, (h.all j hj).2.2.norm⟩⟩
theorem RatsR.rd1 (h : RatsR B w cells rs) (j : Nat) (hj : j < rs.length) : Rd B w 1 (sA (cells.getD (j * 3 + 1) undef)) (sM (cells.getD (j * 3 + 1) undef)) (sC (cells.getD (j * 3 + 1) undef)) (us (rs.getD j fr0).2.1) := (h.all j hj).2.1.2
theorem RatsR.rd2 (h : RatsR B w cells rs) (j : Nat) (hj : j < rs.length) : Rd B w 1 (sA (cells.getD (j * 3 + 2) undef)) (sM (cells.getD (j * 3 + 2) undef)) (sC (cells.getD (j * 3 + 2) undef)) (us (rs.getD j fr0).2.2) := (h.all j hj).2.2.2
theorem RatsR.c0 (h : RatsR B w cells rs) (j : Nat) (hj : j < rs.length) : cells[j * 3]? = some (.bool (rs.getD j fr0).1) := by
  rw [getD_some (by rw [h.len]; omega), (h.all j hj).1]
theorem RatsR.c1 (h : RatsR B w cells rs) (j : Nat) (hj : j < rs.length) : cells[j * 3 + 1]? = some (.slice (sA (cells.getD (j * 3 + 1) undef)) (sM (cells.getD (j * 3 + 1) undef)) (sC (cells.getD (j * 3 + 1) undef))) := by
  rw [getD_some (by rw [h.len]; omega), ← (h.all j hj).2.1.1]
theorem RatsR.c2 (h : RatsR B w cells rs) (j : Nat) (hj : j < rs.length) : cells[j * 3 + 2]? = some (.slice (sA (cells.getD (j * 3 + 2) undef)) (sM (cells.getD (j * 3 + 2) undef)) (sC (cells.getD (j * 3 + 2) undef))) := by
  rw [getD_some (by rw [h.len]; omega), ← (h.all j hj).2.2.1]
theorem RatsR.load {B2 : Nat} {A : Option Addr} {m c : Nat} (h : RatsR B w cells rs) (hR : Rd B2 w 3 A m c cells) (j : Nat) (hj : j < rs.length) :
    ∀ i u, [Value.bool (rs.getD j fr0).1, .slice (sA (cells.getD (j * 3 + 1) undef)) (sM (cells.getD (j * 3 + 1) undef)) (sC (cells.getD (j * 3 + 1) undef)), .slice (sA (cells.getD (j * 3 + 2) undef)) (sM (cells.getD (j * 3 + 2) undef)) (sC (cells.getD (j * 3 + 2) undef))][i]? = some u →
      w.cell? (((adOf A).add (j * 3)).add i) = some u := by
  intro i u hu
  rw [add_add]
  match i, hu with
  | 0, hu => cases hu; exact hR.at_ (h.c0 j hj)
  | 1, hu => cases hu; exact hR.at_ (h.c1 j hj)
  | 2, hu => cases hu; exact hR.at_ (h.c2 j hj)
  | i + 3, hu => simp at hu
theorem RatsR.nil (B : Nat) (w : World) : RatsR B w [] [] := ⟨rfl, fun j h => by cases h⟩
theorem RatsR.cons {n : Bool} {A A' : Option Addr} {m c m' c' : Nat} {x y : List Nat} (h1 : Rd B w 1 A m c (us x)) (h2 : Rd B w 1 A' m' c' (us y)) (hs : RatsR B w cells rs) : RatsR B w (.bool n :: .slice A m c :: .slice A' m' c' :: cells) ((n, x, y) :: rs) := by
  refine ⟨by simp [hs.len]; omega, fun j hj => ?_⟩
  cases j with
  | zero => exact ⟨rfl, ⟨rfl, h1⟩, ⟨rfl, h2⟩⟩
  | succ j =>
    obtain ⟨e1, e2, e3⟩ := hs.all j (by simpa using hj)
    refine ⟨?_, e2.of ?_, e3.of ?_⟩
    · rw [show (j + 1) * 3 = j * 3 + 1 + 1 + 1 by omega]; simpa using e1
    · rw [show (j + 1) * 3 + 1 = (j * 3 + 1) + 1 + 1 + 1 by omega]; simp
    · rw [show (j + 1) * 3 + 2 = (j * 3 + 2) + 1 + 1 + 1 by omega]; simp
theorem RatsR.drop (h : RatsR B w cells rs) (k : Nat) : RatsR B w (cells.drop (k * 3)) (rs.drop k) := by
  refine ⟨by simp [h.len]; omega, fun j hj => ?_⟩
  have hj' : k + j < rs.length := by simp at hj; omega
  have e (i : Nat) : (cells.drop (k * 3)).getD (j * 3 + i) undef = cells.getD ((k + j) * 3 + i) undef := by
    simp only [List.getD_eq_getElem?_getD, List.getElem?_drop]; congr 2; omega
  have e2 : (rs.drop k).getD j fr0 = rs.getD (k + j) fr0 := by simp [List.getD_eq_getElem?_getD]
  obtain ⟨h1, h2, h3⟩ := h.all _ hj'
  rw [e2]
  exact ⟨(e 0).trans h1, h2.of (e 1), h3.of (e 2)⟩
theorem RatsR.append {c2 : List Value} {r2 : List Fr3} (h : RatsR B w cells rs) (h' : RatsR B w c2 r2) : RatsR B w (cells ++ c2) (rs ++ r2) := by
  have hl := h.len
  refine ⟨by simp [h.len, h'.len]; omega, fun j hj => ?_⟩
  rcases Nat.lt_or_ge j rs.length with hc | hc
  · have e (i : Nat) (hi : i < 3) : (cells ++ c2).getD (j * 3 + i) undef = cells.getD (j * 3 + i) undef := by simp only [List.getD_eq_getElem?_getD]; rw [List.getElem?_append_left (by omega)]
    have e2 : (rs ++ r2).getD j fr0 = rs.getD j fr0 := by simp only [List.getD_eq_getElem?_getD]; rw [List.getElem?_append_left hc]
    obtain ⟨h1, h2, h3⟩ := h.all j hc
    rw [e2]
    exact ⟨(e 0 (by omega)).trans h1, h2.of (e 1 (by omega)), h3.of (e 2 (by omega))⟩
  · have e (i : Nat) : (cells ++ c2).getD (j * 3 + i) undef = c2.getD ((j - rs.length) * 3 + i) undef := by simp only [List.getD_eq_getElem?_getD]; rw [List.getElem?_append_right (by omega)]; congr 2; omega
    have e2 : (rs ++ r2).getD j fr0 = r2.getD (j - rs.length) fr0 := by simp only [List.getD_eq_getElem?_getD]; rw [List.getElem?_append_right hc]
    obtain ⟨h1, h2, h3⟩ := h'.all (j - rs.length) (by simp at hj; omega)
    rw [e2]
    exact ⟨(e 0).trans h1, h2.of (e 1), h3.of (e 2)⟩
theorem RatsR.one (h : RatsR B w cells rs) : ∀ u ∈ cells, u.oneCell' = true := fun u hu => by
  obtain ⟨k, hk, rfl⟩ := List.getElem_of_mem hu
  have hl := h.len
  have h1 : cells.getD k undef = cells[k] := by simp [List.getD_eq_getElem?_getD, hk]
  obtain ⟨e0, e1, e2⟩ := h.all (k / 3) (by omega)
  rw [← h1]
  have h3 : k = k / 3 * 3 ∨ k = k / 3 * 3 + 1 ∨ k = k / 3 * 3 + 2 := by omega
  rcases h3 with h3 | h3 | h3
  · rw [h3, e0]; rfl
  · rw [h3, e1.1]; rfl
  · rw [h3, e2.1]; rfl
end
theorem RLim.nil : RLim [] := fun _ h => by cases h
theorem RLim.cons {n : Bool} {x y : List Nat} {rs : List Fr3} (hx : Lim x) (hy : Lim y) (h : RLim rs) : RLim ((n, x, y) :: rs) := fun j hj => by
  cases j with
  | zero => exact ⟨hx, hy⟩
  | succ j => simpa using h j (by simpa using hj)
theorem RLen.nil (K : Nat) : RLen K [] := fun _ h => by cases h
theorem RLen.cons {K : Nat} {n : Bool} {x y : List Nat} {rs : List Fr3} (hx : x.length ≤ K) (hy : y.length ≤ K) (h : RLen K rs) : RLen K ((n, x, y) :: rs) := fun j hj => by
  cases j with
  | zero => exact ⟨hx, hy⟩
  | succ j => simpa using h j (by simpa using hj)
theorem getD_fr {p : Fr3 → Prop} {a b : List Fr3} (ha : ∀ i, i < a.length → p (a.getD i fr0)) (hb : ∀ i, i < b.length → p (b.getD i fr0)) (i : Nat) (hi : i < (a ++ b).length) : p ((a ++ b).getD i fr0) := by
  rcases Nat.lt_or_ge i a.length with hc | hc
  · have e : (a ++ b).getD i fr0 = a.getD i fr0 := by simp only [List.getD_eq_getElem?_getD]; rw [List.getElem?_append_left hc]
    rw [e]; exact ha i hc
  · have e : (a ++ b).getD i fr0 = b.getD (i - a.length) fr0 := by simp only [List.getD_eq_getElem?_getD]; rw [List.getElem?_append_right hc]
    rw [e]; exact hb _ (by simp at hi; omega)
theorem RLim.append {a b : List Fr3} (ha : RLim a) (hb : RLim b) : RLim (a ++ b) := getD_fr (p := fun r => Lim r.2.1 ∧ Lim r.2.2) ha hb
theorem RLen.append {K : Nat} {a b : List Fr3} (ha : RLen K a) (hb : RLen K b) : RLen K (a ++ b) := getD_fr (p := fun r => r.2.1.length ≤ K ∧ r.2.2.length ≤ K) ha hb
theorem getD_frdrop {rs : List Fr3} {k j : Nat} : (rs.drop k).getD j fr0 = rs.getD (k + j) fr0 := by simp [List.getD_eq_getElem?_getD]
theorem RLim.drop {rs : List Fr3} (h : RLim rs) (k : Nat) : RLim (rs.drop k) := fun j hj => by rw [getD_frdrop]; exact h _ (by simp at hj; omega)
theorem RLen.drop {K : Nat} {rs : List Fr3} (h : RLen K rs) (k : Nat) : RLen K (rs.drop k) := fun j hj => by rw [getD_frdrop]; exact h _ (by simp at hj; omega)
/-! ### sums and products of a list -/
def qsum : List Fr3 → Rat | [] => 0 | r :: l => qv r + qsum l
def qprod : List Fr3 → Rat | [] => 1 | r :: l => qv r * qprod l
theorem qsum_append (a b : List Fr3) : qsum (a ++ b) = qsum a + qsum b := by
  induction a with
  | nil => exact (Rat.zero_add _).symm
  | cons r l ih => simp only [List.cons_append, qsum, ih, Rat.add_assoc]
theorem qprod_append (a b : List Fr3) : qprod (a ++ b) = qprod a * qprod b := by
  induction a with
  | nil => exact (Rat.one_mul _).symm
  | cons r l ih => simp only [List.cons_append, qprod, ih, Rat.mul_assoc]
theorem take_fr {rs : List Fr3} {j : Nat} (h : j < rs.length) : rs.take (j + 1) = rs.take j ++ [rs.getD j fr0] := by
  rw [List.take_succ_eq_append_getElem h]; simp [List.getD_eq_getElem?_getD, h]
theorem qsum_take {rs : List Fr3} {j : Nat} (h : j < rs.length) : qsum (rs.take (j + 1)) = qsum (rs.take j) + qv (rs.getD j fr0) := by
  rw [take_fr h, qsum_append]; simp only [qsum, Rat.add_zero]
theorem qprod_take {rs : List Fr3} {j : Nat} (h : j < rs.length) : qprod (rs.take (j + 1)) = qprod (rs.take j) * qv (rs.getD j fr0) := by
  rw [take_fr h, qprod_append]; simp only [qprod, Rat.mul_one]
theorem two_fr {rs : List Fr3} (h : 2 ≤ rs.length) : rs = rs.getD 0 fr0 :: rs.getD 1 fr0 :: rs.drop 2 := by
  match rs, h with
  | a :: b :: l, _ => rfl
theorem one_fr {rs : List Fr3} (h : rs.length = 1) : rs = [rs.getD 0 fr0] := by
  match rs, h with
  | [a], _ => rfl
theorem qsum_two {rs : List Fr3} (h : 2 ≤ rs.length) : qsum rs = qv (rs.getD 0 fr0) + qv (rs.getD 1 fr0) + qsum (rs.drop 2) := by
  conv => lhs; rw [two_fr h]
  simp only [qsum, Rat.add_assoc]
theorem qprod_two {rs : List Fr3} (h : 2 ≤ rs.length) : qprod rs = qv (rs.getD 0 fr0) * qv (rs.getD 1 fr0) * qprod (rs.drop 2) := by
  conv => lhs; rw [two_fr h]
  simp only [qprod, Rat.mul_assoc]
theorem qsum_one {rs : List Fr3} (h : rs.length = 1) : qsum rs = qv (rs.getD 0 fr0) := by
  conv => lhs; rw [one_fr h]
  simp only [qsum, Rat.add_zero]
theorem qprod_one {rs : List Fr3} (h : rs.length = 1) : qprod rs = qv (rs.getD 0 fr0) := by
  conv => lhs; rw [one_fr h]
  simp only [qprod, Rat.mul_one]
/-! ### signs and orders -/
theorem sg_sign (q : Rat) : sg q = Int.sign q.num := by
  unfold sg
  rcases Int.lt_trichotomy q.num 0 with h | h | h
  · rw [if_pos h, Int.sign_eq_neg_one_of_neg h]
  · rw [h]; rfl
  · rw [if_neg (by omega), if_neg (by omega), Int.sign_eq_one_of_pos h]
theorem sg_mk (z : Int) {d : Nat} (hd : d ≠ 0) : sg (mkRat z d) = Int.sign z := by
  rw [sg_sign, Rat.num_mkRat, if_neg hd]
  have hg : 0 < d.gcd z.natAbs := Nat.gcd_pos_of_pos_left _ (by omega)
  have h1 : ((d.gcd z.natAbs : Nat) : Int) ∣ z := Int.ofNat_dvd_left.2 (Nat.gcd_dvd_right _ _)
  obtain ⟨k, hk⟩ := h1
  generalize (d.gcd z.natAbs) = g at *
  have h2 : z / (g : Int) = k := by rw [hk, Int.mul_ediv_cancel_left _ (by omega)]
  have h3 : (0 : Int) < (g : Int) := by omega
  have h4 : z.sign = k.sign := by rw [hk, Int.sign_mul, Int.sign_eq_one_of_pos h3, Int.one_mul]
  rw [h2, h4]
theorem sg_sub (a b : Rat) : sg (a - b) = Int.sign (a.num * b.den - b.num * a.den) := by
  rw [Rat.sub_def', sg_mk _ (Nat.mul_ne_zero a.den_nz b.den_nz)]
theorem sg_add (a b : Rat) : sg (a + b) = Int.sign (a.num * b.den + b.num * a.den) := by
  rw [Rat.add_def', sg_mk _ (Nat.mul_ne_zero a.den_nz b.den_nz)]
theorem sg_mul (a b : Rat) : sg (a * b) = sg a * sg b := by
  rw [Rat.mul_def', sg_mk _ (Nat.mul_ne_zero a.den_nz b.den_nz), Int.sign_mul, sg_sign, sg_sign]
theorem sg_negq (a : Rat) : sg (-a) = -sg a := by
  rw [sg_sign, sg_sign, Rat.neg_num, Int.sign_neg]
theorem sg_subc (a b : Rat) : sg (b - a) = -sg (a - b) := by rw [← sg_negq]; congr 1; grind
theorem sg_le {q : Rat} : sg q ≤ 0 ↔ q.num ≤ 0 := by
  unfold sg; split
  · omega
  · split <;> omega
theorem sg_add_le {a b : Rat} (ha : sg a ≤ 0) (hb : sg b ≤ 0) : sg (a + b) ≤ 0 := by
  rw [sg_le] at ha hb
  rw [sg_add]
  have h1 : (0:Int) ≤ b.den := by omega
  have h2 : (0:Int) ≤ a.den := by omega
  have e1 := Int.mul_le_mul_of_nonneg_right ha h1
  have e2 := Int.mul_le_mul_of_nonneg_right hb h2
  rw [Int.zero_mul] at e1 e2
  exact Int.sign_nonpos_iff.2 (by omega)
theorem sub_zero_iff {a b : Rat} : a - b = 0 ↔ a = b := by grind
theorem cmp_lt {a b : Rat} (h : sg a < sg b) : sg (a - b) = -1 := by
  rw [sg_sub]
  apply Int.sign_eq_neg_one_of_neg
  have h1 : (0:Int) < b.den := by have := den_pos b; omega
  have h2 : (0:Int) < a.den := by have := den_pos a; omega
  rw [sg_sign, sg_sign] at h
  rcases Int.lt_trichotomy a.num 0 with ha | ha | ha
  · have e1 := Int.mul_neg_of_neg_of_pos ha h1
    rcases Int.lt_or_le b.num 0 with hb | hb
    · rw [Int.sign_eq_neg_one_of_neg ha, Int.sign_eq_neg_one_of_neg hb] at h; omega
    · have := Int.mul_nonneg hb (Int.le_of_lt h2); omega
  · rcases Int.lt_trichotomy b.num 0 with hb | hb | hb
    · rw [ha, Int.sign_eq_neg_one_of_neg hb] at h; simp at h
    · rw [ha, hb] at h; simp at h
    · have := Int.mul_pos hb h2; rw [ha]; omega
  · rw [Int.sign_eq_one_of_pos ha] at h
    have := Int.sign_trichotomy b.num
    omega
theorem cmp_gt {a b : Rat} (h : sg b < sg a) : sg (a - b) = 1 := by
  rw [sg_subc, cmp_lt h]; rfl
theorem sg_range (q : Rat) : -1 ≤ sg q ∧ sg q ≤ 1 := by
  unfold sg; split
  · omega
  · split <;> omega
theorem sub_add_r (a b c : Rat) : (a + c) - (b + c) = a - b := by grind
theorem sub_mul_r (a b c : Rat) : (a * c) - (b * c) = (a - b) * c := by grind
theorem can_eq {p q : Rat} (h : p = q) : qneg p = qneg q ∧ digs (qnum p) = digs (qnum q) ∧ digs p.den = digs q.den := by subst h; exact ⟨rfl, rfl, rfl⟩
theorem can_inj {p q : Rat} (h : qneg p = qneg q ∧ digs (qnum p) = digs (qnum q) ∧ digs p.den = digs q.den) : p = q := by
  rw [← val_canon p, ← val_canon q, h.1, h.2.1, h.2.2]
theorem rdigs_len0 {n : Nat} : (digs n).length = 0 ↔ n = 0 := by
  constructor
  · intro h
    have := List.eq_nil_of_length_eq_zero h
    rw [← nv_digs n, this]; rfl
  · rintro rfl; exact Nat.le_zero.1 (digs_len (by decide))
/-- A bound of the lengths of a list's sums. -/
def fb (K j : Nat) : Nat := (2 + j) * (K + 1) + 1
theorem fb_succ (K j : Nat) : fb K (j + 1) = fb K j + (K + 1) := by
  unfold fb; rw [show 2 + (j + 1) = 2 + j + 1 by omega, Nat.succ_mul]; omega
theorem fb_zero (K : Nat) : fb K 0 = 2 * K + 3 := by unfold fb; omega
theorem fb_mono {K i j : Nat} (h : i ≤ j) : fb K i ≤ fb K j := by
  have := Nat.mul_le_mul_right (K + 1) (show 2 + i ≤ 2 + j by omega)
  unfold fb; omega
end Go.Proofs.Ythfpcebcfjlkmac
