/- Contracts of functions of the program, and what they lean on: Sm, Sn, Draw4, So, Sp, Draw5, Sq, Fx, Fy, Jo, Sd, Draw6, Mx, Mx2, Draw8, Draw7, Mx3, Facts, Ab, D1. -/
import Derived.Test.YtcmfjjbbcfddpaaWordAddsG1
import Derived.ArgAppend
import Derived.Laws.OwnMore
import Derived.Deep.Slices
import Derived.JoinedOf
import Derived.ProofKit
import Derived.Test.YtcmfjjbbcfddpaaProg
import Derived.Test.YtcmfjjbbcfddpaaChecked
set_option linter.unusedSimpArgs false
set_option linter.unusedVariables false
namespace Go.Proofs.Ytcmfjjbbcfddpaa
open Go.RowKit
theorem sm {A : Option Addr} {m m' c : Nat} (h : m = m') : some (Value.slice A m c) = some (.slice A m' c) := by rw [h]
theorem is_lt {B : Nat} {w : World} {A : Option Addr} {m c : Nat} {l : List Int} (h : Rd B w 1 A m c (is l)) {I : Int} (hI : 0 ≤ I ∧ I < (m : Nat)) : I.toNat < (is l).length := by rw [is_len, h.ilen]; omega
theorem bs_lt {B : Nat} {w : World} {A : Option Addr} {m c : Nat} {l : List Bool} (h : Rd B w 1 A m c (bs l)) {I : Int} (hI : 0 ≤ I ∧ I < (m : Nat)) : I.toNat < (bs l).length := by rw [bs_len, h.blen]; omega
theorem is_ap {B B' : Nat} {w w' : World} {A A' : Option Addr} {m c m' c' : Nat} {l l' : List Int} (h : Rd B w 1 A m c (is l)) (h' : Rd B' w' 1 A' m' c' (is l')) : m + m' = (l ++ l').length := by rw [List.length_append, h.ilen, h'.ilen]
theorem apm {m b : Nat} (h : ((m : Nat) : Int) * (b : Int) ≤ 140737488355328) (hb : 0 < b := by decide) : m ≤ maxLen ∧ m * b ≤ 140737488355328 := by
 have h2 : m * b ≤ 140737488355328 := by rw [← Int.natCast_mul] at h; exact Int.ofNat_le.1 h
 have h3 : m ≤ m * b := Nat.le_mul_of_pos_right _ hb; exact ⟨by simp only [maxLen]; omega, h2⟩
theorem apk {m m' b : Nat} (h : ((m : Nat) + (m' : Nat) : Int) * (b : Int) ≤ 140737488355328) (hb : 0 < b := by decide) : m + m' ≤ maxLen ∧ (m + m') * b ≤ 140737488355328 := by
 rw [← Int.natCast_add] at h; exact apm h hb
theorem Rd.isnone {B : Nat} {w : World} {A : Option Addr} {m c : Nat} {l : List Int} (h : Rd B w 1 A m c (is l)) (hA : A.isNone = true) : l = [] := by
 have h1 := h.ilen; rcases Nat.eq_zero_or_pos m with h0 | h0
 ·exact List.eq_nil_of_length_eq_zero (by omega)
 ·obtain ⟨ad, e, _⟩ := h.cells h0; rw [e] at hA; cases hA
theorem Rd.m64 {B : Nat} {w : World} {z : Nat} {A : Option Addr} {m c : Nat} {cs : List Value} (h : Rd B w z A m c cs) : m ≤ 9223372036854775807 := by
 have := h.cap; have h2 := h.max; simp only [maxLen] at h2; omega
theorem pre_len {B : Nat} {w : World} {A : Option Addr} {m c : Nat} {l : List Int} (h : Rd B w 1 A m c (is l)) {j : Int} (hj : 0 ≤ j ∧ j ≤ (m : Nat)) : j.toNat = (l.take j.toNat).length := by
 rw [List.length_take, h.ilen]; omega
theorem Rd.pre {B : Nat} {w : World} {A : Option Addr} {m c : Nat} {l : List Int} (h : Rd B w 1 A m c (is l)) {j : Int} (hj : 0 ≤ j ∧ j ≤ (m : Nat)) : Rd B w 1 A (l.take j.toNat).length c (is (l.take j.toNat)) := by
 have := h.take (k := j.toNat) (by omega); rw [Nat.mul_one, is_take] at this
 rwa [← pre_len h hj]
def ixor (x y : Int) : Int := ((x.toNat ^^^ y.toNat : Nat) : Int)
theorem run_ixor {P : Program} {w : World} {x y : Int} (h : 0 ≤ x ∧ x < 9223372036854775808 ∧ 0 ≤ y ∧ y < 9223372036854775808) : (Op.intBits .xor .i64 x y).run P w = .ok (.int .i64 (ixor x y)) w := by
 obtain ⟨h1, h2, h3, h4⟩ := h; obtain ⟨a, rfl⟩ := Int.eq_ofNat_of_zero_le h1; obtain ⟨b, rfl⟩ := Int.eq_ofNat_of_zero_le h3; have ha : a < 2 ^ 63 := by omega
 have hb : b < 2 ^ 63 := by omega
 have hab := Nat.xor_lt_two_pow ha hb; have e1 : (BitVec.ofInt 64 (a : Int) ^^^ BitVec.ofInt 64 (b : Int)).toNat = a ^^^ b := by
  rw [BitVec.ofInt_natCast, BitVec.ofInt_natCast, BitVec.toNat_xor, BitVec.toNat_ofNat, BitVec.toNat_ofNat, Nat.mod_eq_of_lt (by omega), Nat.mod_eq_of_lt (by omega)]
 have e2 : IntKind.i64.wrap ((a ^^^ b : Nat) : Int) = ((a ^^^ b : Nat) : Int) := wi64 (by omega) (by omega) rfl; show Result.ok (Value.int .i64 (IntKind.i64.wrap ((BitVec.ofInt 64 (a : Int) ^^^ BitVec.ofInt 64 (b : Int)).toNat : Int))) w = Result.ok (Value.int .i64 (((a : Int).toNat ^^^ (b : Int).toNat : Nat) : Int)) w; rw [e1, e2]; rfl
theorem vpart {B : Nat} {w : World} {z : Nat} {A : Option Addr} {m c : Nat} {cs vs : List Value} (h : Rd B w z A m c cs) (o : Nat) (hv : (cs.drop o).take vs.length = vs) : ∀ j u, vs[j]? = some u → w.cell? (((adOf A).add o).add j) = some u := by
 intro j u hu; rw [add_add]; refine h.at_ ?_; have hj : j < vs.length := (List.getElem?_eq_some_iff.1 hu).1; rw [← hv, List.getElem?_take, if_pos hj, List.getElem?_drop] at hu; exact hu
def Rw.isRo : Rw → Bool
  | .ro .. => true
  | _ => false
theorem News.of {b : Nat} {w : World} : ∀ {Q : List Rw}, Rows b none w Q → Q.all (fun r => !r.isRo) = true → News b Q
 | [], _, _ => trivial
 | q :: Q, h, hq => by
  simp only [List.all_cons, Bool.and_eq_true, Bool.not_eq_true'] at hq; refine ⟨fun g hg => ?_, News.of h.2.2 (by simpa using hq.2)⟩; cases q with
  | row e z A m c cs => exact (h.1.2 g hg).resolve_right (by simp)
  | ch lo hi Pr => have := h.1.2.1; have := hg.1; omega
  | ro z A m c cs => simp [Rw.isRo] at hq
  | mu D Pr => exact (h.1.2.1 g hg).2.resolve_right (by simp)
theorem calls_swap {P : Program} {f : FuncId} {args : Array Value} {w : World} {K : Value → List Rw → World → Prop} (h : Calls P f args w fun e w' => ∃ v, e = .returned v ∧ ∃ Q, K v Q w') :
 Calls P f args w fun e w' => ∃ v Q, e = .returned v ∧ K v Q w' := h.mono fun e w' ⟨v, h1, Q, h2⟩ => ⟨v, Q, h1, h2⟩
section
variable {X : World → Prop} {w0 w w' : World} {mr : Option Nat} {R : List Rw}
theorem St.nil {e z : Nat} (h : St X w0 mr w R) : St X w0 mr w (.row e z none 0 0 [] :: R) :=
 h.push (World.grownBy.refl w none) ⟨World.ownsRow_nil w 0 e z, fun g hg => by cases hg⟩ fun g hg => by cases hg
theorem St.rop {i z m c : Nat} {A : Option Addr} {cs : List Value} (h : St X w0 mr w R) (hi : R[i]? = some (.ro z A m c cs)) : Rd w.heap.size w z A m c cs := (h.rows.get hi).2
theorem List.set_getElem?_self {α : Type} : ∀ {R : List α} {i : Nat} {r : α}, R[i]? = some r → R.set i r = R
 | [], _, _, h => by simp at h
 | s :: R, 0, _, h => by cases h; rfl
 | s :: R, i + 1, _, h => by
  rw [List.set_cons_succ, List.set_getElem?_self (R := R) (by simpa using h)]
theorem Rows.setRo {b : Nat} : ∀ {R : List Rw} {i e z m c : Nat} {A : Option Addr} {cs : List Value}, Rows b mr w R → R[i]? = some (.row e z A m c cs) → 0 < z → Rows b mr w (R.set i (.ro z A m c cs))
 | r :: R, 0, e, z, m, c, A, cs, h, hi, hz => by
  cases hi; exact ⟨⟨hz, h.1.1.rd⟩, fun s hs hm g h1 h2 => h.2.1 s hs (by rfl) g h1.1 h2, h.2.2⟩
 | r :: R, i + 1, e, z, m, c, A, cs, h, hi, hz => by
  have hi' : R[i]? = some (.row e z A m c cs) := by simpa using hi
  refine ⟨h.1, fun s hs hm g h1 h2 => ?_, Rows.setRo (R := R) (i := i) h.2.2 hi' hz⟩; rcases List.mem_or_eq_of_mem_set hs with hs | rfl
  ·exact h.2.1 s hs hm g h1 h2
  ·exact h.2.1 _ (List.mem_of_getElem? hi') (by simp [Rw.mut]) g h1 h2.1
theorem St.relen {i e z m m' c : Nat} {A : Option Addr} {cs : List Value} (h : St X w0 mr w R) (hi : R[i]? = some (.row e z A m c cs)) (hm : m = m') : St X w0 mr w (R.set i (.row e z A m' c cs)) := by
 subst hm; rw [List.set_getElem?_self hi]; exact h
theorem St.freeze {i e z m c : Nat} {A : Option Addr} {cs : List Value} (h : St X w0 mr w R) (hi : R[i]? = some (.row e z A m c cs)) (hz : 0 < z := by decide) : St X w0 mr w (R.set i (.ro z A m c cs)) := ⟨h.ext, h.rows.setRo hi hz, h.x, h.cl, h.lt⟩
end
section
variable {P : Program} {n : Nat} {ro : Option Nat} {df : List Deferred} {N : Post} {L : Fr} {w w0 : World} {ops : Array Oper} {rest : List Oper}
variable {d : Nat} {ty : TypeId} {pos : String} {af : Array Edge}
theorem SL.slTo {x y : Operand} {t e : TypeId} {z by_ B : Nat} {zero : Value} {A : Option Addr} {m c : Nat} {cs : List Value} {wR : World} {k : IntKind} {J : Int} (ht : P.underlying t = some (.slice e)) (he : Elem P e z by_ zero) (hR : Rd B wR z A m c cs)
  (hx : ev L x = some (.slice A m c)) (hy : ev L y = some (.int k J)) (hJ : 0 ≤ J ∧ J ≤ (m : Nat)) (hn : Nat.blt d n = true)
  (mm : Nat) (hmm : J.toNat = mm) (h : WL P n ro df ops rest N ((d, .slice A mm c) :: L) w) : WL P n ro df ops (⟨some d, .slice t x none (some y) none, ty, pos, af, none⟩ :: rest) N L w := by
 subst hmm; exact WL.slTo J.toNat ht he hx hy (by omega) (by have := hR.cap; omega) hn h
theorem SL.callc {x : Operand} {f : FuncId} {fn : Func} {c : Code} {xs : List Operand} {ts : Array TypeId} {vs cs : List Value} {K : Value → List Rw → Prop} {X : World → Prop} {mr : Option Nat} {R : List Rw} (hS : St X w0 mr w R)
  (hc : Calls P f (vs ++ cs).toArray w fun e w' => ∃ v Q, e = .returned v ∧ w.grownBy w' none ∧ Rows w.heap.size none w' Q ∧ News w.heap.size Q ∧ K v Q)
  (hfv : ev L x = some (.func (.func f) #[] cs.toArray)) (hf : P.funcs[f]? = some fn) (hb : fn.body = some c) (hnm : (fn.name == "runtime.NumGoroutine") = false) (hx : evs L xs = some vs) (hn : Nat.blt d n = true)
  (h : ∀ v Q w', K v Q → w.grownBy w' none → St X w0 mr w' (Q ++ R) → WL P n ro df ops rest N ((d, v) :: L) w') :
  WL P n ro df ops (⟨some d, .call ⟨.value x, xs.toArray, ts⟩, ty, pos, af, none⟩ :: rest) N L w :=
 WL.callc hfv hf hb hnm hx hn (R := fun v w' => ∃ Q, w.grownBy w' none ∧ Rows w.heap.size none w' Q ∧ News w.heap.size Q ∧ K v Q) (hc.mono fun e w' ⟨v, Q, h1, h2⟩ => ⟨v, h1, Q, h2⟩) fun v w' ⟨Q, h1, h2, h3, h4⟩ => h v Q w' h4 h1 (hS.call h1 h2 h3)
theorem WL.eqlNil {x y : Operand} {tx tb e : TypeId} {A : Option Addr} {m c : Nat} {b : Bool} (hb : A.isNone = b) (hu : P.underlying tx = some (.slice e)) (hx : ev L x = some (.slice A m c)) (hy : ev L y = some (.slice none 0 0)) (hn : Nat.blt d n = true)
  (h : WL P n ro df ops rest N ((d, .bool b) :: L) w) : WL P n ro df ops (⟨some d, .binOp .eql tx x y tb, ty, pos, af, none⟩ :: rest) N L w :=
 WL.val rfl rfl hn (fun a ha => by
  have hq : (Op.equal tx (.slice A m c) (.slice none 0 0)).run P w = .ok b w := by
   have : ∀ k, (Op.equalIn (k + 1) tx (.slice A m c) (.slice none 0 0)).run P w = .ok b w := fun k => by
    rw [Op.equalIn]; subst hb; cases A <;> simp [run_underlying hu]
   exact this 9999
  simp [execOp, eqGuard, binOp, ha.ev hx, ha.ev hy, hq]) h
end
end Go.Proofs.Ytcmfjjbbcfddpaa
set_option linter.unusedSimpArgs false
set_option linter.unusedVariables false
namespace Go.Proofs.Ytcmfjjbbcfddpaa
open Go.RowKit
def ChLe (B : Nat) : List Rw → Prop
  | [] => True
  | .ch _ hi _ :: R => hi ≤ B ∧ ChLe B R
  | _ :: R => ChLe B R
theorem not_cells {w : World} {p : Addr} {v : Value} {r : Nat} {o : Obj} (h : w.cell? p = some v) (ho : w.heap[r]? = some o) (hc : o.isCells = false) : p.block ≠ r := fun e => by
 obtain ⟨o', h1, h2⟩ := cells_of_cell h; rw [e, ho] at h1; cases h1; rw [h2] at hc; cases hc
theorem Rows.stay {b B : Nat} {w w' : World} {row : Option Nat} (hg : w.grownBy w' row) (hr : ∀ r, row = some r → B ≤ r ∧ ∃ o : Obj, w.heap[r]? = some o ∧ o.isCells = false) :
  ∀ {R : List Rw}, Rows b none w R → ChLe B R → Rows b none w' R
 | [], _, _ => trivial
 | q :: R, h, hc => by
  have ih : ChLe B R := by cases q <;> first | exact hc.2 | exact hc
  refine ⟨h.1.step hg (fun g e hat => ?_), h.2.1, Rows.stay hg hr h.2.2 ih⟩; obtain ⟨h1, o, ho, hoc⟩ := hr g e; cases q with
  | row e z A m c cs =>
   obtain ⟨o', h2, h3⟩ := own_cells h.1.1 g hat; rw [ho] at h2; cases h2; rw [h3] at hoc; cases hoc
  | ch lo hi Pr => have := hc.1; have := hat.2; omega
  | ro z A m c cs =>
   obtain ⟨ad, e1, e2, e3⟩ := Rd.cells h.1.2 hat.2; have h4 := hat.1; rw [e1] at h4; cases h4; have hl : 0 < cs.length := by rw [Rd.len h.1.2]; exact Nat.mul_pos hat.2 h.1.1
   exact not_cells (e3 0 _ (List.getElem?_eq_getElem hl)) ho hoc (block_add _ _)
  | mu D Pr =>
   obtain ⟨⟨o', h2, h3⟩, _⟩ := h.1.2.1 g hat; rw [ho] at h2; cases h2; rw [h3] at hoc; cases hoc
def KO (W1 : World) : World → Prop := fun w => KeepsOthers W1 w
theorem closed_KO (W1 : World) : Closed (KO W1) := fun w w' row h hg hr => KeepsOthers.trans h (KeepsOthers.of_grownBy hg (fun j o e ho => by obtain ⟨o', h1, h2⟩ := hr j e; rw [ho] at h1; cases h1; exact h2))
section
variable {w0 w w' : World} {R : List Rw}
theorem St.stay {B : Nat} (h : St TT w0 none w R) (hB : w0.heap.size ≤ B) (hc : ChLe B R) {row : Option Nat} (hg : w.grownBy w' row) (hr : ∀ r, row = some r → B ≤ r ∧ ∃ o : Obj, w.heap[r]? = some o ∧ o.isCells = false) : St TT w0 none w' R :=
 ⟨grownBy_trans2 h.ext hg (fun g e => .inl (Nat.le_trans hB (hr g e).1)), h.rows.stay hg hr hc, trivial, closed_TT, h.lt⟩
theorem St.toKO (h : St TT w0 none w R) : St (KO w) w0 none w R := ⟨h.ext, h.rows, KeepsOthers.refl w, closed_KO w, h.lt⟩
theorem St.ofKO {W1 : World} (h : St (KO W1) w0 none w R) : St TT w0 none w R := ⟨h.ext, h.rows, trivial, closed_TT, h.lt⟩
theorem St.hi {X : World → Prop} {mr : Option Nat} {i lo hi : Nat} {Pr : World → Prop} (h : St X w0 mr w R) (hR : R[i]? = some (.ch lo hi Pr)) : hi ≤ w.heap.size := (h.rows.get hR).2.2.1
def Mrk (D : Nat) : World → Prop := fun w => w.heap[D]? = some (.deferred (some []))
theorem St.mark {D : Nat} (h : St TT w0 none w R) (hB : w0.heap.size ≤ D) (hD : w.heap[D]? = some (.deferred (some []))) (hc : ChLe D R) : St TT w0 none w (.ch D (D + 1) (Mrk D) :: R) := by
 have hlt : D < w.heap.size := (Array.getElem?_eq_some_iff.1 hD).1; refine ⟨h.ext, ⟨⟨hD, hB, hlt, fun x y hxy hx => (hxy D (Nat.le_refl _) (Nat.lt_succ_self _)).trans hx, fun g e => by cases e⟩, fun s hs hm g h1 h2 => ?_, h.rows⟩, h.x, h.cl, h.lt⟩; have hg : g = D := by have := h1.1; have := h1.2; omega
 subst hg; cases s with
 | row e z A m c cs =>
  obtain ⟨o', h3, h4⟩ := own_cells (h.rows.mem hs).1 g h2; rw [hD] at h3; cases h3; cases h4
 | ch => simp [Rw.mut] at hm
 | ro => simp [Rw.mut] at hm
 | mu D Pr =>
  obtain ⟨⟨o', h3, h4⟩, _⟩ := (h.rows.mem hs).2.1 g h2; rw [hD] at h3; cases h3; cases h4
theorem St.taken {D : Nat} (h : St TT w0 none w (.ch D (D + 1) (Mrk D) :: R)) (hc : ChLe D R) : w.heap[D]? = some (.deferred (some [])) ∧ St TT w0 none (w.putObj D (.deferred none)) R := by
  have hD : w.heap[D]? = some (.deferred (some [])) := h.rows.1.1
  have h2 : St TT w0 none w R := ⟨h.ext, h.rows.2.2, trivial, closed_TT, h.lt⟩
  exact ⟨hD, h2.stay h.rows.1.2.1 hc (grownBy_putObj' w D _) (fun r e => by cases e; exact ⟨Nat.le_refl _, _, hD, rfl⟩)⟩
end
theorem bw_stay {B : Nat} {q : Int → Array Value} {x : Array Value} {ad : Addr} : Stay B (fun w1 => ∃ v : Int, x = q v ∧ w1.cell? ad = some (.int .i64 v)) := by
 rintro W W' row ⟨v, h1, h2⟩ hg hr; exact ⟨v, h1, hg.cell h2 (fun e => by obtain ⟨_, o, ho, hc⟩ := hr _ e.symm; exact not_cells h2 ho hc rfl)⟩
theorem bw_val {B : Nat} {w : World} {A : Option Addr} {m c j : Nat} {l : List Int} {v : Int} (h : Rd B w 1 A m c (is l)) (hj : j < m) (hc : w.cell? ((adOf A).add j) = some (.int .i64 v)) : v = gi l ((j : Nat) : Int) := by
 have h1 := h.at_ (is_at (l := l) (j := j) (by have := h.ilen; omega)); rw [h1] at hc; cases hc; simp [gi]
theorem SR.range {σ : Type} {P : Program} {n : Nat} {df : List Deferred} {N : Post} {B : BPost} {L : Fr} {w w0 : World} {g : Operand} {ps : List Nat} {assign body : Code} {gf : Nat} {fn : Func} {c : Code} {lb : Array Value} {M : World → Prop} {yv : Nat → Array Value → World → Prop} {cnt : Nat} {wq : World}
    (Inv : Nat → σ → Prop) (R : σ → List Rw) (Ex : Exit → σ → Prop) (fr : List Value → Fr) (s0 : σ) (hS : St TT w0 none w (R s0)) (hI0 : Inv 0 s0) (hch : ∀ s, ChLe w.heap.size (R s))
    (hg : ev L g = some (.func (.func gf) #[] lb)) (hf : P.funcs[gf]? = some fn) (hfb : fn.body = some c) (hnm : (fn.name == "runtime.NumGoroutine") = false)
    (hseq : SeqJ P gf lb M yv cnt wq) (hb0 : Below wq.heap.size wq w) (hps : ∀ i x W, yv i x W → x.size = ps.length) (hyv : ∀ i x, Stay w.heap.size (yv i x)) (hpn : ∀ p ∈ ps, p < n)
    (hM : ∀ i s W1, Inv i s → St TT w0 none W1 (R s) → M W1)
    (asg : ∀ (l : Nat) (vs : List Value) (W1 : World), vs.length = ps.length → W P n (some l) [] assign (fun d' L' w' => d' = [] ∧ w' = W1 ∧ sub (fr vs) L') (fun _ _ _ _ => False) (parF ps vs L) W1)
    (rnd : ∀ (l i : Nat) (x : Array Value) (s : σ) (W1 : World), i < cnt → yv i x W1 → Inv i s → St (KO W1) w0 none W1 (R s) → W P n (some l) [] body (fun _ _ w' => ∃ s', Inv (i + 1) s' ∧ St (KO W1) w0 none w' (R s')) (fun e _ _ w' => ∃ s', plainExit e = true ∧ Ex e s' ∧ St (KO W1) w0 none w' (R s')) (fr x.toList) W1)
    (done : ∀ (D : Nat) (s : σ) (w1 : World), Inv cnt s → w.heap.size ≤ D → St TT w0 none w1 (.ch D (D + 1) (Mrk D) :: R s) → N ({ target := .collected D, args := #[] } :: df) L w1)
    (stop : ∀ (D : Nat) (e : Exit) (s : σ) (w1 : World), plainExit e = true → Ex e s → w.heap.size ≤ D → St TT w0 none w1 (.ch D (D + 1) (Mrk D) :: R s) → exits B ({ target := .collected D, args := #[] } :: df) L w1 e) :
    W P n none df (.rangeFunc g ps.toArray assign body) N B L w := by
  have hsz := hS.size
  have mono : ∀ {a b : Nat} {Q : List Rw}, a ≤ b → ChLe a Q → ChLe b Q := by
    intro a b Q hab
    induction Q with
    | nil => intro _; trivial
    | cons q Q ih => intro h; cases q <;> first | exact ⟨Nat.le_trans h.1 hab, ih h.2⟩ | exact ih h
  refine W.range (I := fun i W => ∃ s, Inv i s ∧ St TT w0 none W (R s)) (IX := fun e i W => ∃ s, Ex e s ∧ St TT w0 none W (R s)) (fr := fr) hg hf hfb hnm hseq hb0 hps hyv hpn ?_ ?_ ⟨s0, hI0, hS⟩ (fun i W1 ⟨s, h1, h2⟩ => hM i s W1 h1 h2) asg ?_ ?_ ?_
  · rintro i W1 W2 row ⟨s, h1, h2⟩ hgr hr; exact ⟨s, h1, h2.stay hsz (hch s) hgr hr⟩
  · rintro e i W1 W2 row ⟨s, h1, h2⟩ hgr hr; exact ⟨s, h1, h2.stay hsz (hch s) hgr hr⟩
  · rintro l i x W1 hi hx ⟨s, h1, h2⟩
    refine ⟨fun a ha => wpIn_mono ((rnd l i x s W1 hi hx h1 h2.toKO).out a ha) fun e a' w' q => ?_⟩
    cases e with
    | normal => obtain ⟨d', L', hL, s', h3, h4⟩ := q; exact ⟨d', L', hL, h4.x, s', h3, h4.ofKO⟩
    | _ => obtain ⟨d', L', hL, s', h0, h3, h4⟩ := q; exact ⟨d', L', hL, h0, h4.x, s', h3, h4.ofKO⟩
  · rintro D w1 hD ⟨s, h1, h2⟩ hd
    exact done D s w1 h1 hD (h2.mark (Nat.le_trans hsz hD) hd (mono hD (hch s)))
  · rintro D e i w1 hD hi he ⟨s, h1, h2⟩ hd
    exact stop D e s w1 he h1 hD (h2.mark (Nat.le_trans hsz hD) hd (mono hD (hch s)))
end Go.Proofs.Ytcmfjjbbcfddpaa
set_option linter.unusedSimpArgs false
set_option linter.unusedVariables false
namespace Go.Proofs.Ytcmfjjbbcfddpaa
open Go.RowKit
def vb : Value → Option Nat
  | .slice A _ _ => bl A
  | .pointer (some a) => some a.block
  | _ => none
def obA (P : Program) (n : Nat) (ro : Option Nat) (df : List Deferred) (l : List Oper) (al : Nat → Bool) (cp : Nat → Option Nat) (ph : Nat → Value → Value) (V : Nat → Value → World → Prop) (D : Nat → Value → World → Nat → Prop) (w0 : World) (i : Nat) (o : Oper) (p : Plan) (base : Fr) : Prop :=
  ∀ w, (p.pure = false → w0.grownBy w none) → told l V w (fun F => ∀ R : Fr, WL P n ro df l.toArray [o]
    (fun _ L' w' => ∃ u, L' = ((dstAt l i).getD 0, u) :: (F ++ R) ∧ (if p.pure then w' = w else w.grownBy w' none) ∧ V i u w' ∧ (al i = true → ∀ g, D i u w' g → w.heap.size ≤ g ∧ g < w'.heap.size) ∧ (∀ j, cp i = some j → ∃ u', lk (F ++ R) ((dstAt l j).getD 0) = some u' ∧ u = ph i u')) (F ++ R) w) p.on base
def obsA (P : Program) (n : Nat) (ro : Option Nat) (df : List Deferred) (l : List Oper) (al : Nat → Bool) (cp : Nat → Option Nat) (ph : Nat → Value → Value) (V : Nat → Value → World → Prop) (D : Nat → Value → World → Nat → Prop) (w0 : World) (L : Fr) : Nat → List Oper → List Plan → List Fr → Prop
  | i, o :: os, p :: ps, b :: bs => (b.map (·.1) = p.slots ∧ sub b L ∧ obA P n ro df l al cp ph V D w0 i o p b) ∧ obsA P n ro df l al cp ph V D w0 L (i + 1) os ps bs
  | _, [], [], [] => True
  | _, _, _, _ => False
theorem obsA_at {P : Program} {n : Nat} {ro : Option Nat} {df : List Deferred} {l : List Oper} {al : Nat → Bool} {cp : Nat → Option Nat} {ph : Nat → Value → Value} {V : Nat → Value → World → Prop} {D : Nat → Value → World → Nat → Prop} {w0 : World} {L : Fr} : ∀ (os : List Oper) (ps : List Plan) (bs : List Fr) (i : Nat),
  obsA P n ro df l al cp ph V D w0 L i os ps bs → ∀ k o p, os[k]? = some o → ps[k]? = some p → ∃ b, b.map (·.1) = p.slots ∧ sub b L ∧ obA P n ro df l al cp ph V D w0 (i + k) o p b
 | [], _, _, _, _, k, _, _, ho, _ => by simp at ho
 | o :: os, [], _, _, h, _, _, _, _, hp => by simp at hp
 | o :: os, p :: ps, [], _, h, _, _, _, _, _ => by exact h.elim
 | o :: os, p :: ps, b :: bs, i, h, 0, _, _, ho, hp => by cases ho; cases hp; exact ⟨b, h.1⟩
 | o :: os, p :: ps, b :: bs, i, h, k + 1, o', p', ho, hp => by
  obtain ⟨b', h'⟩ := obsA_at os ps bs (i + 1) h.2 k o' p' (by simpa using ho) (by simpa using hp); exact ⟨b', by rw [show i + (k + 1) = i + 1 + k by omega]; exact h'⟩
structure Ap (al : Nat → Bool) (cp : Nat → Option Nat) (ph : Nat → Value → Value) (D : Nat → Value → World → Nat → Prop) (d : Nat → Bool) (vals : Nat → Value) (w : World) : Prop where
  lt : ∀ k, d k = true → al k = true → ∀ g, D k (vals k) w g → g < w.heap.size
  ap : ∀ j k, j ≠ k → d j = true → d k = true → al j = true → al k = true → ∀ g, D j (vals j) w g → ¬ D k (vals k) w g
  cp_ : ∀ i j, d i = true → cp i = some j → vals i = ph i (vals j)
end Go.Proofs.Ytcmfjjbbcfddpaa
set_option linter.unusedSimpArgs false
set_option linter.unusedVariables false
namespace Go.Proofs.Ytcmfjjbbcfddpaa
open Go.RowKit
theorem of_ble {a b : Nat} (h : Nat.ble (a + 1) b = true) : a < b := Nat.le_of_ble_eq_true h
theorem seg_take {α : Type} (C D : List α) {o n m : Nat} (hD : D.length = n) (h : o + n ≤ m) (hm : m ≤ C.length) : (C.take o ++ D ++ C.drop (o + n)).take m = (C.take m).take o ++ D ++ (C.take m).drop (o + n) := by
 have h1 : (C.take o ++ D).length = o + n := by simp; omega
 rw [List.take_append, List.take_of_length_le (by omega), h1, List.take_take, Nat.min_eq_left (by omega), List.drop_take]
theorem calls_swapM {P : Program} {f : FuncId} {args : Array Value} {w : World} {K : Value → List Value → World → Prop} (h : Calls P f args w fun e w' => ∃ v, e = .returned v ∧ ∃ Q, K v Q w') :
 Calls P f args w fun e w' => ∃ v Q, e = .returned v ∧ K v Q w' := h.mono fun e w' ⟨v, h1, Q, h2⟩ => ⟨v, Q, h1, h2⟩
theorem blk.ret {id : Nat} {N : Post} {B : BPost} {df : List Deferred} {L : Fr} {w : World} (h : B .ret df L w) : blk id N B .ret df L w := h
theorem exits.retI {B : BPost} {df : List Deferred} {L : Fr} {w : World} (h : B .ret df L w) : exits B df L w .ret := h
theorem endC.mk {P : Program} {res : List ResultVar} {R : Value → World → Prop} {L : Fr} {w : World} (h : ∃ vs, resC P L w res vs ∧ R (resV vs) w) : endC P res R .ret [] L w := h
theorem calls_un {P : Program} {f : FuncId} {args : Array Value} {w : World} {K : Value → List Rw → Prop} (h : Calls P f args w fun e w' => ∃ v Q, e = .returned v ∧ w.grownBy w' none ∧ Rows w.heap.size none w' Q ∧ News w.heap.size Q ∧ K v Q) :
 Calls P f args w fun e w' => ∃ v, e = .returned v ∧ ∃ Q, w.grownBy w' none ∧ Rows w.heap.size none w' Q ∧ News w.heap.size Q ∧ K v Q := h.mono fun e w' ⟨v, Q, h1, h2⟩ => ⟨v, h1, Q, h2⟩
section
variable {X : World → Prop} {w0 w w' wS : World} {mr : Option Nat} {R R0 : List Rw}
theorem St.addOwn {e z m c : Nat} {A : Option Addr} {cs : List Value} (Q : List Rw) (h0 : St X w0 mr wS R0) (h : St X w0 mr w (Q ++ R0)) (hO : Own 0 w e z A m c cs) (hn : ∀ g, bl A = some g → wS.heap.size ≤ g) (hq : ∀ s ∈ Q, ∀ g, bl A = some g → ¬ s.at_ g) :
  St X w0 mr w (.row e z A m c cs :: (Q ++ R0)) := by
 refine ⟨h.ext, ⟨⟨hO, fun g hg => .inl (by have := hn g hg; have := h0.size; omega)⟩, fun s hs _ g hg hs2 => ?_, h.rows⟩, h.x, h.cl, h.lt⟩; rcases List.mem_append.1 hs with hs | hs
 ·exact hq s hs g hg hs2
 ·have := h0.rows.lt hs g hs2; have := hn g hg; omega
theorem St.startM {e z m c : Nat} {A : Option Addr} {cs : List Value} (h : Own 0 w e z A m c cs) : St TT w (bl A) w [.row e z A m c cs] :=
  ⟨World.grownBy.refl w _, ⟨⟨h, fun g hg => .inr hg⟩, fun s hs => by simp at hs, trivial⟩, trivial, closed_TT, fun g hg => (h.bl_ge g hg).2⟩
theorem St.rom' {B z m c : Nat} {A : Option Addr} {cs : List Value} (h : St X w0 mr w R) (hr : Rd B w0 z A m c cs) (ha : 0 < m → ∀ g, mr = some g → bl A ≠ some g) : Rd B w z A m c cs :=
 ⟨hr.len, hr.cap, hr.max, fun hm => by
  obtain ⟨ad, e1, e2, e3⟩ := hr.cells hm; exact ⟨ad, e1, e2, fun j u hu => h.ext.cell (e3 j u hu) (fun e => by rw [block_add] at e; exact ha hm _ e.symm (by rw [e1]; rfl))⟩⟩
theorem St.aptRow {i j e z m c e' z' m' c' : Nat} {A A' : Option Addr} {cs cs' : List Value} (h : St X w0 mr w R) (hij : i ≠ j) (hi : R[i]? = some (.row e z A m c cs)) (hj : R[j]? = some (.row e' z' A' m' c' cs')) : 0 < m' → ∀ g, bl A = some g → bl A' ≠ some g :=
 fun _ g h1 h2 => h.rows.apt hij hi hj rfl g h1 h2
theorem St.aptRo {i e z m c z' m' c' B : Nat} {A A' : Option Addr} {cs cs' : List Value} (h : St X w0 none w R) (hi : R[i]? = some (.row e z A m c cs)) (hr : Rd B w0 z' A' m' c' cs') (hz : 0 < z' := by decide) : 0 < m' → ∀ g, bl A = some g → bl A' ≠ some g := fun hm g h1 h2 => by
 have h3 := ((h.rows.get hi).2 g h1).resolve_right (by simp); obtain ⟨ad, e1, e2, _⟩ := (hr.norm hz).cells hm; rw [e1] at h2; cases h2; exact absurd e2 (Nat.not_lt.2 h3)
theorem St.aptRoM {i e z m c z' m' c' B : Nat} {A A' : Option Addr} {cs cs' : List Value} (h : St X w0 mr w R) (hi : R[i]? = some (.row e z A m c cs)) (hr : Rd B w0 z' A' m' c' cs') (ha : 0 < m' → ∀ g, mr = some g → bl A' ≠ some g) (hz : 0 < z' := by decide) : 0 < m' → ∀ g, bl A = some g → bl A' ≠ some g := fun hm g h1 h2 => by
 rcases (h.rows.get hi).2 g h1 with h3 | h3
 ·obtain ⟨ad, e1, e2, _⟩ := (hr.norm hz).cells hm; rw [e1] at h2; cases h2; exact absurd e2 (Nat.not_lt.2 h3)
 ·exact ha hm g h3 h2
theorem St.callm {i e z m c : Nat} {A : Option Addr} {cs cs' : List Value} {Q : List Rw} (h : St X w0 mr w R) (hi : R[i]? = some (.row e z A m c cs)) (hg : w.grownBy w' (bl A)) (hO : Own 0 w' e z A m c cs') : St X w0 mr w' (R.set i (.row e z A m c cs')) :=
  h.put hi hg hO (.inl rfl)
end
section
variable {P : Program} {n : Nat} {ro : Option Nat} {df : List Deferred} {N : Post} {L : Fr} {w w0 : World} {ops : Array Oper} {rest : List Oper}
variable {d : Nat} {ty : TypeId} {pos : String} {af : Array Edge} {X : World → Prop} {mr : Option Nat} {R : List Rw}
theorem SL.callm {f : FuncId} {fn : Func} {c : Code} {xs : List Operand} {ts : Array TypeId} {vs : List Value} {K : Value → List Value → Prop} {e z m k : Nat} {A : Option Addr} {cs : List Value} (i : Nat) (hS : St X w0 mr w R) (hi : R[i]? = some (.row e z A m k cs))
    (hc : Calls P f vs.toArray w fun en w' => ∃ v cs', en = .returned v ∧ w.grownBy w' (bl A) ∧ Own 0 w' e z A m k cs' ∧ K v cs')
    (hf : P.funcs[f]? = some fn) (hb : fn.body = some c) (hnm : (fn.name == "runtime.NumGoroutine") = false) (hx : evs L xs = some vs) (hn : Nat.blt d n = true)
    (h : ∀ v cs' w', K v cs' → St X w0 mr w' (R.set i (.row e z A m k cs')) → WL P n ro df ops rest N ((d, v) :: L) w') :
    WL P n ro df ops (⟨some d, .call ⟨.value (.func f), xs.toArray, ts⟩, ty, pos, af, none⟩ :: rest) N L w :=
  WL.call hf hb hnm hx hn (R := fun v w' => ∃ cs', w.grownBy w' (bl A) ∧ Own 0 w' e z A m k cs' ∧ K v cs') (hc.mono fun e w' ⟨v, Q, h1, h2⟩ => ⟨v, h1, Q, h2⟩) fun v w' ⟨cs', h1, h2, h3⟩ => h v cs' w' h3 (hS.callm (Q := []) hi h1 h2)
theorem WL.act0 {o : Oper} {v : Value} {w' : World} (hg : o.guard = none) (hd : o.dst = none)
    (hr : ∀ a, Has n df a L → (execOp a.eval o).run P w = .ok (.value v) w') (h : WL P n ro df ops rest N L w') : WL P n ro df ops (o :: rest) N L w := by
  refine ⟨fun a ha B => wpListIn_plain hg fun K hK => ?_⟩
  unfold Oper.wpIn
  refine ⟨fun _ _ => trivial, ?_⟩
  rw [Oper.semAt_eq _ _ _ (execOp_defer (hr a ha) (fun _ h => by cases h)), hr a ha, Oper.uponIn_value, hd]
  exact hK _ _ (h.out _ ha B)
theorem own_cur {b : Nat} {w : World} {e z : Nat} {A : Option Addr} {m c : Nat} {cs : List Value} (h : Own b w e z A m c cs) (hm : 0 < m) : ∃ g cur, A = some ⟨g, 0, none⟩ ∧ b ≤ g ∧ w.heap[g]? = some (.cells cur e (0, 0)) ∧ m ≤ c ∧ c ≤ maxLen ∧ cur.size = c * z ∧ cur.toList.take (m * z) = cs := by
 rcases h.2 with ⟨h1, h2⟩ | ⟨g, cap, cur, h1, h2, h3, h4, h5, h6, h7⟩
 ·omega
 ·cases h1; exact ⟨g, cur, rfl, h2, h3, h4, h5, h6, h7⟩
theorem own_cells_put {w : World} {e g : Nat} {m c : Nat} {cs : List Value} {cur cur' : Array Value} (hg : w.heap[g]? = some (.cells cur e (0, 0))) (hs : cur'.size = cur.size) (hmc : m ≤ c) (hc : c ≤ maxLen) (hcs : cur.size = c * 1) (ht : cur'.toList.take (m * 1) = cs) :
    Own 0 (w.setRow g cur') e 1 (some ⟨g, 0, none⟩) m c cs ∧ w.grownBy (w.setRow g cur') (bl (some ⟨g, 0, none⟩)) := by
  refine ⟨⟨?_, .inr ⟨g, c, cur', rfl, Nat.zero_le _, setRow_heap w g cur cur' e _ hg, hmc, hc, by rw [hs, hcs], ht⟩⟩, ⟨rfl, rfl, rfl, Nat.le_of_eq (setRow_size w g cur').symm, fun k hk hr => setRow_other w g k cur' (fun e => hr (by rw [e]; rfl))⟩⟩
  rw [← ht, List.length_take, Array.length_toList, hs, hcs]; omega
theorem SL.copy {x y : Operand} {tx ty_ e m c ms cs' B by_ : Nat} {zero : Value} {A As Aw : Option Addr} {xs ys : List Int} (i o : Nat) (hS : St X w0 mr w R) (hi : R[i]? = some (.row e 1 A m c (is xs))) (ht : P.underlying tx = some (.slice e)) (he : Elem P e 1 by_ zero)
    (hR : Rd B w 1 As ms cs' (is ys)) (hw : Aw = if c = o then A else A.map (·.add (o * 1))) (ho : o ≤ m) (hx : ev L x = some (.slice Aw (m - o) (c - o))) (hy : ev L y = some (.slice As ms cs')) (hn : Nat.blt d n = true)
    (h : ∀ w', St X w0 mr w' (R.set i (.row e 1 A m c (is (xs.take o ++ ys.take (min ms (m - o)) ++ xs.drop (o + min ms (m - o)))))) → WL P n ro df ops rest N ((d, .int .i64 ((min ms (m - o) : Nat) : Int)) :: L) w') :
    WL P n ro df ops (⟨some d, .call ⟨.builtin .copy, #[x, y], #[tx, ty_]⟩, ty, pos, af, none⟩ :: rest) N L w := by
  obtain ⟨inf, i1, i2, i3, i4⟩ := he.ex
  have hO := hS.own hi
  have hxl := hO.rd.ilen
  have hyl := hR.ilen
  rcases Nat.eq_zero_or_pos (min ms (m - o)) with h0 | h0
  · have e1 : xs.take o ++ ys.take (min ms (m - o)) ++ xs.drop (o + min ms (m - o)) = xs := by rw [h0]; simp
    rw [e1, h0] at h
    have h1 : R.set i (.row e 1 A m c (is xs)) = R := List.set_getElem?_self hi
    rw [h1] at h
    refine WL.val rfl rfl hn (fun a ha => ?_) (h w hS)
    have hz : ms.min (m - o) = 0 := h0
    have := run_copy_none (P := P) w tx ty_ ty e Aw As (m - o) (c - o) ms cs' ht (by simp [i1, i3]) hz
    simp [execOp, resolve, invoke, builtin, ha.ev hx, ha.ev hy, this, goInt]
  · obtain ⟨g, cur, rfl, _, hg, hmc, hcm, hcs, htake⟩ := own_cur hO (by omega)
    obtain ⟨ad, rfl, _, hcell⟩ := hR.cells (by omega)
    rw [if_neg (by omega)] at hw
    have hAw : Aw = some ⟨g, o, none⟩ := by rw [hw]; simp [Addr.add]; intro h; exact h.symm
    subst hAw
    have hlen : ((is ys).take (min ms (m - o))).length = min ms (m - o) := by rw [List.length_take, is_len]; omega
    have hrun := run_copy_row (P := P) w tx ty_ ty e g o (m - o) (c - o) ad ms cs' cur e ((is ys).take (min ms (m - o))) ht (by simp [i1, i3]) hg hlen
      (fun j v hv => hcell j v (by rw [List.getElem?_take] at hv; split at hv; exact hv; cases hv)) (by rw [hlen, hcs]; omega) (fun v hv => is_one ys v (List.mem_of_mem_take hv))
    have hp := own_cells_put (m := m) (c := c) (cs := is (xs.take o ++ ys.take (min ms (m - o)) ++ xs.drop (o + min ms (m - o)))) hg (cur' := (cur.toList.take o ++ (is ys).take (min ms (m - o)) ++ cur.toList.drop (o + ((is ys).take (min ms (m - o))).length)).toArray)
      (by rw [hlen]; simp [is_len]; omega) hmc hcm hcs (by
        have h2 : cur.toList.take m = is xs := by rw [← htake, Nat.mul_one]
        rw [hlen]
        have e1 : is (xs.take o ++ ys.take (min ms (m - o)) ++ xs.drop (o + min ms (m - o))) = (cur.toList.take m).take o ++ (is ys).take (min ms (m - o)) ++ (cur.toList.take m).drop (o + min ms (m - o)) := by
          rw [← is_append, ← is_append, ← is_take, ← is_take, ← is_drop, h2]
        rw [e1]
        simp only [Nat.mul_one]
        exact seg_take _ _ hlen (by omega) (by simp; omega))
    refine WL.val rfl rfl hn (fun a ha => ?_) (h _ (hS.put hi hp.2 hp.1 (.inl rfl)))
    simp [execOp, resolve, invoke, builtin, ha.ev hx, ha.ev hy, hrun, hlen, goInt]
theorem SL.clear {x : Operand} {tx e m c by_ : Nat} {A : Option Addr} {xs : List Int} (i : Nat) (hS : St X w0 mr w R) (hi : R[i]? = some (.row e 1 A m c (is xs))) (ht : P.underlying tx = some (.slice e)) (he : Elem P e 1 by_ (.int .i64 0)) (hx : ev L x = some (.slice A m c))
    (h : ∀ w', St X w0 mr w' (R.set i (.row e 1 A m c (is (List.replicate m 0)))) → WL P n ro df ops rest N L w') :
    WL P n ro df ops (⟨none, .call ⟨.builtin .clear, #[x], #[tx]⟩, ty, pos, af, none⟩ :: rest) N L w := by
  obtain ⟨inf, i1, i2, i3, i4⟩ := he.ex
  have hO := hS.own hi
  have hxl := hO.rd.ilen
  rcases Nat.eq_zero_or_pos m with h0 | h0
  · subst h0
    have e0 : xs = [] := List.eq_nil_of_length_eq_zero hxl
    subst e0
    have h1 : R.set i (.row e 1 A 0 c (is [])) = R := List.set_getElem?_self hi
    rw [show List.replicate 0 (0 : Int) = [] from rfl, h1] at h
    refine WL.act0 (v := .tuple #[]) rfl rfl (fun a ha => ?_) (h w hS)
    have : (Builtin.clear_ #[tx] ty #[.slice A 0 c]).run P w = .ok (.tuple #[]) w := by
      cases A <;> simp [Builtin.clear_, run_underlying ht]
    simp [execOp, resolve, invoke, builtin, ha.ev hx, this]
  · obtain ⟨g, cur, rfl, _, hg, hmc, hcm, hcs, htake⟩ := own_cur hO h0
    have hst := run_storeCells_at P g 0 e (List.replicate m (Value.int .i64 0)) 0 cur w hg (by simp; omega) (fun v hv => by rw [List.eq_of_mem_replicate hv]; rfl)
    have hzc : (Builtin.zeroCells (Value.int .i64 0).cells m).toList = List.replicate m (Value.int .i64 0) := by
      show (Builtin.zeroCells #[Value.int .i64 0] m).toList = _
      simp [Builtin.zeroCells]
      apply List.ext_getElem
      · simp
      · intro i h1 h2
        simp [Nat.mod_one]
    have hrun : (Builtin.clear_ #[tx] ty #[.slice (some ⟨g, 0, none⟩) m c]).run P w = .ok (.tuple #[]) (w.setRow g (cur.toList.take (0 + 0) ++ List.replicate m (Value.int .i64 0) ++ cur.toList.drop (0 + 0 + (List.replicate m (Value.int .i64 0)).length)).toArray) := by
      obtain ⟨k, rfl⟩ : ∃ k, m = k + 1 := ⟨m - 1, by omega⟩
      have hz0 : (zeroValue e).run P w = .ok (.int .i64 0) w := by simp [zeroValue, typeInfo, i1, i2]
      simp only [Builtin.clear_]
      simp [run_underlying ht, hz0, hzc, hst]
    have hp := own_cells_put (m := m) (c := c) (cs := is (List.replicate m 0)) hg (cur' := (cur.toList.take (0 + 0) ++ List.replicate m (Value.int .i64 0) ++ cur.toList.drop (0 + 0 + (List.replicate m (Value.int .i64 0)).length)).toArray)
      (by simp; omega) hmc hcm hcs (by simp [is])
    refine WL.act0 (v := .tuple #[]) rfl rfl (fun a ha => ?_) (h _ (hS.put hi hp.2 hp.1 (.inl rfl)))
    simp [execOp, resolve, invoke, builtin, ha.ev hx, hrun]
theorem SL.makeL {x y : Operand} {t e : TypeId} {z by_ : Nat} {zero : Value} {k k' : IntKind} {J : Int} {cs : List Value} (ht : P.underlying t = some (.slice e)) (he : Elem P e z by_ zero)
  (hx : ev L x = some (.int k J)) (hy : ev L y = some (.int k' J)) (hJ : 0 ≤ J ∧ J * (by_ : Int) ≤ 281474976710656 ∧ J ≤ 281474976710656) (hcs : (madeCells zero.cells (J.toNat * z)).toList = cs) (hn : Nat.blt d n = true)
  (h : ∀ A c w', Own 0 w' e z A J.toNat c cs → (∀ g, bl A = some g → w.heap.size ≤ g) → w.grownBy w' none → WL P n ro df ops rest N ((d, .slice A J.toNat c) :: L) w') :
  WL P n ro df ops (⟨some d, .makeSlice t x y, ty, pos, af, none⟩ :: rest) N L w := by
 subst hcs; have h1 : J = ((J.toNat : Nat) : Int) := by omega
 refine WL.make w.heap.size J.toNat ht he hx hy h1 ?_ (by simp only [maxLen]; omega) (Nat.le_refl _) hn fun A w' hA hO hG => h A J.toNat w' (hO.low (Nat.zero_le _)) (fun g hg => (hO.bl_ge g hg).1) hG; have := hJ.2.1; rw [h1, ← Int.natCast_mul] at this; rw [Nat.mul_comm]; exact Int.ofNat_le.1 this
theorem SL.make0 {x y : Operand} {t e : TypeId} {z by_ : Nat} {zero : Value} {k k' : IntKind} {J : Int} {cs : List Value} (hS : St X w0 mr w R) (ht : P.underlying t = some (.slice e)) (he : Elem P e z by_ zero)
    (hx : ev L x = some (.int k 0)) (hy : ev L y = some (.int k' J)) (hJ : 0 ≤ J ∧ J * (by_ : Int) ≤ 281474976710656 ∧ J ≤ 281474976710656) (hcs : [] = cs) (hn : Nat.blt d n = true)
    (h : ∀ A w', St X w0 mr w' (.row e z A 0 J.toNat cs :: R) → WL P n ro df ops rest N ((d, .slice A 0 J.toNat) :: L) w') :
    WL P n ro df ops (⟨some d, .makeSlice t x y, ty, pos, af, none⟩ :: rest) N L w := by
  subst hcs
  obtain ⟨inf, i1, i2, i3, i4⟩ := he.ex
  have h1 : J = ((J.toNat : Nat) : Int) := by omega
  have hb : inf.bytes * J.toNat ≤ 281474976710656 := by
    have := hJ.2.1; rw [h1, ← Int.natCast_mul] at this; rw [i4, Nat.mul_comm]; exact Int.ofNat_le.1 this
  obtain ⟨w', hr, hO, hG⟩ := run_make_own (P := P) w w.heap.size t e inf zero z ht i1 i2 i3 k k' J.toNat hb (by simp only [maxLen]; omega) (Nat.le_refl _)
  rw [← h1] at hr
  refine WL.val rfl rfl hn (fun a ha => by simp [execOp, ha.ev hx, ha.ev hy, hr]) (h _ w' (hS.push hG ⟨Own.low (b' := 0) hO (Nat.zero_le _), fun g hg => .inl ?_⟩ fun g hg => ?_))
  · cases hg; exact hS.size
  · cases hg; exact Nat.le_refl _
theorem St.castOwn {i e z m c m' c' : Nat} {A A' : Option Addr} {cs cs' : List Value} {w' : World} (h : St X w0 mr w R) (hi : R[i]? = some (.row e z A m c cs)) (hg : w.grownBy w' (bl A)) (hR : Rd w'.heap.size w' z A m c cs) (hR2 : Rd w'.heap.size w' z A' m' c' cs') (hz : 0 < z) (hA : 0 < m' → bl A' = bl A ∨ bl A' = some w.heap.size) :
  St X w0 mr w' (.ro z A' m' c' cs' :: R.set i (.ro z A m c cs)) := by
 have hr := h.rows.get hi; have h1 : Rows w0.heap.size mr w' (R.set i (.ro z A m c cs)) := h.rows.put hi rfl hg (fun g e => e) ⟨hz, hR⟩ (fun g e => .inl e.1); refine ⟨grownBy_trans2 h.ext hg hr.2, ⟨⟨hz, hR2⟩, fun s hs hm g hg1 hg2 => ?_, h1⟩, h.cl _ _ _ h.x hg (own_cells hr.1), h.cl, h.lt⟩; have hsm : s.mut = true := by simpa [Rw.mut] using hm
 obtain ⟨j, hj⟩ := List.getElem?_of_mem hs; rw [List.getElem?_set] at hj; split at hj
 ·split at hj
  ·cases hj; cases hsm
  ·cases hj
 ·rename_i hij
  have hs0 := h.rows.get hj; rcases hA hg1.2 with h2 | h2
  ·exact h.rows.apt (i := i) (j := j) hij hi hj (by simp [Rw.mut]) g (show bl A = some g from h2 ▸ hg1.1) hg2
  ·have h3 := hg1.1; rw [h2] at h3; cases h3; exact absurd (hs0.lt hg2) (Nat.lt_irrefl _)
theorem SL.appendRo {x y : Operand} {t e : TypeId} {z by_ : Nat} {zero : Value} {A A' : Option Addr} {m c m' c' B : Nat} {cs cs' : List Value} (i mm : Nat) (ls : List Value) (hS : St X w0 mr w R) (hi : R[i]? = some (.row e z A m c cs)) (ht : P.underlying t = some (.slice e)) (he : Elem P e z by_ zero)
    (hR : Rd B w z A' m' c' cs') (h1 : ∀ u ∈ cs', u.oneCell' = true) (hx : ev L x = some (.slice A m c)) (hy : ev L y = some (.slice A' m' c')) (hm0 : 0 < m ∧ 0 < m')
    (hmax : m + m' ≤ maxLen) (hby : (m + m') * by_ ≤ 140737488355328) (hmm : m + m' = mm) (hls : cs ++ cs' = ls) (hn : Nat.blt d n = true)
    (h : ∀ A2 c2 w', St X w0 mr w' (.ro z A2 mm c2 ls :: R.set i (.ro z A m c cs)) → (∀ g, bl A2 = some g → w0.heap.size ≤ g ∨ mr = some g) → WL P n ro df ops rest N ((d, .slice A2 mm c2) :: L) w') :
    WL P n ro df ops (⟨some d, .call ⟨.builtin .append, #[x, y], #[t, t]⟩, ty, pos, af, none⟩ :: rest) N L w := by
  subst hmm; subst hls
  obtain ⟨inf, i1, i2, i3, i4⟩ := he.ex
  have hO := hS.own hi
  obtain ⟨g, cur, rfl, hg0, hg, hmc, hcm, hcs, htake⟩ := own_cur hO hm0.1
  obtain ⟨ad, rfl, _, hcell⟩ := hR.cells hm0.2
  have hgl : g < w.heap.size := (Array.getElem?_eq_some_iff.1 hg).1
  by_cases hroom : m + m' ≤ c
  · obtain ⟨w', hr, o1, o2⟩ := run_append_fits (P := P) w 0 t ty e inf z ht i1 i3 g m c cs hO ad m' c' cs' hR.len hcell h1 hroom
    have h2 : Rd w'.heap.size w' z (some ⟨g, 0, none⟩) (m + m') c (cs ++ cs') := Own.rd (e := e) (b := 0) o1
    have h3 : Rd w'.heap.size w' z (some ⟨g, 0, none⟩) m c cs := by
      have h4 := h2.take (k := m) (by omega)
      rwa [← hO.len, List.take_left] at h4
    refine WL.val rfl rfl hn (fun a ha => by simp [execOp, resolve, invoke, builtin, ha.ev hx, ha.ev hy, hr]) (h _ c w' (hS.castOwn hi o2 h3 h2 he.pos (fun _ => .inl rfl)) (hS.rows.get hi).2)
  · obtain ⟨v', w', hr, o1, o2⟩ := run_append_arg_grows (P := P) w t ty e inf zero z by_ ht i1 i2 i3 i4 he.zs he.pos ⟨g, 0, none⟩ m c cs hO.len (fun j u hu => hO.rd.at_ hu) ad m' c' cs' hR.len hcell (by omega) hmax hby
    have hv : ∃ A2 c2, v' = .slice A2 (m + m') c2 := by
      rcases o1.2 with ⟨rfl, h3⟩ | ⟨g, cap, cur, rfl, _⟩
      · omega
      · exact ⟨_, _, rfl⟩
    obtain ⟨A2, c2, rfl⟩ := hv
    have hO2 : Own w.heap.size w' e z A2 (m + m') c2 (cs ++ cs') := o1
    have hS2 : St X w0 mr w' (.row e z A2 (m + m') c2 (cs ++ cs') :: R) := hS.push o2 ⟨hO2.low (Nat.zero_le _), fun g hg => .inl (by have := (hO2.bl_ge g hg).1; have := hS.size; omega)⟩ (fun g hg => (hO2.bl_ge g hg).1)
    have hS3 := (hS2.freeze (i := 0) rfl he.pos).freeze (i := i + 1) (e := e) (z := z) (A := some ⟨g, 0, none⟩) (m := m) (c := c) (cs := cs) (by simpa using hi) he.pos
    exact WL.val rfl rfl hn (fun a ha => by simp [execOp, resolve, invoke, builtin, ha.ev hx, ha.ev hy, hr]) (h A2 c2 w' (by simpa using hS3) (fun g hg => .inl (by have := (hO2.bl_ge g hg).1; have := hS.size; omega)))
theorem SL.slFrom {x y : Operand} {t e : TypeId} {by_ B : Nat} {zero : Value} {A : Option Addr} {m c : Nat} {cs : List Value} {wR : World} {k : IntKind} {J : Int} (ht : P.underlying t = some (.slice e)) (he : Elem P e 1 by_ zero) (hR : Rd B wR 1 A m c cs)
    (hx : ev L x = some (.slice A m c)) (hy : ev L y = some (.int k J)) (hJ : 0 ≤ J ∧ J ≤ (m : Nat)) (hn : Nat.blt d n = true)
    (h : WL P n ro df ops rest N ((d, .slice (if c = J.toNat then A else A.map (·.add (J.toNat * 1))) (m - J.toNat) (c - J.toNat)) :: L) w) : WL P n ro df ops (⟨some d, .slice t x (some y) none none, ty, pos, af, none⟩ :: rest) N L w :=
  WL.slFrom J.toNat ht he hx hy (by omega) (by omega) hn h
end
end Go.Proofs.Ytcmfjjbbcfddpaa
set_option linter.unusedSimpArgs false
set_option linter.unusedVariables false
namespace Go.Proofs.Ytcmfjjbbcfddpaa
open Go.RowKit
section
variable {P : Program} {n : Nat} {ro : Option Nat} {df : List Deferred} {N : Post} {L : Fr} {w : World} {rest : List Oper} {ops : Array Oper}
variable {d : Nat} {ty : TypeId} {pos : String} {af : Array Edge}
theorem run_eqPn {t e : TypeId} {a : Option Addr} (hu : P.underlying t = some (.pointer e)) : (Op.equal t (.pointer a) (.pointer none)).run P w = .ok a.isNone w := by
 have : ∀ k, (Op.equalIn (k + 1) t (.pointer a) (.pointer none)).run P w = .ok a.isNone w := fun k => by
  rw [Op.equalIn]; cases a <;> simp [run_underlying hu]
 exact this 9999
theorem WL.eqlPn {x y : Operand} {tx tb e : TypeId} {a : Option Addr} {b : Bool} (hu : P.underlying tx = some (.pointer e)) (hx : ev L x = some (.pointer a)) (hy : ev L y = some (.pointer none)) (hb : a.isNone = b) (hn : Nat.blt d n = true)
  (h : WL P n ro df ops rest N ((d, .bool b) :: L) w) : WL P n ro df ops (⟨some d, .binOp .eql tx x y tb, ty, pos, af, none⟩ :: rest) N L w :=
 WL.val rfl rfl hn (fun q ha => by subst hb; simp [execOp, eqGuard, binOp, ha.ev hx, ha.ev hy, run_eqPn hu]) h
end
end Go.Proofs.Ytcmfjjbbcfddpaa
set_option linter.unusedSimpArgs false
set_option linter.unusedVariables false
namespace Go.Proofs.Ytcmfjjbbcfddpaa
open Go.RowKit
end Go.Proofs.Ytcmfjjbbcfddpaa
set_option linter.unusedSimpArgs false
set_option linter.unusedVariables false
namespace Go.Proofs.Ytcmfjjbbcfddpaa
open Go.RowKit
theorem Own.take {b : Nat} {w : World} {e z : Nat} {A : Option Addr} {m c : Nat} {cs : List Value} (h : Own b w e z A m c cs) {k : Nat} (hk : k ≤ m) : Own b w e z A k c (cs.take (k * z)) := by
 obtain ⟨h1, h2⟩ := h; have hkz : k * z ≤ m * z := Nat.mul_le_mul_right z hk; refine ⟨by rw [List.length_take, h1]; omega, ?_⟩; rcases h2 with ⟨h3, h4⟩ | ⟨g, cap, cur, h3, h4, h5, h6, h7, h8, h9⟩
 ·have : k = 0 := by omega
  subst this; cases h3; exact .inl ⟨rfl, rfl⟩
 ·cases h3; refine .inr ⟨g, c, cur, rfl, h4, h5, by omega, h7, h8, ?_⟩; rw [← h9, List.take_take, Nat.min_eq_left hkz]
section
variable {X : World → Prop} {w0 w w' : World} {mr : Option Nat} {R : List Rw}
end
def Al (w : World) : List Value → List (List Int) → Prop
  | [], [] => True
  | v :: vs, l :: ls => (∃ A k B, v = .slice A l.length k ∧ Rd B w 1 A l.length k (is l)) ∧ Al w vs ls
  | _, _ => False
theorem Al.len {w : World} : ∀ {vs : List Value} {ls : List (List Int)}, Al w vs ls → vs.length = ls.length
 | [], [], _ => rfl
 | v :: vs, l :: ls, h => by rw [List.length_cons, List.length_cons, Al.len h.2]
 | [], _ :: _, h => h.elim
 | _ :: _, [], h => h.elim
theorem Al.ext {w w' : World} (hg : w.grownBy w' none) : ∀ {vs : List Value} {ls : List (List Int)}, Al w vs ls → Al w' vs ls
 | [], [], _ => trivial
 | v :: vs, l :: ls, ⟨⟨A, k, B, h1, h2⟩, h3⟩ => ⟨⟨A, k, B, h1, h2.ext hg⟩, Al.ext hg h3⟩
 | [], _ :: _, h => h.elim
 | _ :: _, [], h => h.elim
def gl (l : List (List Int)) (i : Int) : List Int := l.getD i.toNat []
theorem Al.at_ {w : World} : ∀ {vs : List Value} {ls : List (List Int)} {i : Nat}, Al w vs ls → i < ls.length → ∃ A k B, vs[i]? = some (.slice A (ls.getD i []).length k) ∧ Rd B w 1 A (ls.getD i []).length k (is (ls.getD i []))
 | v :: vs, l :: ls, 0, ⟨⟨A, k, B, h1, h2⟩, h3⟩, _ => ⟨A, k, B, by rw [h1]; rfl, h2⟩
 | v :: vs, l :: ls, i + 1, ⟨_, h3⟩, hi => Al.at_ (i := i) h3 (by simpa using hi)
 | [], [], i, _, hi => absurd hi (Nat.not_lt_zero i)
 | [], _ :: _, _, h, _ => h.elim
 | _ :: _, [], _, h, _ => h.elim
structure Rl (w : World) (A : Option Addr) (n k : Nat) (ls : List (List Int)) : Prop where
  ex : ∃ B cs, Rd B w 1 A n k cs ∧ Al w cs ls
theorem Rl.len {w : World} {A : Option Addr} {n k : Nat} {ls : List (List Int)} (h : Rl w A n k ls) : ls.length = n := by
 obtain ⟨B, cs, h1, h2⟩ := h.ex; rw [← h2.len, h1.len, Nat.mul_one]
theorem Rl.ext {w w' : World} {A : Option Addr} {n k : Nat} {ls : List (List Int)} (h : Rl w A n k ls) (hg : w.grownBy w' none) : Rl w' A n k ls := by
 obtain ⟨B, cs, h1, h2⟩ := h.ex; exact ⟨B, cs, h1.ext hg, h2.ext hg⟩
theorem Rl.nil (w : World) : Rl w none 0 0 [] := ⟨0, [], Rd.nil (by simp only [maxLen]; omega), trivial⟩
theorem Rl.at_ {w : World} {A : Option Addr} {n k : Nat} {ls : List (List Int)} (h : Rl w A n k ls) {I : Int} (hI : 0 ≤ I ∧ I < (n : Nat)) :
  ∃ A2 k2 B2, w.cell? ((adOf A).add I.toNat) = some (.slice A2 (gl ls I).length k2) ∧ Rd B2 w 1 A2 (gl ls I).length k2 (is (gl ls I)) := by
 obtain ⟨B, cs, h1, h2⟩ := h.ex; have hl := h.len; obtain ⟨A2, k2, B2, e1, e2⟩ := h2.at_ (i := I.toNat) (by omega); exact ⟨A2, k2, B2, h1.at_ e1, e2⟩
theorem Rl.m64 {w : World} {A : Option Addr} {n k : Nat} {ls : List (List Int)} (h : Rl w A n k ls) : n ≤ 9223372036854775807 := by
 obtain ⟨B, cs, h1, h2⟩ := h.ex; exact h1.m64
section
variable {P : Program} {n : Nat} {ro : Option Nat} {df : List Deferred} {N : Post} {L : Fr} {w w0 : World} {ops : Array Oper} {rest : List Oper}
variable {d : Nat} {ty : TypeId} {pos : String} {af : Array Edge} {X : World → Prop} {mr : Option Nat} {R : List Rw}
theorem WL.makeFuncB {f : FuncId} {ys xs : List Operand} {us vs : List Value} (hy : evs L ys = some us) (hx : evs L xs = some vs) (hn : Nat.blt d n = true) (h : WL P n ro df ops rest N ((d, .func (.func f) us.toArray vs.toArray) :: L) w) :
    WL P n ro df ops (⟨some d, .makeFunc (.func f) ys.toArray xs.toArray, ty, pos, af, none⟩ :: rest) N L w :=
  WL.val rfl rfl hn (fun a ha => by
    have hm := ha.evs hx
    have hm2 := ha.evs hy
    simp [execOp, hm, hm2, Instr.makeFunc]) h
theorem WL.callb {x : Operand} {f : FuncId} {fn : Func} {c : Code} {xs : List Operand} {ts : Array TypeId} {us vs cs : List Value} {R : Value → World → Prop} (hfv : ev L x = some (.func (.func f) us.toArray cs.toArray)) (hf : P.funcs[f]? = some fn) (hb : fn.body = some c) (hnm : (fn.name == "runtime.NumGoroutine") = false)
    (hx : evs L xs = some vs) (hn : Nat.blt d n = true)
    (hc : Calls P f (us ++ vs ++ cs).toArray w fun e w' => ∃ v, e = .returned v ∧ R v w') (h : ∀ v w', R v w' → WL P n ro df ops rest N ((d, v) :: L) w') :
    WL P n ro df ops (⟨some d, .call ⟨.value x, xs.toArray, ts⟩, ty, pos, af, none⟩ :: rest) N L w := by
  refine WL.enter rfl rfl hn (fun a ha => ?_) hc h
  have hm := ha.evs hx
  have hfe := ha.ev hfv
  have hnm' : ¬ fn.name = "runtime.NumGoroutine" := by simpa using hnm
  simp only [execOp, resolve, Sem.run_bind]
  simp [Deferred.ofValue, hfe, invoke, callFunc, hm, program, Sem.run, hf, hb, hnm']
theorem SL.callb {x : Operand} {f : FuncId} {fn : Func} {c : Code} {xs : List Operand} {ts : Array TypeId} {us vs cs : List Value} {K : Value → List Rw → Prop} (hS : St X w0 mr w R)
  (hc : Calls P f (us ++ vs ++ cs).toArray w fun e w' => ∃ v Q, e = .returned v ∧ w.grownBy w' none ∧ Rows w.heap.size none w' Q ∧ News w.heap.size Q ∧ K v Q)
  (hfv : ev L x = some (.func (.func f) us.toArray cs.toArray)) (hf : P.funcs[f]? = some fn) (hb : fn.body = some c) (hnm : (fn.name == "runtime.NumGoroutine") = false) (hx : evs L xs = some vs) (hn : Nat.blt d n = true)
  (h : ∀ v Q w', K v Q → w.grownBy w' none → St X w0 mr w' (Q ++ R) → WL P n ro df ops rest N ((d, v) :: L) w') :
  WL P n ro df ops (⟨some d, .call ⟨.value x, xs.toArray, ts⟩, ty, pos, af, none⟩ :: rest) N L w :=
 WL.callb hfv hf hb hnm hx hn (R := fun v w' => ∃ Q, w.grownBy w' none ∧ Rows w.heap.size none w' Q ∧ News w.heap.size Q ∧ K v Q) (hc.mono fun e w' ⟨v, Q, h1, h2⟩ => ⟨v, h1, Q, h2⟩) fun v w' ⟨Q, h1, h2, h3, h4⟩ => h v Q w' h4 h1 (hS.call h1 h2 h3)
end
theorem St.cell {X : World → Prop} {w0 w : World} {R : List Rw} (h : St X w0 none w R) {p : Addr} {u : Value} (hc : w0.cell? p = some u) : w.cell? p = some u := cell_grown h.ext hc (by simp)
end Go.Proofs.Ytcmfjjbbcfddpaa
set_option linter.unusedSimpArgs false
set_option linter.unusedVariables false
namespace Go.Proofs.Ytcmfjjbbcfddpaa
open Go.ChangeShapes Go.WideShapes Go.ChangeAt Go.RowKit
section
variable {H : Type} {enc : TypeId × Value → H} {P : Program} {W : World} {base : Nat} {spare : Nat → Bool} {held : Bool}
end
end Go.Proofs.Ytcmfjjbbcfddpaa
set_option linter.unusedSimpArgs false
set_option linter.unusedVariables false
namespace Go.Proofs.Ytcmfjjbbcfddpaa
open Go.ChangeShapes Go.WideShapes Go.ChangeAt Go.RowKit
theorem ints_arg_d {H : Type} {enc : TypeId × Value → H} {P : Program} {W : World} {base : Nat} {spare : Nat → Bool} {held : Bool} {t e : TypeId} {A : Option Addr} {m c : Nat} {d : DataW H} {p : List MemPlace}
    (ht : P.underlying t = some (.slice e)) (he : P.underlying e = some (.int .i64)) (hc : P.cellsOf e = 1) (h : DataW.Trod enc P W base spare held t (.slice A m c) d p) : ∃ xs : List Int, Rd W.heap.size W 1 A m c (is xs) ∧ ((d = .nil ∧ m = 0) ∨ ∃ es ss, d = .slice es ss ∧ es.length = m) := by
  obtain ⟨fuel, hf⟩ := h
  rcases open_ints ht he hc hf with ⟨hcs, hx⟩ | ⟨x, l, c', zs, hcs, _, hl, hm, hz, hx, hcell, hwz⟩
  · simp [Value.cells] at hcs
    obtain ⟨rfl, rfl, rfl⟩ := hcs
    cases hx
    exact ⟨[], Rd.nil (by simp [maxLen]), .inl ⟨rfl, rfl⟩⟩
  · simp [Value.cells] at hcs
    obtain ⟨rfl, rfl, rfl⟩ := hcs
    have hzl : m ≤ zs.length := by rw [hz]; split <;> omega
    have hr : Rd W.heap.size W 1 (some x) m c (is (zs.take m)) := by
      refine Rd.norm (B := x.block + 1) ⟨?_, hl, hm, fun hm0 => ⟨x, rfl, Nat.lt_succ_self _, fun j u hu => ?_⟩⟩
      · simp only [is, List.length_map, List.length_take]; omega
      · simp only [is, List.getElem?_map, Option.map_eq_some_iff] at hu
        obtain ⟨z, hz1, rfl⟩ := hu
        rw [List.getElem?_take] at hz1
        split at hz1
        · rename_i hj
          have hjl : j < zs.length := by omega
          have h1 := hcell j hjl
          rw [h1, List.getD_eq_getElem?_getD, hz1]
          rfl
        · cases hz1
    refine ⟨_, hr, .inr ?_⟩
    cases hx
    exact ⟨_, _, rfl, by simp [lits]; omega⟩
end Go.Proofs.Ytcmfjjbbcfddpaa
set_option linter.unusedVariables false
namespace Go.Proofs.Ytcmfjjbbcfddpaa
open Go
theorem ws_cons {c : Char} (h : c ≠ Char.ofNat 32) (r : List Char) : wordsSigns (c :: r) = match wordsSigns r with | w :: ws => (c :: w) :: ws | [] => [[c]] := by
  rw [wordsSigns.eq_def]
  split
  · rename_i he; cases he
  · rename_i he; cases he; exact absurd rfl h
  · rename_i he; cases he; rfl
theorem ws_ne : ∀ a : List Char, wordsSigns a ≠ []
 | [] => fun h => by cases h
 | c :: a => by
  by_cases h : c = Char.ofNat 32
  ·subst h; show [] :: wordsSigns a ≠ []; exact List.cons_ne_nil _ _
  ·rw [ws_cons h]; cases wordsSigns a with
   | nil => exact List.cons_ne_nil _ _
   | cons w ws => exact List.cons_ne_nil _ _
theorem ws_app : ∀ a b : List Char, wordsSigns (a ++ Char.ofNat 32 :: b) = wordsSigns a ++ wordsSigns b
 | [], b => rfl
 | c :: a, b => by
  by_cases h : c = Char.ofNat 32
  ·subst h; show [] :: wordsSigns (a ++ Char.ofNat 32 :: b) = ([] :: wordsSigns a) ++ wordsSigns b; rw [ws_app a b]; rfl
  ·rw [List.cons_append, ws_cons h, ws_cons h, ws_app a b]; cases hw : wordsSigns a with
   | nil => exact absurd hw (ws_ne a)
   | cons w ws => rfl
theorem roots_of {P : Program} {A B : String} {hs : List (List Char)} (h : P.initOrder = A ++ (String.singleton (Char.ofNat 32)) ++ B) (hA : wordsSigns A.toList = hs) : ∃ rest, wordsSigns P.initOrder.toList = hs ++ rest :=
  ⟨wordsSigns B.toList, by rw [h, String.toList_append, String.toList_append, ← hA]; exact (congrArg wordsSigns (by simp)).trans (ws_app A.toList B.toList)⟩
theorem head_strip (rest : List (List Char)) : stripLifts liftWords ("cut".toList :: rest) = ([], "cut".toList :: rest) := by kernel_rfl
theorem finals_of {P : Program} {rest : List (List Char)} (h : behindMainWord (wordsSigns P.initOrder.toList) = "cut".toList :: rest) : P.liftsFinal = false := by
 unfold Program.liftsFinal Program.headLifts; simp only [h, head_strip]
 kernel_rfl
theorem make_of {P : Program} {rest : List (List Char)} (h : behindMainWord (wordsSigns P.initOrder.toList) = "cut".toList :: rest) : P.make = some .cut := by
 unfold Program.make; rw [h]; exact (if_neg (Bool.eq_false_iff.1 (by kernel_rfl))).trans (if_pos (by kernel_rfl))
theorem enter_of {P : Program} {rest : List (List Char)} (h : behindMainWord (wordsSigns P.initOrder.toList) = "cut".toList :: rest) (h1 : P.laysLater = false) (h2 : P.bearsReflect = false) (h3 : P.doorFits [] = true) : P.mayEnter = true := by
 unfold Program.mayEnter; rw [h]; refine (Bool.or_eq_true _ _).mpr (Or.inr ?_); rw [head_strip, h1, h2, h3]
 kernel_rfl
theorem and_mk {a b : Bool} (h1 : a = true) (h2 : b = true) : (a && b) = true := by rw [h1, h2]; rfl
end Go.Proofs.Ytcmfjjbbcfddpaa
set_option linter.unusedVariables false
namespace Go.Proofs.Ytcmfjjbbcfddpaa
open Go Go.Proofs
def headA : String := "harness 50150e86a9f1810dd1c6d4f08a24b0b46a9330c1497834644108d4a6b04f0286 cut"
def tailC : String := "at codewright/codewrightlaw11.WordCleans codewright/codewrightlaw11.WordMeasures codewright/codewrightlaw11.WordTriangle codewright/codewrightlaw11.WordAdds codewright/codewrightlaw11.WordInner codewright/codewrightlaw11.WordOrder codewright/codewrightlaw11.WordNumbers codewright/codewrightlaw11.WordIndexes codewright/codewrightlaw11.WordSteps codewright/codewrightlaw11.WordWalks codewright/codewrightlaw11.WordBinomials codewright/codewrightlaw11.WordSubsets codewright/codewrightlaw11.WordRanks codewright/codewrightlaw11.WordUnranks"
theorem seat_order : Try.checked.prog.initOrder = headA ++ String.singleton (Char.ofNat 32) ++ tailC := by kernel_rfl
theorem head_words : wordsSigns headA.toList = ["harness".toList, "50150e86a9f1810dd1c6d4f08a24b0b46a9330c1497834644108d4a6b04f0286".toList, "cut".toList] := by kernel_rfl
theorem head_behind (rest : List (List Char)) : behindMainWord (["harness".toList, "50150e86a9f1810dd1c6d4f08a24b0b46a9330c1497834644108d4a6b04f0286".toList, "cut".toList] ++ rest) = "cut".toList :: rest := by kernel_rfl
theorem seat_words : ∃ rest, behindMainWord (wordsSigns Try.checked.prog.initOrder.toList) = "cut".toList :: rest := by
 obtain ⟨rest, h⟩ := roots_of seat_order head_words; exact ⟨rest, by rw [h]; exact head_behind rest⟩
theorem seat_enter : Try.checked.prog.mayEnter = true := by
 obtain ⟨rest, h⟩ := seat_words; exact enter_of h (by kernel_rfl) (by kernel_rfl) (by kernel_rfl)
theorem seat_finals : Try.checked.prog.liftsFinal = false := by
 obtain ⟨rest, h⟩ := seat_words; exact finals_of h
theorem seat_make : Try.checked.prog.make = some .cut := by
 obtain ⟨rest, h⟩ := seat_words; exact make_of h
end Go.Proofs.Ytcmfjjbbcfddpaa
set_option linter.unusedSimpArgs false
set_option linter.unusedVariables false
namespace Go.Proofs.Ytcmfjjbbcfddpaa
open Go.RowKit
def subs : List Nat → List (List Nat)
  | [] => [[]]
  | x :: l => subs l ++ (subs l).map (x :: ·)
theorem subs_filter (p : Nat → Bool) : ∀ l : List Nat, l.filter p ∈ subs l
 | [] => by simp [subs]
 | x :: l => by
  have ih := subs_filter p l; rw [List.filter_cons]; cases h : p x
  ·simp only [Bool.false_eq_true, if_false]; exact List.mem_append_left _ ih
  ·simp only [if_true]; exact List.mem_append_right _ (List.mem_map.2 ⟨_, ih, rfl⟩)
def tailG (n : Nat) (l : List Oper) (ps : List Plan) (m : Nat) (fs : List Nat) : Bool :=
  ps.length == m && Nat.ble m l.length && (List.range l.length).all (fun i => (anyOn l i).all (fun j => Nat.blt j i)) &&
    (List.range l.length).all (fun i => Nat.blt i m || (List.range m).all (fun j => fs.contains j || (reach l 6 (anyOn l i)).contains j)) && (List.range m).all fun i =>
    (match ps[i]? with
     | none => false
     | some p => p.on.all (fun j => (anyOn l i).contains j) && p.slots.all (fun t => (List.range m).all fun k => k == i || dstAt l k != some t || (anyOn l k).contains i)) &&
    (match dstAt l i with
     | none => false
     | some d => Nat.blt d n && (List.range m).all fun k => k == i || dstAt l k != some d)
theorem W.drawXG {P : Program} {n id : Nat} {ro : Option Nat} {df : List Deferred} {l : List Oper} {N : Post} {B : BPost} {L : Fr} {w0 : World} (m : Nat) (fs : List Nat) (al : Nat → Bool) (cp : Nat → Option Nat) (ph : Nat → Value → Value) (ps : List Plan) (bs : List Fr) (V : Nat → Value → World → Prop) (D : Nat → Value → World → Nat → Prop)
  (hm : P.follows .mixedOrders = true) (hB : tailG n l ps m fs = true)
  (hV : ∀ j v w1 w2, V j v w1 → w1.grownBy w2 none → V j v w2)
  (hD : ∀ j v w1 w2, V j v w1 → w1.grownBy w2 none → ∀ g, D j v w2 g → D j v w1 g)
  (hcp : (List.range m).all (fun i => match cp i with | none => true | some j => (anyOn l i).contains j) = true)
  (hobs : obsA P n ro df l al cp ph V D w0 L 0 (l.take m) ps bs)
  (hN2 : ∀ X ∈ subs fs, ∀ (vals : Nat → Value) w', w0.grownBy w' none → (∀ i, i < m → X.contains i = false → V i (vals i) w') → (∀ j k, j ≠ k → j < m → k < m → X.contains j = false → X.contains k = false → al j = true → al k = true → ∀ g, D j (vals j) w' g → ¬ D k (vals k) w' g) → (∀ i j, i < m → X.contains i = false → cp i = some j → vals i = ph i (vals j)) → ∀ q, q = (((List.range l.length).map fun k => Nat.blt k m && !(X.contains k)).filter (!·)).length →
   WA P n ro df l N q ((List.range l.length).map fun k => Nat.blt k m && !(X.contains k)) ((((List.range m).filterMap fun i => if X.contains i = true then none else (dstAt l i).map fun t => (t, vals i))) ++ L) w') : W P n ro df (.region id l.toArray true) N B L w0 := by
 simp only [tailG, Bool.and_eq_true, Bool.or_eq_true, List.all_eq_true, List.mem_range, beq_iff_eq, List.contains_iff_mem] at hB; obtain ⟨⟨⟨⟨hlen, hlm0⟩, hlt0⟩, htail⟩, hB⟩ := hB; have hlm : m ≤ l.length := by simpa [Nat.ble_eq] using hlm0
 refine ⟨fun a ha => wpIn_mono (Q := finE n df N B) (wpIn_region_any hm ?_) fin_of_finE⟩; have hon_lt : ∀ k, k < l.length → ∀ j ∈ anyOn l k, j < k := fun k hk j hj => by simpa [Nat.blt_eq] using hlt0 k hk j hj
 have fin0 : ∀ (c : Nat) (listed : Array Bool) (vals : Nat → Value) (a : Act) (w : World), listed.size = l.length → (listed.toList.filter (!·)).length = c → (∀ k, listed.getD k false = true → k < m) →
   DInv n df l ps V (fun _ => True) w0 L (l.length + 1) (fun k => listed.getD k false) vals a w → Ap al cp ph D (fun k => listed.getD k false) vals w → (∀ k, k < m → k ∉ fs → listed.getD k false = true) → wpAnyIn (wideR ro) 0 P .any l.toArray (finE n df N B) c listed a w := by
  intro c listed vals a w hsz hf hnm I hap hcase; have hXm : ∀ k, k < m → (fs.filter fun k => !listed.getD k false).contains k = !listed.getD k false := fun k hk => by
   cases hb : listed.getD k false with
   | true =>
    cases hc : (fs.filter fun k => !listed.getD k false).contains k with
    | false => rfl
    | true => rw [List.contains_iff_mem, List.mem_filter, hb] at hc; exact absurd hc.2 (by decide)
   | false =>
    show _ = true; rw [List.contains_iff_mem, List.mem_filter, hb]; refine ⟨Classical.byContradiction fun h => ?_, rfl⟩; have := hcase k hk h; rw [hb] at this; cases this
  have hXs := subs_filter (fun k => !listed.getD k false) fs; generalize hXe : (fs.filter fun k => !listed.getD k false) = X at hXm hXs; have hX : listed = ((List.range l.length).map fun k => Nat.blt k m && !(X.contains k)).toArray := by
   apply Array.ext
   ·simp [hsz]
   ·intro k h1 h2; have hk : k < l.length := by omega
    have hv : listed.getD k false = listed[k] := by simp [Array.getD_eq_getD_getElem?, h1]
    rw [← hv]; simp only [List.getElem_toArray, List.getElem_map, List.getElem_range]; rcases Nat.lt_or_ge k m with h | h
    ·rw [hXm k h, Bool.not_not]; have : Nat.blt k m = true := by rw [Nat.blt_eq]; exact h
     rw [this]; rfl
    ·have hb : listed.getD k false = false := by
      cases hb : listed.getD k false with
      | false => rfl
      | true => have := hnm k hb; omega
     have : Nat.blt k m = false := by
      cases hc : Nat.blt k m with
      | false => rfl
      | true => rw [Nat.blt_eq] at hc; omega
     rw [hb, this]; rfl
  have hlk : ∀ k, k < m → X.contains k = false → listed.getD k false = true := fun k hk h => by
   have := hXm k hk; rw [h] at this; cases hb : listed.getD k false with
   | true => rfl
   | false => rw [hb] at this; cases this
  have hw := I.wd (by simp [Array.getD_eq_getD_getElem?, show ¬ l.length + 1 < listed.size by omega]); have hvs : ∀ j, j < m → X.contains j = false → V j (vals j) w := fun j hj hne => I.vs j (hlk j hj hne) (by omega); have hW := hN2 X hXs vals w hw hvs (fun j k hjk hj hk hjf hkf h1 h2 => hap.ap j k hjk (hlk j hj hjf) (hlk k hk hkf) h1 h2) (fun i j hi hif h => hap.cp_ i j (hlk i hi hif) h) c (by rw [← @List.toList_toArray _ ((List.range l.length).map fun k => Nat.blt k m && !(X.contains k)), ← hX]; omega); have hHas : Has n df a ((((List.range m).filterMap fun i => if X.contains i = true then none else (dstAt l i).map fun t => (t, vals i))) ++ L) := by
   refine ⟨I.nd, I.sz, fun t v hv => ?_⟩; rw [lk_append] at hv; cases hc : lk ((List.range m).filterMap fun i => if X.contains i = true then none else (dstAt l i).map fun t => (t, vals i)) t with
   | some u =>
    rw [hc] at hv; cases hv; have := lk_mem hc; simp only [List.mem_filterMap, List.mem_range] at this; obtain ⟨k, hk, he⟩ := this; cases hkf : X.contains k with
    | true => rw [if_pos hkf] at he; cases he
    | false =>
     rw [if_neg (by rw [hkf]; decide)] at he; simp only [Option.map_eq_some_iff] at he; obtain ⟨t', ht', he⟩ := he; cases he; exact I.new k t (hlk k hk hkf) ht'
   | none =>
    rw [hc] at hv; refine I.old t v hv fun k hk hd => ?_; have hkm := hnm k hk; have hkf : X.contains k = false := by rw [hXm k hkm, hk]; rfl
    have hm2 : (t, vals k) ∈ (List.range m).filterMap fun i => if X.contains i = true then none else (dstAt l i).map fun t => (t, vals i) := by
     simp only [List.mem_filterMap, List.mem_range]; exact ⟨k, hkm, by rw [if_neg (by rw [hkf]; decide)]; simp [hd]⟩
    obtain ⟨u, hu⟩ := lk_of_mem hm2; rw [hc] at hu; cases hu
  rw [hX]; exact hW.out a hHas B
 have key : ∀ (fuel : Nat) (listed : Array Bool) (vals : Nat → Value) (a : Act) (w : World), listed.size = l.length → (listed.toList.filter (!·)).length = fuel + (l.length - m) → (∀ k, listed.getD k false = true → k < m) →
   DInv n df l ps V (fun _ => True) w0 L (l.length + 1) (fun k => listed.getD k false) vals a w → Ap al cp ph D (fun k => listed.getD k false) vals w → wpAnyIn (wideR ro) 0 P .any l.toArray (finE n df N B) (fuel + (l.length - m)) listed a w := by
  intro fuel
  induction fuel with
  | zero =>
   intro listed vals a w hsz hf hnm I hap; have hall : ∀ k, k < m → listed.getD k false = true := fun k hk => by
    cases hb : listed.getD k false with
    | true => rfl
    | false =>
     exfalso; have hcnt : ∀ (x : List Bool) (m : Nat), m ≤ x.length → (∀ j, m ≤ j → j < x.length → x[j]? = some false) → (x.length - m) + ((x.take m).filter (!·)).length = (x.filter (!·)).length := by
      intro x m hmx hfalse; have h1 : x = x.take m ++ x.drop m := (List.take_append_drop m x).symm; have h2 : (x.drop m).filter (!·) = x.drop m := by
       rw [List.filter_eq_self]; intro b hb; obtain ⟨j, hj, rfl⟩ := List.mem_iff_getElem.1 hb; have := hfalse (m + j) (by omega) (by simp at hj; omega); rw [List.getElem_drop]; rw [List.getElem?_eq_getElem (by simp at hj; omega)] at this
       simpa using this
      conv => rhs; rw [h1]
      rw [List.filter_append, List.length_append, h2, List.length_drop]; omega
     have hx := hcnt listed.toList m (by simp; omega) (fun j h1 h2 => by
      have hj : j < listed.size := by simpa using h2
      cases hbj : listed.getD j false with
      | true => have := hnm j hbj; omega
      | false =>
       simp [Array.getD_eq_getD_getElem?, hj] at hbj; simp [hj, hbj])
     have hsz2 : listed.toList.length = l.length := by simpa using hsz
     have hzero : ((listed.toList.take m).filter (!·)).length = 0 := by omega
     have hz := filter_zero hzero k (by simp; omega); rw [List.getElem?_take, if_pos hk] at hz; have hk2 : k < listed.size := by omega
     simp [Array.getD_eq_getD_getElem?, hk2] at hb; simp [hk2, hb] at hz
   exact fin0 _ listed vals a w hsz hf hnm I hap (fun k hk _ => hall k hk)
  | succ fuel ih =>
   intro listed vals a w hsz hf hnm I hap; rw [show fuel + 1 + (l.length - m) = (fuel + (l.length - m)) + 1 by omega] at hf ⊢; have hlist : ∀ k, listed.getD k true = false → k < l.length ∧ listed.getD k false = false := fun k hk => by
    rcases Nat.lt_or_ge k listed.size with h | h
    ·simp [Array.getD_eq_getD_getElem?, h] at hk ⊢; exact ⟨by omega, hk⟩
    ·simp [Array.getD_eq_getD_getElem?, Array.getElem?_eq_none h] at hk
   by_cases hcase : ∀ k, k < m → k ∉ fs → listed.getD k false = true
   ·exact fin0 _ listed vals a w hsz hf hnm I hap hcase
   ·refine ⟨?_, ?_⟩
    ·intro hr
     -- the first that has not come up yet is ready
     exfalso; have hex : ∃ k, k < l.length ∧ listed.getD k false = false := by
      by_cases hc : ∃ k, k < l.length ∧ listed.getD k false = false
      ·exact hc
      ·have hfe : listed.toList.filter (!·) = [] := by
        rw [List.filter_eq_nil_iff]; intro b hb; obtain ⟨k, hk, rfl⟩ := List.mem_iff_getElem.1 hb; have hk' : k < listed.size := by simpa using hk
        have : ¬ listed.getD k false = false := fun h => hc ⟨k, by omega, h⟩; simp [Array.getD_eq_getD_getElem?, hk'] at this; simp [this]
       rw [hfe] at hf; simp at hf
     have hmin : ∀ m, (∃ k, k ≤ m ∧ k < l.length ∧ listed.getD k false = false) → ∃ k, k < l.length ∧ listed.getD k false = false ∧ ∀ j, j < k → listed.getD j false = true := by
      intro m
      induction m with
      | zero => rintro ⟨k, hk, h1, h2⟩; exact ⟨k, h1, h2, fun j hj => by omega⟩
      | succ m ihm =>
       rintro ⟨k, hk, h1, h2⟩; by_cases hc : ∃ j, j ≤ m ∧ j < l.length ∧ listed.getD j false = false
       ·exact ihm hc
       ·refine ⟨k, h1, h2, fun j hj => ?_⟩; cases hb : listed.getD j false with
        | true => rfl
        | false => exact absurd ⟨j, by omega, by omega, hb⟩ hc
     obtain ⟨k0, hk0, hk0'⟩ := hex; obtain ⟨k, h1, h2, h3⟩ := hmin k0 ⟨k0, Nat.le_refl _, hk0, hk0'⟩; have hin : k ∈ Region.ready .any l.toArray listed := by
      refine mem_ready.2 ⟨?_, l[k], by simp [h1], fun e he hb => ?_⟩
      ·have : k < listed.size := by omega
       simp [Array.getD_eq_getD_getElem?, this] at h2 ⊢; exact h2
      ·have hon : e.on ∈ anyOn l k := by
        simp only [anyOn, List.getElem?_eq_getElem h1, List.mem_map, List.mem_filter]; exact ⟨e, ⟨by simpa using he, hb⟩, rfl⟩
       exact h3 e.on (hon_lt k h1 _ hon)
     rw [hr] at hin; cases hin
    ·intro i hi; obtain ⟨h1, o, ho, hpre⟩ := mem_ready.1 hi; obtain ⟨hil0, hun⟩ := hlist i h1; have ho' : l[i]? = some o := by simpa using ho
     have hpre' : ∀ j ∈ anyOn l i, listed.getD j false = true := fun j hj => by
      simp only [anyOn, ho', List.mem_map, List.mem_filter] at hj; obtain ⟨e, ⟨he, hb⟩, rfl⟩ := hj; exact hpre e (by simpa using he) hb
     have hil : i < m := by
      rcases Nat.lt_or_ge i m with h | h
      ·exact h
      ·exfalso; refine hcase fun k hk hkf => ?_; rcases htail i hil0 with h2 | h2
       ·simp [Nat.blt_eq] at h2; omega
       ·rcases h2 k hk with h3 | h3
        ·exact absurd h3 hkf
        ·exact reach_all (p := fun k => listed.getD k false = true) I.cl 6 (anyOn l i) hpre' k h3
     obtain ⟨hp, hd⟩ := hB i hil; have hpi : i < ps.length := by omega
     rw [List.getElem?_eq_getElem hpi] at hp; generalize hpe : ps[i] = p at hp; simp only [Bool.and_eq_true, List.all_eq_true, Bool.or_eq_true, List.mem_range, beq_iff_eq, bne_iff_ne, ne_eq, List.contains_iff_mem] at hp; obtain ⟨hon, hsl⟩ := hp; obtain ⟨b, hbs, hsub, hob⟩ := obsA_at (l.take m) ps bs 0 hobs i o p (by rw [List.getElem?_take, if_pos hil]; exact ho') (by rw [List.getElem?_eq_getElem hpi, hpe]); rw [Nat.zero_add] at hob; have hw0 : p.pure = false → w0.grownBy w none := fun _ => I.wd (by
      cases hb : listed.getD (l.length + 1) false with
      | false => rfl
      | true => have := I.lt _ hb; omega)
     have hT := told_at vals p.on b (hob w hw0) (fun j hj => I.vs j (hpre' j (hon j hj)) (by have := hon_lt i hil0 j (hon j hj); omega)); generalize hF : (List.map (fun j => ((dstAt l j).getD 0, vals j)) p.on).reverse ++ b = F at hT; have hdst : ∀ j, j < m → ∃ d, dstAt l j = some d ∧ d < n := fun j hj => by
      have := (hB j hj).2; cases hd : dstAt l j with
      | none => rw [hd] at this; simp at this
      | some d => rw [hd] at this; simp only [Bool.and_eq_true] at this; exact ⟨d, rfl, by simpa [Nat.blt_eq] using this.1⟩
     have hHF : Has n df a (F ++ (List.range n).map fun t => (t, a.tmps.getD t undef)) := by
      refine ⟨I.nd, I.sz, fun t v hv => ?_⟩; rw [lk_append] at hv; cases hc : lk F t with
      | some u =>
       rw [hc] at hv; cases hv; have hm := lk_mem hc; rw [← hF] at hm; rcases List.mem_append.1 hm with hm | hm
       ·simp only [List.mem_reverse, List.mem_map] at hm; obtain ⟨j, hj, he⟩ := hm; cases he; obtain ⟨d, hd', _⟩ := hdst j (hnm j (hpre' j (hon j hj))); rw [hd']; exact I.new j d (hpre' j (hon j hj)) hd'
       ·have hL := sub_at hsub hm; have hts : t ∈ p.slots := by rw [← hbs]; exact List.mem_map.2 ⟨_, hm, rfl⟩
        refine I.old t v hL fun k hk hdk => ?_; rcases hsl t hts k (hnm k hk) with (h | h) | h
        ·subst h; rw [hun] at hk; cases hk
        ·exact h hdk
        ·have := I.cl k hk i h; rw [hun] at this; cases this
      | none =>
       rw [hc] at hv; have hm := lk_mem hv; simp only [List.mem_map, List.mem_range] at hm; obtain ⟨t', ht', he⟩ := hm; cases he; have : t < a.tmps.size := by rw [I.sz]; exact ht'
       simp [Array.getD_eq_getD_getElem?, this]
     have hW := (hT ((List.range n).map fun t => (t, a.tmps.getD t undef))).out a hHF (fun _ _ _ _ => False); have fin' : ∀ a' w', wpListIn (wideR ro) 0 P l.toArray (finE n df (fun _ L' w' => ∃ u, L' = ((dstAt l i).getD 0, u) :: (F ++ (List.range n).map fun t => (t, a.tmps.getD t undef)) ∧ (if p.pure then w' = w else w.grownBy w' none) ∧ V i u w' ∧ (al i = true → ∀ g, D i u w' g → w.heap.size ≤ g ∧ g < w'.heap.size) ∧ (∀ j, cp i = some j → ∃ u', lk (F ++ (List.range n).map fun t => (t, a.tmps.getD t undef)) ((dstAt l j).getD 0) = some u' ∧ u = ph i u')) (fun _ _ _ _ => False)) [] a' w' →
       wpAnyIn (wideR ro) 0 P .any l.toArray (finE n df N B) (fuel + (l.length - m)) (listed.setIfInBounds i true) a' w' := by
      intro a' w' hq; obtain ⟨L', hL', hq⟩ := hq; have hisz : i < listed.size := by omega
      have hset : ∀ k, (listed.setIfInBounds i true).getD k false = true → k = i ∨ listed.getD k false = true := fun k hk => by
       rw [getD_set _ _ _ hisz] at hk; simp only [Bool.or_eq_true, decide_eq_true_eq] at hk; exact hk.imp Eq.symm (fun h => h)
      have hset' : ∀ k, k = i ∨ listed.getD k false = true → (listed.setIfInBounds i true).getD k false = true := fun k hk => by
       rw [getD_set _ _ _ hisz]; simp only [Bool.or_eq_true, decide_eq_true_eq]; exact hk.imp Eq.symm (fun h => h)
      have hcount : ((listed.setIfInBounds i true).toList.filter (!·)).length = fuel + (l.length - m) := by
       have hg : listed.toList[i]? = some false := by
        simp [Array.getD_eq_getD_getElem?, hisz] at hun; simp [hisz, hun]
       have := filter_set listed.toList i hg; rw [Array.toList_setIfInBounds]; omega
      have hm0' : ∀ k, (listed.setIfInBounds i true).getD k false = true → k < m := fun k hk => by
       rcases hset k hk with rfl | h
       ·exact hil
       ·exact hnm k h
      have hcl : ∀ k, (listed.setIfInBounds i true).getD k false = true → ∀ j ∈ anyOn l k, (listed.setIfInBounds i true).getD j false = true := fun k hk j hj => by
       rcases hset k hk with rfl | h
       ·exact hset' j (.inr (hpre' j hj))
       ·exact hset' j (.inr (I.cl k h j hj))
      have hlt : ∀ k, (listed.setIfInBounds i true).getD k false = true → k < l.length := fun k hk => by
       rcases hset k hk with rfl | h
       ·exact hil0
       ·exact I.lt k h
      have hsome : ∀ t, t < n → ∃ v, lk (F ++ (List.range n).map fun t => (t, a.tmps.getD t undef)) t = some v := fun t ht => by
       rw [lk_append]; cases lk F t with
       | some u => exact ⟨u, rfl⟩
       | none => exact ⟨_, lk_full a n t ht⟩
      obtain ⟨u, rfl, hww, hVu, hfr, hcu⟩ := hq; obtain ⟨d, hdd, hdn⟩ := hdst i hil; rw [hdd] at hL' hd; simp only [Option.getD_some] at hL'; simp only [Bool.and_eq_true, List.all_eq_true, List.mem_range, Bool.or_eq_true, beq_iff_eq, bne_iff_ne, ne_eq] at hd; have hsame' : ∀ t v, t ≠ d → a.tmps[t]? = some v → a'.tmps[t]? = some v := fun t v hne hv => by
       have ht : t < n := by have := (Array.getElem?_eq_some_iff.1 hv).1; rw [I.sz] at this; exact this
       obtain ⟨v', hv'⟩ := hsome t ht; have h2 := hHF.at_ t v' hv'; rw [hv] at h2; cases h2; exact hL'.at_ t v (by rw [lk_ne (Ne.symm hne)]; exact hv')
      have hnew : a'.tmps[d]? = some u := hL'.at_ d u (lk_self _ _ _); have hgw : w.grownBy w' none := by
       by_cases hp' : p.pure = true
       ·rw [if_pos hp'] at hww; subst hww; exact ext_refl _
       ·rw [if_neg hp'] at hww; exact hww
      have hVk : ∀ k, listed.getD k false = true → k ≠ l.length + 1 → V k (vals k) w' := fun k h hne => hV k _ w w' (I.vs k h hne) hgw; have hDk : ∀ k, listed.getD k false = true → ∀ g, D k (vals k) w' g → D k (vals k) w g := fun k h => hD k _ w w' (I.vs k h (by have := hnm k h; omega)) hgw; refine ih _ (fun k => if k = i then u else vals k) a' w' (by simpa using hsz) hcount hm0' ⟨hL'.nd, hL'.sz, fun t v ht hk => ?_, fun k t hk ht => ?_, fun h => ?_, fun h => trivial, fun k hk hne => ?_, hcl, hlt⟩ ⟨fun k hk ha g hg => ?_, fun j k hjk hj hk ha1 ha2 g hg => ?_, fun x y hx hc => ?_⟩
      ·exact hsame' t v (fun e' => hk i (hset' i (.inl rfl)) (by rw [hdd, e'])) (I.old t v ht fun k h => hk k (hset' k (.inr h)))
      ·by_cases ek : k = i
       ·subst ek; rw [hdd] at ht; cases ht; simpa using hnew
       ·rw [if_neg ek]; rcases hset k hk with h | h
        ·exact absurd h ek
        ·refine hsame' t _ (fun e' => ?_) (I.new k t h ht); rcases hd.2 k (hnm k h) with h' | h'
         ·exact ek h'
         ·exact h' (by rw [ht, e'])
      ·refine ext_trans (I.wd ?_) hgw; cases hb : listed.getD (l.length + 1) false with
       | false => rfl
       | true => have := I.lt _ hb; omega
      ·by_cases ek : k = i
       ·subst ek; simpa using hVu
       ·rw [if_neg ek]; rcases hset k hk with h | h
        ·exact absurd h ek
        ·exact hVk k h hne
      ·by_cases ek : k = i
       ·subst ek; rw [if_pos rfl] at hg; exact (hfr ha g hg).2
       ·rw [if_neg ek] at hg; exact Nat.lt_of_lt_of_le (hap.lt k ((hset k hk).resolve_left ek) ha g (hDk k ((hset k hk).resolve_left ek) g hg)) hgw.size
      ·by_cases ej : j = i
       ·subst ej; rw [if_pos rfl] at hg; rw [if_neg (Ne.symm hjk)]; have h3 := (hfr ha1 g hg).1; intro h4; have := hap.lt k ((hset k hk).resolve_left (Ne.symm hjk)) ha2 g (hDk k ((hset k hk).resolve_left (Ne.symm hjk)) g h4); omega
       ·rw [if_neg ej] at hg; have hj' := (hset j hj).resolve_left ej; by_cases ek : k = i
        ·subst ek; rw [if_pos rfl]; intro h4; have h3 := (hfr ha2 g h4).1; have := hap.lt j hj' ha1 g (hDk j hj' g hg); omega
        ·rw [if_neg ek]; exact fun h4 => hap.ap j k hjk hj' ((hset k hk).resolve_left ek) ha1 ha2 g (hDk j hj' g hg) (hDk k ((hset k hk).resolve_left ek) g h4)
      ·by_cases ex : x = i
       ·subst ex; obtain ⟨uy, h1, huy⟩ := hcu y hc; have hym : y ∈ anyOn l x := by
         have := List.all_eq_true.1 hcp x (List.mem_range.2 hil); rw [hc] at this
         simpa using this
        have hyd := hpre' y hym; obtain ⟨dy, hdy, _⟩ := hdst y (hnm y hyd); rw [hdy] at h1; have h2 := hHF.at_ _ _ h1; have h3 := I.new y dy hyd hdy; simp only [Option.getD_some] at h2; rw [h3] at h2; have hyx : y ≠ x := fun e => by rw [e, hun] at hyd; cases hyd
        rw [if_pos rfl, if_neg hyx]; rw [huy, Option.some.inj h2]
       ·have hx' := (hset x hx).resolve_left ex; have h1 := hap.cp_ x y hx' hc; have hym : y ∈ anyOn l x := by
         have := List.all_eq_true.1 hcp x (List.mem_range.2 (hnm x hx')); rw [hc] at this
         simpa using this
        have hyd := I.cl x hx' y hym; have hyi : y ≠ i := fun e => by rw [e, hun] at hyd; cases hyd
        rw [if_neg ex, if_neg hyi]; exact h1
     unfold wpOpIn; rw [ho]; simp only [wpListIn] at hW; by_cases hwant : Region.wanted o (yielded l.toArray a.tmps) = true
     ·rw [if_pos hwant] at hW; simp only [hwant, if_true]; exact (oper_wp_mono fin' (fun e a w hne h => by cases e <;> first | exact absurd rfl hne | (obtain ⟨_, _, _, h⟩ := h; exact h.elim)) hW)
     ·rw [if_neg hwant] at hW; simp only [hwant, if_false, Bool.false_eq_true]; exact ⟨fun _ _ => trivial, fin' _ _ hW.2⟩
 have hsz0 : ((Array.replicate l.toArray.size false).toList.filter (!·)).length = m + (l.length - m) := by simp; omega
 have := key m (Array.replicate l.toArray.size false) (fun _ => undef) a { w0 with drawn := w0.drawn + 1 } (by simp) hsz0 (fun k h => by rw [getD_rep] at h; cases h) {
  nd := ha.nd, sz := ha.sz
  old := fun t v h _ => ha.at_ t v h
  new := fun k t h => by rw [getD_rep] at h; cases h
  wd := fun _ => ⟨rfl, rfl, rfl, Nat.le_refl _, fun _ _ _ => rfl⟩
  ws := fun h => trivial
  vs := fun k h => by rw [getD_rep] at h; cases h
  cl := fun k h => by rw [getD_rep] at h; cases h
  lt := fun k h => by rw [getD_rep] at h; cases h } (Ap.mk (fun k h => by rw [getD_rep] at h; cases h) (fun j k _ h => by rw [getD_rep] at h; cases h) (fun i j h => by rw [getD_rep] at h; cases h))
 rw [show m + (l.length - m) = l.toArray.size by simp; omega] at this; exact this
end Go.Proofs.Ytcmfjjbbcfddpaa
set_option linter.unusedSimpArgs false
set_option linter.unusedVariables false
namespace Go.Proofs.Ytcmfjjbbcfddpaa
open Go.RowKit
section
variable {b : Nat} {mr : Option Nat} {w w' : World} {R L : List Rw}
theorem Rows.perm {L L' : List Rw} (hp : L.Perm L') : Rows b mr w L → Rows b mr w L' := by
 induction hp with
 | nil => exact id
 | cons x hp ih => exact fun h => ⟨h.1, fun s hs => h.2.1 s (hp.mem_iff.2 hs), ih h.2.2⟩
 | swap x y l =>
  exact fun h => ⟨h.2.2.1, fun s hs => by
   rcases List.mem_cons.1 hs with rfl | hs
   ·exact (h.2.1 _ (List.mem_cons_self ..)).symm
   ·exact h.2.2.2.1 s hs, h.1, fun s hs => h.2.1 s (List.mem_cons_of_mem _ hs), h.2.2.2.2⟩
 | trans _ _ ih1 ih2 => exact fun h => ih2 (ih1 h)
theorem Rows.cut : ∀ {L : List Rw}, Rows b mr w (L ++ R) → Rows b mr w L ∧ (∀ r ∈ L, ∀ s ∈ R, r.Apt s) ∧ Rows b mr w R
 | [], h => ⟨trivial, fun _ h => by simp at h, h⟩
 | r :: L, h => by
  obtain ⟨h1, h2, h3⟩ := Rows.cut (L := L) h.2.2; refine ⟨⟨h.1, fun s hs => h.2.1 s (List.mem_append_left _ hs), h1⟩, fun q hq s hs => ?_, h3⟩; rcases List.mem_cons.1 hq with rfl | hq
  ·exact h.2.1 s (List.mem_append_right _ hs)
  ·exact h2 q hq s hs
def Rw.isRow : Rw → Bool
  | .row .. => true
  | _ => false
def grp (L : List Rw) : Rw := .mu (fun g => ∃ r ∈ L, r.at_ g) (fun w => Rows 0 none w L)
theorem Own.block {w w' : World} {b e z m c : Nat} {A : Option Addr} {cs : List Value} (h : Own b w e z A m c cs) (hk : ∀ g, bl A = some g → w'.heap[g]? = w.heap[g]?) : Own b w' e z A m c cs :=
 ⟨h.1, h.2.imp id fun ⟨g, cap, cur, h1, h2, h3, h4⟩ => ⟨g, cap, cur, h1, h2, (hk g (by cases h1; rfl)).trans h3, h4⟩⟩
theorem Rows.steady : ∀ {L : List Rw}, (∀ r ∈ L, r.isRow = true) → (∀ g, (∃ r ∈ L, r.at_ g) → w'.heap[g]? = w.heap[g]?) → Rows b mr w L → Rows b mr w' L
 | [], _, _, _ => trivial
 | r :: L, hr, hk, h => by
  refine ⟨?_, h.2.1, Rows.steady (fun q hq => hr q (List.mem_cons_of_mem _ hq)) (fun g ⟨q, hq, hg⟩ => hk g ⟨q, List.mem_cons_of_mem _ hq, hg⟩) h.2.2⟩; have h1 := hr r (List.mem_cons_self ..); have h2 := h.1; cases r with
  | row e z A m c cs => exact ⟨h2.1.block fun g hg => hk g ⟨_, List.mem_cons_self .., hg⟩, h2.2⟩
  | _ => cases h1
theorem Rows.low : ∀ {L : List Rw}, (∀ r ∈ L, r.isRow = true) → Rows b mr w L → Rows 0 none w L
 | [], _, _ => trivial
 | r :: L, hr, h => by
  refine ⟨?_, h.2.1, Rows.low (fun q hq => hr q (List.mem_cons_of_mem _ hq)) h.2.2⟩; have h1 := hr r (List.mem_cons_self ..); have h2 := h.1; cases r with
  | row e z A m c cs => exact ⟨h2.1, fun g _ => .inl (Nat.zero_le _)⟩
  | _ => cases h1
end
section
variable {X : World → Prop} {w0 w w' : World} {mr : Option Nat} {R L : List Rw}
theorem St.perm {L' : List Rw} (h : St X w0 mr w L) (hp : L.Perm L') : St X w0 mr w L' := ⟨h.ext, h.rows.perm hp, h.x, h.cl, h.lt⟩
theorem St.tail {r : Rw} (h : St X w0 mr w (r :: R)) : St X w0 mr w R := ⟨h.ext, h.rows.2.2, h.x, h.cl, h.lt⟩
end
abbrev Hs := Nat → Option Addr × Nat
def up (hs : Hs) (i : Nat) (h : Option Addr × Nat) : Hs := fun j => if j = i then h else hs j
def hcells (hs : Hs) (ls : List (List Int)) : List Value := ls.mapIdx fun i l => .slice (hs i).1 l.length (hs i).2
def inr (eI : Nat) (hs : Hs) (ls : List (List Int)) : List Rw := ls.mapIdx fun i l => .row eI 1 (hs i).1 l.length (hs i).2 (is l)
def mx (eS eI : Nat) (A : Option Addr) (m c : Nat) (hs : Hs) (ls : List (List Int)) : Rw := grp (.row eS 1 A m c (hcells hs ls) :: inr eI hs ls)
theorem hcells_len (hs : Hs) (ls : List (List Int)) : (hcells hs ls).length = ls.length := by simp [hcells]
theorem getD_at {α : Type} {ls : List α} {i : Nat} {d : α} (h : i < ls.length) : ls[i]? = some (ls.getD i d) := by
 rw [List.getElem?_eq_getElem h, List.getD_eq_getElem?_getD, List.getElem?_eq_getElem h]; rfl
theorem hcells_at (hs : Hs) (ls : List (List Int)) {i : Nat} (hi : i < ls.length) : (hcells hs ls)[i]? = some (.slice (hs i).1 (ls.getD i []).length (hs i).2) := by
 simp only [hcells, List.getElem?_mapIdx, getD_at (d := []) hi, Option.map_some]
theorem perm_at {α : Type} : ∀ {l : List α} {i : Nat} {a : α}, l[i]? = some a → l.Perm (a :: l.eraseIdx i)
 | [], _, _, h => by simp at h
 | x :: l, 0, a, h => by cases h; exact List.Perm.refl _
 | x :: l, i + 1, a, h => ((perm_at (l := l) (i := i) (by simpa using h)).cons x).trans (List.Perm.swap _ _ _)
theorem perm_set {α : Type} : ∀ {l : List α} {i : Nat} {a : α}, i < l.length → (a :: l.eraseIdx i).Perm (l.set i a)
 | [], _, _, h => by simp at h
 | x :: l, 0, a, h => List.Perm.refl _
 | x :: l, i + 1, a, h => (List.Perm.swap _ _ _).trans ((perm_set (l := l) (i := i) (by simpa using h)).cons x)
section
variable {X : World → Prop} {w0 w w' : World} {mr : Option Nat} {R : List Rw} {eS eI m c : Nat} {A : Option Addr} {hs : Hs} {ls : List (List Int)}
theorem St.mxrows {i : Nat} (h : St X w0 mr w R) (hi : R[i]? = some (mx eS eI A m c hs ls)) : Rows 0 none w (.row eS 1 A m c (hcells hs ls) :: inr eI hs ls) := (h.rows.get hi).1
theorem St.mxout {i : Nat} (h : St X w0 mr w R) (hi : R[i]? = some (mx eS eI A m c hs ls)) : Rd w.heap.size w 1 A m c (hcells hs ls) := (h.mxrows hi).1.1.rd
theorem Al.mk {w : World} (eI : Nat) (f : Nat → Nat) : ∀ (ls : List (List Int)) (hs : Hs), Rows 0 none w (inr eI hs ls) → Al w (hcells hs ls) ls
 | [], _, _ => trivial
 | l :: ls, hs, h => by
  simp only [inr, List.mapIdx_cons] at h; simp only [hcells, List.mapIdx_cons]; exact ⟨⟨_, _, _, rfl, h.1.1.rd⟩, Al.mk eI f ls (fun i => hs (i + 1)) h.2.2⟩
theorem St.rl {i : Nat} (h : St X w0 mr w R) (hi : R[i]? = some (mx eS eI A m c hs ls)) : Rl w A m c ls := ⟨_, _, h.mxout hi, Al.mk eI id ls hs (h.mxrows hi).2.2⟩
end
end Go.Proofs.Ytcmfjjbbcfddpaa
set_option linter.unusedSimpArgs false
set_option linter.unusedVariables false
namespace Go.Proofs.Ytcmfjjbbcfddpaa
open Go.RowKit
theorem perm_setR {α : Type} {l : List α} {i : Nat} {a b : α} (h : l[i]? = some a) : (b :: l.eraseIdx i).Perm (l.set i b) := perm_set (List.getElem?_eq_some_iff.1 h).1
section
variable {X : World → Prop} {w0 w w' : World} {mr : Option Nat} {R : List Rw} {eS eI m c : Nat} {A : Option Addr} {hs : Hs} {ls : List (List Int)}
theorem St.at_ {i : Nat} {r : Rw} (h : St X w0 mr w R) (hi : R[i]? = some r) : St X w0 mr w (r :: R.eraseIdx i) := h.perm (perm_at hi)
theorem St.back {i : Nat} {r r' : Rw} (hi : R[i]? = some r) (h : St X w0 mr w (r' :: R.eraseIdx i)) : St X w0 mr w (R.set i r') := h.perm (perm_setR hi)
end
section
variable {P : Program} {n : Nat} {ro : Option Nat} {df : List Deferred} {N : Post} {L : Fr} {w w0 : World} {ops : Array Oper} {rest : List Oper}
variable {d : Nat} {ty : TypeId} {pos : String} {af : Array Edge} {X : World → Prop} {mr : Option Nat} {R : List Rw} {eS eI m c : Nat} {A : Option Addr} {hs : Hs} {ls : List (List Int)}
end
end Go.Proofs.Ytcmfjjbbcfddpaa
set_option linter.unusedSimpArgs false
set_option linter.unusedVariables false
namespace Go.Proofs.Ytcmfjjbbcfddpaa
open Go.RowKit
theorem listed_eq (m n : Nat) (h : m ≤ n) : (List.range n).map (fun k => Nat.blt k m && !(([] : List Nat).contains k)) = List.replicate m true ++ List.replicate (n - m) false := by
 apply List.ext_getElem
 ·simp; omega
 intro k h1 h2; simp only [List.getElem_map, List.getElem_range, List.getElem_append, List.length_replicate, List.getElem_replicate, List.contains_nil, Bool.not_false, Bool.and_true]; split
 ·simpa [Nat.blt_eq] using ‹k < m›
 ·rw [Bool.eq_false_iff]; intro hh; exact absurd (Nat.blt_eq.mp hh) ‹_›
theorem listed_cnt (m n : Nat) : ((List.replicate m true ++ List.replicate (n - m) false).filter (!·)).length = n - m := by simp
theorem W.drawX {P : Program} {n id : Nat} {ro : Option Nat} {df : List Deferred} {l : List Oper} {N : Post} {B : BPost} {L : Fr} {w0 : World} (m : Nat) (al : Nat → Bool) (cp : Nat → Option Nat) (ph : Nat → Value → Value) (ps : List Plan) (bs : List Fr) (V : Nat → Value → World → Prop) (D : Nat → Value → World → Nat → Prop)
  (hm : P.follows .mixedOrders = true) (hB : tailB n l ps m = true)
  (hV : ∀ j v w1 w2, V j v w1 → w1.grownBy w2 none → V j v w2)
  (hD : ∀ j v w1 w2, V j v w1 → w1.grownBy w2 none → ∀ g, D j v w2 g → D j v w1 g)
  (hcp : (List.range m).all (fun i => match cp i with | none => true | some j => (anyOn l i).contains j) = true)
  (hobs : obsA P n ro df l al cp ph V D w0 L 0 (l.take m) ps bs)
  (hN : ∀ (vals : Nat → Value) w', w0.grownBy w' none → (∀ i, i < m → V i (vals i) w') → (∀ j k, j ≠ k → j < m → k < m → al j = true → al k = true → ∀ g, D j (vals j) w' g → ¬ D k (vals k) w' g) → (∀ i j, i < m → cp i = some j → vals i = ph i (vals j)) →
   WA P n ro df l N (l.length - m) (List.replicate m true ++ List.replicate (l.length - m) false) ((((List.range m).filterMap fun i => (dstAt l i).map fun t => (t, vals i))) ++ L) w') : W P n ro df (.region id l.toArray true) N B L w0 := by
 have hG : tailG n l ps m [] = true := by
  unfold tailG; unfold tailB at hB; simp only [List.contains_nil, Bool.false_or]; exact hB
 have hlm : m ≤ l.length := by simp only [tailB, Bool.and_eq_true] at hB; simpa [Nat.ble_eq] using hB.1.1.1.2
 refine W.drawXG m [] al cp ph ps bs V D hm hG hV hD hcp hobs fun X hX vals w' hw h1 h2 h3 q hq => ?_; obtain rfl : X = [] := by simpa [subs] using hX
 rw [listed_eq m l.length hlm] at hq ⊢; rw [listed_cnt] at hq; subst hq; have := hN vals w' hw (fun i hi => h1 i hi rfl) (fun j k hjk hj hk => h2 j k hjk hj hk rfl rfl) (fun i j hi => h3 i j hi rfl)
 simpa using this
end Go.Proofs.Ytcmfjjbbcfddpaa
set_option linter.unusedSimpArgs false
set_option linter.unusedVariables false
namespace Go.Proofs.Ytcmfjjbbcfddpaa
open Go.RowKit
theorem WL.mono1 {P : Program} {n : Nat} {ro : Option Nat} {df : List Deferred} {ops : Array Oper} {o : Oper} {N N' : Post} {L : Fr} {w : World} (h : ∀ df L w, N df L w → N' df L w) (hw : WL P n ro df ops [o] N L w) : WL P n ro df ops [o] N' L w :=
  ⟨fun a ha B => by
    have hW := hw.out a ha B
    have f : ∀ e a w, finE n df N B e a w → finE n df N' B e a w := by
      intro e a w hh
      cases e <;> first | exact hh | (obtain ⟨L, h1, h2⟩ := hh; exact ⟨L, h1, h _ _ _ h2⟩)
    simp only [wpListIn] at hW ⊢
    by_cases hwant : Region.wanted o (yielded ops a.tmps) = true
    · rw [if_pos hwant] at hW ⊢
      exact oper_wp_mono (fun a w hh => f _ _ _ hh) (fun e a w _ hh => f _ _ _ hh) hW
    · rw [if_neg hwant] at hW ⊢
      exact ⟨hW.1, f _ _ _ hW.2⟩⟩
def F0 : Nat × Value := (0, .int .i64 0)
def toldF (F : Fr) : List Nat → Fr → Fr
  | [], A => A
  | j :: js, A => toldF F js (F.getD j F0 :: A)
def obV (P : Program) (n : Nat) (ro : Option Nat) (df : List Deferred) (l : List Oper) (F : Fr) (w0 : World) (i : Nat) (o : Oper) (p : Plan) (b : Fr) : Prop :=
  ∀ w, (p.pure = false → w0.grownBy w none) → ∀ R : Fr, WL P n ro df l.toArray [o] (fun _ L' w' => L' = F.getD i F0 :: (toldF F p.on b ++ R) ∧ (if p.pure then w' = w else w.grownBy w' none)) (toldF F p.on b ++ R) w
def obsV (P : Program) (n : Nat) (ro : Option Nat) (df : List Deferred) (l : List Oper) (F : Fr) (w0 : World) (L : Fr) : Nat → List Oper → List Plan → List Fr → Prop
  | i, o :: os, p :: ps, b :: bs => (b.map (·.1) = p.slots ∧ sub b L ∧ obV P n ro df l F w0 i o p b) ∧ obsV P n ro df l F w0 L (i + 1) os ps bs
  | _, [], [], [] => True
  | _, _, _, _ => False
def eqV (F : Fr) : Nat → Value → World → Prop := fun i v _ => v = (F.getD i F0).2
theorem told_of {l : List Oper} {F : Fr} {w : World} {K : Fr → Prop} : ∀ (js : List Nat) (A : Fr), (∀ j ∈ js, (dstAt l j).getD 0 = (F.getD j F0).1) → K (toldF F js A) → told l (eqV F) w K js A
 | [], _, _, h => h
 | j :: js, A, hd, h => by
  intro u hu; have hu : u = (F.getD j F0).2 := hu; have e : ((dstAt l j).getD 0, u) = F.getD j F0 := by rw [hd j List.mem_cons_self, hu]
  rw [e]; exact told_of js _ (fun k hk => hd k (List.mem_cons_of_mem _ hk)) h
theorem obsA_of {P : Program} {n : Nat} {ro : Option Nat} {df : List Deferred} {l : List Oper} {F : Fr} {w0 : World} {L : Fr} {m : Nat} (hd : ∀ j, j < m → (dstAt l j).getD 0 = (F.getD j F0).1) : ∀ (os : List Oper) (ps : List Plan) (bs : List Fr) (i : Nat), i + os.length ≤ m → (∀ p ∈ ps, ∀ j ∈ p.on, j < m) →
  obsV P n ro df l F w0 L i os ps bs → obsA P n ro df l (fun _ => false) (fun _ => none) (fun _ v => v) (eqV F) (fun _ _ _ _ => False) w0 L i os ps bs
 | [], [], [], _, _, _, _ => trivial
 | [], [], _ :: _, _, _, _, h => h.elim
 | [], _ :: _, _, _, _, _, h => h.elim
 | _ :: _, [], _, _, _, _, h => h.elim
 | _ :: _, _ :: _, [], _, _, _, h => h.elim
 | o :: os, p :: ps, b :: bs, i, hi, hp, h => by
  simp only [List.length_cons] at hi; refine ⟨⟨h.1.1, h.1.2.1, fun w hw => told_of _ _ (fun j hj => hd j (hp p List.mem_cons_self j hj)) fun R => WL.mono1 (fun df' L' w' ⟨h1, h2⟩ => ?_) (h.1.2.2 w hw R)⟩, obsA_of hd os ps bs (i + 1) (by omega) (fun q hq => hp q (List.mem_cons_of_mem _ hq)) h.2⟩; refine ⟨(F.getD i F0).2, ?_, h2, rfl, (fun h => Bool.noConfusion h), (fun j h => by cases h)⟩; rw [h1, hd i (by omega)]
theorem front_eq {l : List Oper} {vals : Nat → Value} : ∀ (is : List Nat) (F : Fr), is.map (dstAt l) = F.map (fun q => some q.1) → is.map vals = F.map (·.2) → (is.filterMap fun i => (dstAt l i).map fun t => (t, vals i)) = F
 | [], [], _, _ => rfl
 | [], _ :: _, h, _ => by simp at h
 | _ :: _, [], h, _ => by simp at h
 | i :: is, (t, v) :: F, h, h' => by
  simp only [List.map_cons, List.cons.injEq] at h h'; rw [List.filterMap_cons, h.1]; simp only [Option.map_some]; rw [front_eq is F h.2 h'.2, h'.1]
theorem W.drawV {P : Program} {n id : Nat} {ro : Option Nat} {df : List Deferred} {l : List Oper} {N : Post} {B : BPost} {L : Fr} {w0 : World} (m : Nat) (ps : List Plan) (bs : List Fr) (F : Fr)
  (hm : P.follows .mixedOrders = true) (hB : (tailB n l ps m && ps.all fun p => p.on.all (Nat.blt · m)) = true) (hlen : F.length = m) (hds : (List.range m).map (dstAt l) = F.map (fun q => some q.1))
  (hobs : obsV P n ro df l F w0 L 0 (l.take m) ps bs)
  (hN : ∀ w', w0.grownBy w' none → WA P n ro df l N (l.length - m) (List.replicate m true ++ List.replicate (l.length - m) false) (F ++ L) w') : W P n ro df (.region id l.toArray true) N B L w0 := by
 rw [Bool.and_eq_true] at hB; obtain ⟨hB, hp⟩ := hB; have hd : ∀ j, j < m → (dstAt l j).getD 0 = (F.getD j F0).1 := by
  intro j hj; have h := congrArg (fun x : List (Option Nat) => x[j]?) hds; simp only [List.getElem?_map, List.getElem?_range hj, Option.map_some] at h; rw [List.getElem?_eq_getElem (by omega : j < F.length)] at h; simp only [Option.map_some, Option.some.injEq] at h; rw [List.getD_eq_getElem?_getD, List.getElem?_eq_getElem (by omega : j < F.length), h]; rfl
 refine W.drawX m (fun _ => false) (fun _ => none) (fun _ v => v) ps bs (eqV F) (fun _ _ _ _ => False) hm hB (fun _ _ _ _ h _ => h) (fun _ _ _ _ _ _ _ h => h) (by simp) (obsA_of hd _ _ _ _ (by simp [List.length_take]; omega) (fun p hp' j hj => ?_) hobs) ?_
 ·have := List.all_eq_true.1 hp p hp'
  simpa [Nat.blt_eq] using List.all_eq_true.1 this j hj
 ·intro vals w' hw hV _ _; rw [front_eq (List.range m) F hds ?_]
  ·exact hN w' hw
  ·refine List.ext_getElem (by simp [hlen]) fun k h1 h2 => ?_; simp only [List.getElem_map, List.getElem_range]; simp only [List.length_map, List.length_range] at h1 h2; rw [show vals k = (F.getD k F0).2 from hV k h1, List.getD_eq_getElem?_getD, List.getElem?_eq_getElem h2]; rfl
end Go.Proofs.Ytcmfjjbbcfddpaa
set_option linter.unusedSimpArgs false
set_option linter.unusedVariables false
namespace Go.Proofs.Ytcmfjjbbcfddpaa
open Go.RowKit
theorem dnq {A B E : Prop} {al : Bool} {cp : Option Nat} {K : Nat → Prop} (hA : A) (hB : B) (h1 : al = false) (h2 : cp = none) : A ∧ B ∧ (al = true → E) ∧ (∀ j, cp = some j → K j) := ⟨hA, hB, (fun h => by rw [h1] at h; cases h), (fun j h => by rw [h2] at h; cases h)⟩
theorem WA.step1 {P : Program} {n : Nat} {ro : Option Nat} {df : List Deferred} {l : List Oper} {N : Post} {fuel : Nat} {listed : List Bool} {L : Fr} {w : World} {o : Oper} (i : Nat) (hr : Region.ready .any l.toArray listed.toArray = [i]) (ho : l[i]? = some o)
  (h : WL P n ro df l.toArray [o] (fun _ L' w' => WA P n ro df l N fuel (listed.set i true) L' w') L w) : WA P n ro df l N (fuel + 1) listed L w :=
 WA.step [i] hr rfl fun j hj => by simp only [List.mem_cons, List.not_mem_nil, or_false] at hj; subst hj; exact ⟨_, ho, h⟩
structure RlH (w : World) (A : Option Addr) (n k : Nat) (hs : Hs) (ls : List (List Int)) : Prop where
  out : ∃ B, Rd B w 1 A n k (hcells hs ls)
  at__ : ∀ i, i < ls.length → ∃ B, Rd B w 1 (hs i).1 (ls.getD i []).length (hs i).2 (is (ls.getD i []))
theorem Al.heads {w : World} : ∀ {vs : List Value} {ls : List (List Int)}, Al w vs ls → ∃ hs : Hs, vs = hcells hs ls ∧ ∀ i, i < ls.length → ∃ B, Rd B w 1 (hs i).1 (ls.getD i []).length (hs i).2 (is (ls.getD i []))
 | [], [], _ => ⟨fun _ => (none, 0), rfl, fun i hi => absurd hi (Nat.not_lt_zero i)⟩
 | v :: vs, l :: ls, ⟨⟨A, k, B, h1, h2⟩, h3⟩ => by
  obtain ⟨hs, e, h⟩ := Al.heads h3; refine ⟨fun i => match i with | 0 => (A, k) | i + 1 => hs i, ?_, ?_⟩
  ·rw [hcells, List.mapIdx_cons, h1, e]; rfl
  ·intro i hi; cases i with
   | zero => exact ⟨B, h2⟩
   | succ i => exact h i (by simpa using hi)
 | [], _ :: _, h => h.elim
 | _ :: _, [], h => h.elim
theorem Rl.heads {w : World} {A : Option Addr} {n k : Nat} {ls : List (List Int)} (h : Rl w A n k ls) : ∃ hs : Hs, RlH w A n k hs ls := by
 obtain ⟨B, cs, h1, h2⟩ := h.ex; obtain ⟨hs, e, h3⟩ := h2.heads; subst e; exact ⟨hs, ⟨B, h1⟩, h3⟩
section
variable {w w' : World} {A : Option Addr} {n k : Nat} {hs : Hs} {ls : List (List Int)}
theorem RlH.len (h : RlH w A n k hs ls) : ls.length = n := by
 obtain ⟨B, h1⟩ := h.out; have := h1.len; rw [hcells_len] at this; omega
theorem alh_of : ∀ {ls : List (List Int)} {hs : Hs}, (∀ i, i < ls.length → ∃ B, Rd B w 1 (hs i).1 (ls.getD i []).length (hs i).2 (is (ls.getD i []))) → Al w (hcells hs ls) ls
 | [], _, _ => trivial
 | l :: ls, hs, h => by
  simp only [hcells, List.mapIdx_cons]; obtain ⟨B, h0⟩ := h 0 (by simp); exact ⟨⟨_, _, B, rfl, h0⟩, alh_of (ls := ls) (hs := fun i => hs (i + 1)) (fun i hi => h (i + 1) (by simpa using hi))⟩
theorem RlH.rl (h : RlH w A n k hs ls) : Rl w A n k ls := by
 obtain ⟨B, h1⟩ := h.out; exact ⟨B, _, h1, alh_of h.at__⟩
theorem RlH.ext (h : RlH w A n k hs ls) (hg : w.grownBy w' none) : RlH w' A n k hs ls := by
 obtain ⟨B, h1⟩ := h.out; exact ⟨⟨B, h1.ext hg⟩, fun i hi => by obtain ⟨B, h2⟩ := h.at__ i hi; exact ⟨B, h2.ext hg⟩⟩
theorem RlH.cell (h : RlH w A n k hs ls) {I : Int} (hI : 0 ≤ I ∧ I < (n : Nat)) : w.cell? ((adOf A).add I.toNat) = some (.slice (hs I.toNat).1 (gl ls I).length (hs I.toNat).2) := by
 have hl := h.len; obtain ⟨B, h1⟩ := h.out; exact h1.at_ (hcells_at hs ls (by omega))
theorem RlH.row (h : RlH w A n k hs ls) {I : Int} (hI : 0 ≤ I ∧ I < (n : Nat)) : Rd w.heap.size w 1 (hs I.toNat).1 (gl ls I).length (hs I.toNat).2 (is (gl ls I)) := by
  have hl := h.len
  obtain ⟨B, h1⟩ := h.at__ I.toNat (by omega)
  exact h1.norm
theorem RlH.nil (w : World) : RlH w none 0 0 (fun _ => (none, 0)) [] := ⟨⟨0, Rd.nil (by simp only [maxLen]; omega)⟩, fun i hi => absurd hi (Nat.not_lt_zero i)⟩
end
abbrev Mt := Int × List (List Int)
def gm (ms : List Mt) (i : Int) : Mt := ms.getD i.toNat (0, [])
def Am (w : World) : List Value → List Mt → Prop
  | [], [] => True
  | u :: v :: vs, (c, l) :: ls => u = .int .i64 c ∧ (∃ A k, v = .slice A l.length k ∧ Rl w A l.length k l) ∧ Am w vs ls
  | _, _ => False
structure Rm (w : World) (A : Option Addr) (n k : Nat) (ms : List Mt) : Prop where
  ex : ∃ B cs, Rd B w 2 A n k cs ∧ Am w cs ms
abbrev HM := Nat → (Option Addr × Nat) × Hs
def mcells (H : HM) (ms : List Mt) : List Value := (ms.mapIdx fun i m => [Value.int .i64 m.1, .slice (H i).1.1 m.2.length (H i).1.2]).flatten
structure RmH (w : World) (A : Option Addr) (n k : Nat) (H : HM) (ms : List Mt) : Prop where
  out : ∃ B, Rd B w 2 A n k (mcells H ms)
  at__ : ∀ i, i < ms.length → RlH w (H i).1.1 (ms.getD i (0, [])).2.length (H i).1.2 (H i).2 (ms.getD i (0, [])).2
theorem mcells_cons (H : HM) (m : Mt) (ms : List Mt) : mcells H (m :: ms) = .int .i64 m.1 :: .slice (H 0).1.1 m.2.length (H 0).1.2 :: mcells (fun i => H (i + 1)) ms := by
 simp [mcells, List.mapIdx_cons]
theorem mcells_len : ∀ (ms : List Mt) (H : HM), (mcells H ms).length = ms.length * 2
 | [], _ => rfl
 | m :: ms, H => by rw [mcells_cons, List.length_cons, List.length_cons, mcells_len ms, List.length_cons]; omega
theorem mcells_at : ∀ (ms : List Mt) (H : HM) (i : Nat), i < ms.length → (mcells H ms)[i * 2]? = some (.int .i64 (ms.getD i (0, [])).1) ∧ (mcells H ms)[i * 2 + 1]? = some (.slice (H i).1.1 (ms.getD i (0, [])).2.length (H i).1.2)
 | [], _, i, h => absurd h (Nat.not_lt_zero i)
 | m :: ms, H, 0, _ => by rw [mcells_cons]; exact ⟨rfl, rfl⟩
 | m :: ms, H, i + 1, h => by
  rw [mcells_cons, show (i + 1) * 2 = i * 2 + 1 + 1 by omega]; exact mcells_at ms (fun i => H (i + 1)) i (by simpa using h)
theorem Am.heads {w : World} : ∀ {ms : List Mt} {vs : List Value}, Am w vs ms → ∃ H : HM, vs = mcells H ms ∧ ∀ i, i < ms.length → RlH w (H i).1.1 (ms.getD i (0, [])).2.length (H i).1.2 (H i).2 (ms.getD i (0, [])).2
 | [], [], _ => ⟨fun _ => ((none, 0), fun _ => (none, 0)), rfl, fun i hi => absurd hi (Nat.not_lt_zero i)⟩
 | (c, l) :: ms, u :: v :: vs, ⟨h1, ⟨A, k, h2, h3⟩, h4⟩ => by
  obtain ⟨H, e, h⟩ := Am.heads h4; obtain ⟨hs, h5⟩ := h3.heads; refine ⟨fun i => match i with | 0 => ((A, k), hs) | i + 1 => H i, ?_, ?_⟩
  ·rw [mcells_cons, h1, h2, e]
  ·intro i hi; cases i with
   | zero => exact h5
   | succ i => exact h i (by simpa using hi)
 | (_, _) :: _, [], h => absurd h (by simp [Am])
 | (_, _) :: _, [_], h => absurd h (by simp [Am])
 | [], _ :: _, h => absurd h (by simp [Am])
theorem Rm.heads {w : World} {A : Option Addr} {n k : Nat} {ms : List Mt} (h : Rm w A n k ms) : ∃ H, RmH w A n k H ms := by
 obtain ⟨B, cs, h1, h2⟩ := h.ex; obtain ⟨H, e, h3⟩ := h2.heads; subst e; exact ⟨H, ⟨B, h1⟩, h3⟩
section
variable {w w' : World} {A : Option Addr} {n k : Nat} {H : HM} {ms : List Mt}
theorem RmH.len (h : RmH w A n k H ms) : ms.length = n := by
 obtain ⟨B, h1⟩ := h.out; have := h1.len; rw [mcells_len] at this; omega
theorem RmH.ext (h : RmH w A n k H ms) (hg : w.grownBy w' none) : RmH w' A n k H ms := by
 obtain ⟨B, h1⟩ := h.out; exact ⟨⟨B, h1.ext hg⟩, fun i hi => (h.at__ i hi).ext hg⟩
theorem am_of : ∀ {ms : List Mt} {H : HM}, (∀ i, i < ms.length → RlH w (H i).1.1 (ms.getD i (0, [])).2.length (H i).1.2 (H i).2 (ms.getD i (0, [])).2) → Am w (mcells H ms) ms
 | [], _, _ => trivial
 | (c, l) :: ms, H, h => by
  rw [mcells_cons]; exact ⟨rfl, ⟨_, _, rfl, (h 0 (by simp)).rl⟩, am_of (ms := ms) (H := fun i => H (i + 1)) (fun i hi => h (i + 1) (by simpa using hi))⟩
theorem RmH.rm (h : RmH w A n k H ms) : Rm w A n k ms := by
 obtain ⟨B, h1⟩ := h.out; exact ⟨B, _, h1, am_of h.at__⟩
theorem Rm.ext (h : Rm w A n k ms) (hg : w.grownBy w' none) : Rm w' A n k ms := by
 obtain ⟨H, h⟩ := h.heads; exact (h.ext hg).rm
theorem Rm.len (h : Rm w A n k ms) : ms.length = n := by
 obtain ⟨H, h⟩ := h.heads; exact h.len
theorem RmH.row (h : RmH w A n k H ms) {I : Int} (hI : 0 ≤ I ∧ I < (n : Nat)) : RlH w (H I.toNat).1.1 (gm ms I).2.length (H I.toNat).1.2 (H I.toNat).2 (gm ms I).2 := h.at__ _ (by have := h.len; omega)
theorem RmH.cells (h : RmH w A n k H ms) {I : Int} (hI : 0 ≤ I ∧ I < (n : Nat)) : Rd w.heap.size w 2 (some ((adOf A).add (I.toNat * 2))) 1 1 [.int .i64 (gm ms I).1, .slice (H I.toNat).1.1 (gm ms I).2.length (H I.toNat).1.2] := by
  have hl := h.len
  obtain ⟨B, h1⟩ := h.out
  obtain ⟨ad, e, h2, h3⟩ := (h1.norm).cells (by omega)
  subst e
  obtain ⟨c1, c2⟩ := mcells_at ms H I.toNat (by omega)
  refine ⟨rfl, Nat.le_refl _, by simp [maxLen], fun _ => ⟨_, rfl, by rw [block_add]; exact h2, fun j u hj => ?_⟩⟩
  rw [add_add]
  match j with
  | 0 => cases hj; exact h3 _ _ c1
  | 1 => cases hj; exact h3 _ _ c2
  | j + 2 => simp at hj
end
def vbD : Value → World → Nat → Prop := fun v _ g => vb v = some g
section
variable {w w' : World} {A : Option Addr} {eS eI m c : Nat} {hs : Hs} {ls : List (List Int)} {b : Nat} {mr : Option Nat}
end
section
variable {X : World → Prop} {w0 w w' wS : World} {mr : Option Nat} {R R0 : List Rw} {eS eI m c : Nat} {A : Option Addr} {hs : Hs} {ls : List (List Int)}
theorem St.n0 (h : St X w0 mr w ([] ++ R)) : St X w0 mr w R := h
theorem St.n1 {a : Rw} (h : St X w0 mr w ([a] ++ R)) : St X w0 mr w (a :: R) := h
theorem St.n2 {a b : Rw} (h : St X w0 mr w ([a, b] ++ R)) : St X w0 mr w (a :: b :: R) := h
theorem St.n3 {a b c : Rw} (h : St X w0 mr w ([a, b, c] ++ R)) : St X w0 mr w (a :: b :: c :: R) := h
def Tl (R0 R : List Rw) : Prop := ∃ L, R = L ++ R0
theorem Tl.mem (h : Tl R0 R) {r : Rw} (hr : r ∈ R0) : r ∈ R := by obtain ⟨L, rfl⟩ := h; exact List.mem_append_right _ hr
end
section
variable {P : Program} {n : Nat} {ro : Option Nat} {df : List Deferred} {N : Post} {L : Fr} {w w0 : World} {ops : Array Oper} {rest : List Oper}
variable {d : Nat} {ty : TypeId} {pos : String} {af : Array Edge} {X : World → Prop} {mr : Option Nat} {R : List Rw} {eS eI m c : Nat} {A : Option Addr} {hs : Hs} {ls : List (List Int)}
end
theorem Rl.nm {w : World} {A : Option Addr} {n k : Nat} {ls : List (List Int)} (h : Rl w A n k ls) : Rl w A ls.length k ls := by
 have := h.len; subst this; exact h
theorem Rm.nil (w : World) : Rm w none 0 0 [] := ⟨0, [], Rd.nil (by simp only [maxLen]; omega), trivial⟩
theorem pre_lenL {w : World} {A : Option Addr} {n k : Nat} {ls : List (List Int)} (h : Rl w A n k ls) {J : Int} (hJ : 0 ≤ J ∧ J ≤ (n : Nat)) : J.toNat = (ls.take J.toNat).length := by
 have := h.len; rw [List.length_take]; omega
theorem Al.take {w : World} : ∀ {vs : List Value} {ls : List (List Int)} (k : Nat), Al w vs ls → Al w (vs.take k) (ls.take k)
 | [], [], k, _ => by simp [Al]
 | v :: vs, l :: ls, 0, _ => trivial
 | v :: vs, l :: ls, k + 1, h => ⟨h.1, Al.take k h.2⟩
 | [], _ :: _, _, h => h.elim
 | _ :: _, [], _, h => h.elim
theorem Rl.take {w : World} {A : Option Addr} {n k : Nat} {ls : List (List Int)} (h : Rl w A n k ls) {J : Int} (hJ : 0 ≤ J ∧ J ≤ (n : Nat)) : Rl w A (ls.take J.toNat).length k (ls.take J.toNat) := by
 have hl := pre_lenL h hJ; obtain ⟨B, cs, h1, h2⟩ := h.ex; have h3 := h1.take (k := J.toNat) (by omega); rw [Nat.mul_one] at h3; rw [← hl]; exact ⟨B, _, h3, h2.take _⟩
end Go.Proofs.Ytcmfjjbbcfddpaa
set_option linter.unusedVariables false
namespace Go.Proofs.Ytcmfjjbbcfddpaa
open Go.RowKit
theorem Try.mixed : Try.prog.follows .mixedOrders = true := by kernel_rfl
theorem Try.el3 : Elem Try.prog 3 1 8 (.int .i64 0) := .mk' (by kernel_rfl) rfl (by decide)
theorem Try.el4 : Elem Try.prog 4 1 1 (.bool false) := .mk' (by kernel_rfl) rfl (by decide)
theorem Try.el22 : Elem Try.prog 22 1 24 (.slice none 0 0) := .mk' (by kernel_rfl) rfl (by decide)
theorem Try.el103 : Elem Try.prog 103 1 24 (.slice none 0 0) := .mk' (by kernel_rfl) rfl (by decide)
theorem Try.fla41_0 : fldA Try.prog 41 0 0 = true := by kernel_rfl
theorem Try.fla41_1 : fldA Try.prog 41 1 3 = true := by kernel_rfl
theorem Try.fla41_2 : fldA Try.prog 41 2 4 = true := by kernel_rfl
theorem Try.fla41_3 : fldA Try.prog 41 3 5 = true := by kernel_rfl
theorem Try.el24 : Elem Try.prog 24 3 40 (.agg #[.int .i64 0, .int .i64 0, .slice none 0 0]) := .mk' (by kernel_rfl) rfl (by decide)
theorem Try.agg24 : aggB Try.prog 24 = true := by kernel_rfl
theorem Try.fla24_0 : fldA Try.prog 24 0 0 = true := by kernel_rfl
theorem Try.fla24_1 : fldA Try.prog 24 1 1 = true := by kernel_rfl
theorem Try.fla24_2 : fldA Try.prog 24 2 2 = true := by kernel_rfl
theorem Try.fla93_0 : fldA Try.prog 93 0 0 = true := by kernel_rfl
theorem Try.fla93_1 : fldA Try.prog 93 1 3 = true := by kernel_rfl
theorem Try.fla93_2 : fldA Try.prog 93 2 4 = true := by kernel_rfl
theorem Try.fla93_3 : fldA Try.prog 93 3 5 = true := by kernel_rfl
theorem Try.fla93_4 : fldA Try.prog 93 4 6 = true := by kernel_rfl
theorem Try.bld93 : bldP Try.prog 93 [(0, 3), (3, 1), (4, 1), (5, 1), (6, 1)] #[.int .i64 0, .int .i64 0, .slice none 0 0, .int .i64 0, .slice none 0 0, .slice none 0 0, .slice none 0 0] := ⟨by kernel_rfl, _, Try.underlying93, by kernel_rfl⟩
theorem Try.nm17 : (Try.f17.name == "runtime.NumGoroutine") = false := by kernel_rfl
theorem Try.nm18 : (Try.f18.name == "runtime.NumGoroutine") = false := by kernel_rfl
theorem Try.nm20 : (Try.f20.name == "runtime.NumGoroutine") = false := by kernel_rfl
theorem Try.nm26 : (Try.f26.name == "runtime.NumGoroutine") = false := by kernel_rfl
theorem Try.nm27 : (Try.f27.name == "runtime.NumGoroutine") = false := by kernel_rfl
theorem Try.nm32 : (Try.f32.name == "runtime.NumGoroutine") = false := by kernel_rfl
theorem Try.nm34 : (Try.f34.name == "runtime.NumGoroutine") = false := by kernel_rfl
theorem Try.nm42 : (Try.f42.name == "runtime.NumGoroutine") = false := by kernel_rfl
theorem Try.nm54 : (Try.f54.name == "runtime.NumGoroutine") = false := by kernel_rfl
theorem Try.nm55 : (Try.f55.name == "runtime.NumGoroutine") = false := by kernel_rfl
theorem Try.nm56 : (Try.f56.name == "runtime.NumGoroutine") = false := by kernel_rfl
theorem Try.nm57 : (Try.f57.name == "runtime.NumGoroutine") = false := by kernel_rfl
theorem Try.nm58 : (Try.f58.name == "runtime.NumGoroutine") = false := by kernel_rfl
theorem Try.nm59 : (Try.f59.name == "runtime.NumGoroutine") = false := by kernel_rfl
theorem Try.nm63 : (Try.f63.name == "runtime.NumGoroutine") = false := by kernel_rfl
theorem Try.nm64 : (Try.f64.name == "runtime.NumGoroutine") = false := by kernel_rfl
theorem Try.nm74 : (Try.f74.name == "runtime.NumGoroutine") = false := by kernel_rfl
theorem Try.nm79 : (Try.f79.name == "runtime.NumGoroutine") = false := by kernel_rfl
theorem Try.nm80 : (Try.f80.name == "runtime.NumGoroutine") = false := by kernel_rfl
theorem Try.nm81 : (Try.f81.name == "runtime.NumGoroutine") = false := by kernel_rfl
theorem Try.nm82 : (Try.f82.name == "runtime.NumGoroutine") = false := by kernel_rfl
theorem Try.nm83 : (Try.f83.name == "runtime.NumGoroutine") = false := by kernel_rfl
theorem Try.nm84 : (Try.f84.name == "runtime.NumGoroutine") = false := by kernel_rfl
theorem Try.nm85 : (Try.f85.name == "runtime.NumGoroutine") = false := by kernel_rfl
theorem Try.nm86 : (Try.f86.name == "runtime.NumGoroutine") = false := by kernel_rfl
theorem Try.nm87 : (Try.f87.name == "runtime.NumGoroutine") = false := by kernel_rfl
theorem Try.nm89 : (Try.f89.name == "runtime.NumGoroutine") = false := by kernel_rfl
theorem Try.nm91 : (Try.f91.name == "runtime.NumGoroutine") = false := by kernel_rfl
theorem Try.nm92 : (Try.f92.name == "runtime.NumGoroutine") = false := by kernel_rfl
theorem Try.nm96 : (Try.f96.name == "runtime.NumGoroutine") = false := by kernel_rfl
theorem Try.nm97 : (Try.f97.name == "runtime.NumGoroutine") = false := by kernel_rfl
theorem Try.nm98 : (Try.f98.name == "runtime.NumGoroutine") = false := by kernel_rfl
theorem Try.nm99 : (Try.f99.name == "runtime.NumGoroutine") = false := by kernel_rfl
theorem Try.nm100 : (Try.f100.name == "runtime.NumGoroutine") = false := by kernel_rfl
theorem Try.nm101 : (Try.f101.name == "runtime.NumGoroutine") = false := by kernel_rfl
theorem Try.nm102 : (Try.f102.name == "runtime.NumGoroutine") = false := by kernel_rfl
theorem Try.nm103 : (Try.f103.name == "runtime.NumGoroutine") = false := by kernel_rfl
theorem Try.nm104 : (Try.f104.name == "runtime.NumGoroutine") = false := by kernel_rfl
theorem Try.nm105 : (Try.f105.name == "runtime.NumGoroutine") = false := by kernel_rfl
theorem Try.nm107 : (Try.f107.name == "runtime.NumGoroutine") = false := by kernel_rfl
theorem Try.nm108 : (Try.f108.name == "runtime.NumGoroutine") = false := by kernel_rfl
theorem Try.nm109 : (Try.f109.name == "runtime.NumGoroutine") = false := by kernel_rfl
theorem Try.nm110 : (Try.f110.name == "runtime.NumGoroutine") = false := by kernel_rfl
theorem Try.nm111 : (Try.f111.name == "runtime.NumGoroutine") = false := by kernel_rfl
theorem Try.nm112 : (Try.f112.name == "runtime.NumGoroutine") = false := by kernel_rfl
theorem Try.nm113 : (Try.f113.name == "runtime.NumGoroutine") = false := by kernel_rfl
theorem Try.nm114 : (Try.f114.name == "runtime.NumGoroutine") = false := by kernel_rfl
theorem Try.nm115 : (Try.f115.name == "runtime.NumGoroutine") = false := by kernel_rfl
theorem Try.nm116 : (Try.f116.name == "runtime.NumGoroutine") = false := by kernel_rfl
theorem Try.nm117 : (Try.f117.name == "runtime.NumGoroutine") = false := by kernel_rfl
end Go.Proofs.Ytcmfjjbbcfddpaa
namespace Go.Proofs.Ytcmfjjbbcfddpaa
open Go.RowKit
abbrev XA24_0 := Try.fla24_0
abbrev XA24_1 := Try.fla24_1
abbrev XA24_2 := Try.fla24_2
abbrev XA41_0 := Try.fla41_0
abbrev XA41_1 := Try.fla41_1
abbrev XA41_2 := Try.fla41_2
abbrev XA41_3 := Try.fla41_3
abbrev XA93_0 := Try.fla93_0
abbrev XA93_1 := Try.fla93_1
abbrev XA93_2 := Try.fla93_2
abbrev XA93_3 := Try.fla93_3
abbrev XA93_4 := Try.fla93_4
abbrev XB93 := Try.bld93
abbrev XE103 := Try.el103
abbrev XE22 := Try.el22
abbrev XE24 := Try.el24
abbrev XE3 := Try.el3
abbrev XE4 := Try.el4
abbrev XF100 := Try.func100
abbrev XF101 := Try.func101
abbrev XF102 := Try.func102
abbrev XF103 := Try.func103
abbrev XF104 := Try.func104
abbrev XF105 := Try.func105
abbrev XF107 := Try.func107
abbrev XF108 := Try.func108
abbrev XF109 := Try.func109
abbrev XF110 := Try.func110
abbrev XF111 := Try.func111
abbrev XF112 := Try.func112
abbrev XF113 := Try.func113
abbrev XF114 := Try.func114
abbrev XF115 := Try.func115
abbrev XF116 := Try.func116
abbrev XF117 := Try.func117
abbrev XF17 := Try.func17
abbrev XF18 := Try.func18
abbrev XF20 := Try.func20
abbrev XF26 := Try.func26
abbrev XF27 := Try.func27
abbrev XF32 := Try.func32
abbrev XF34 := Try.func34
abbrev XF42 := Try.func42
abbrev XF54 := Try.func54
abbrev XF55 := Try.func55
abbrev XF56 := Try.func56
abbrev XF57 := Try.func57
abbrev XF58 := Try.func58
abbrev XF59 := Try.func59
abbrev XF63 := Try.func63
abbrev XF64 := Try.func64
abbrev XF74 := Try.func74
abbrev XF79 := Try.func79
abbrev XF80 := Try.func80
abbrev XF81 := Try.func81
abbrev XF82 := Try.func82
abbrev XF83 := Try.func83
abbrev XF84 := Try.func84
abbrev XF85 := Try.func85
abbrev XF86 := Try.func86
abbrev XF87 := Try.func87
abbrev XF89 := Try.func89
abbrev XF91 := Try.func91
abbrev XF92 := Try.func92
abbrev XF96 := Try.func96
abbrev XF97 := Try.func97
abbrev XF98 := Try.func98
abbrev XF99 := Try.func99
abbrev XG24 := Try.agg24
abbrev XN100 := Try.nm100
abbrev XN101 := Try.nm101
abbrev XN102 := Try.nm102
abbrev XN103 := Try.nm103
abbrev XN104 := Try.nm104
abbrev XN105 := Try.nm105
abbrev XN107 := Try.nm107
abbrev XN108 := Try.nm108
abbrev XN109 := Try.nm109
abbrev XN110 := Try.nm110
abbrev XN111 := Try.nm111
abbrev XN112 := Try.nm112
abbrev XN113 := Try.nm113
abbrev XN114 := Try.nm114
abbrev XN115 := Try.nm115
abbrev XN116 := Try.nm116
abbrev XN117 := Try.nm117
abbrev XN17 := Try.nm17
abbrev XN18 := Try.nm18
abbrev XN20 := Try.nm20
abbrev XN26 := Try.nm26
abbrev XN27 := Try.nm27
abbrev XN32 := Try.nm32
abbrev XN34 := Try.nm34
abbrev XN42 := Try.nm42
abbrev XN54 := Try.nm54
abbrev XN55 := Try.nm55
abbrev XN56 := Try.nm56
abbrev XN57 := Try.nm57
abbrev XN58 := Try.nm58
abbrev XN59 := Try.nm59
abbrev XN63 := Try.nm63
abbrev XN64 := Try.nm64
abbrev XN74 := Try.nm74
abbrev XN79 := Try.nm79
abbrev XN80 := Try.nm80
abbrev XN81 := Try.nm81
abbrev XN82 := Try.nm82
abbrev XN83 := Try.nm83
abbrev XN84 := Try.nm84
abbrev XN85 := Try.nm85
abbrev XN86 := Try.nm86
abbrev XN87 := Try.nm87
abbrev XN89 := Try.nm89
abbrev XN91 := Try.nm91
abbrev XN92 := Try.nm92
abbrev XN96 := Try.nm96
abbrev XN97 := Try.nm97
abbrev XN98 := Try.nm98
abbrev XN99 := Try.nm99
abbrev XU103 := Try.underlying103
abbrev XU22 := Try.underlying22
abbrev XU25 := Try.underlying25
abbrev XU3 := Try.underlying3
abbrev XU4 := Try.underlying4
end Go.Proofs.Ytcmfjjbbcfddpaa
set_option linter.unusedSimpArgs false
set_option linter.unusedVariables false
set_option maxRecDepth 4000
set_option maxHeartbeats 4000000
namespace Go.Proofs.Ytcmfjjbbcfddpaa
open Go.RowKit
def V_okIf (b : Bool) (Q : Int → Prop) : Prop :=
  ((b = true) → (Q (0 : Int))) ∧ (b = false → (Q (1 : Int)))
theorem ok_okIf {w : World} {Q : Int → Prop} {b : Bool}  (hv : V_okIf b Q) :
   Calls Try.prog 97 #[.bool b] w fun e w' => ∃ v Qr, e = .returned v ∧ w.grownBy w' none ∧ Rows w.heap.size none w' Qr ∧ News w.heap.size Qr ∧ ∃ (r0 : Int), v = .int .i64 r0 ∧ Qr = [] ∧ Q r0 := by
 refine calls_swap <| calls_of_W (vs := [.bool b]) [2] XF97 rfl rfl rfl rfl ?_; have hS := St.start w; unfold V_okIf at hv; refine W.seq <| W.region <| WL.assign rfl rfl <| WL.done <| W.seq <| W.seq <| W.region <| WL.move rfl rfl <| WL.done <| W.cond2 rfl (fun c11 => ?_) (fun c11 => ?_)
 ·have hv := hv.1 (c11); refine W.seq <| W.region <| WL.assign rfl rfl <| WL.done <| W.ret <| ⟨_, rfl, Fin.nil ?_⟩
  exact ⟨_, hS.ext, (hS.pick [] rfl).rows, News.of (hS.pick [] rfl).rows rfl, ⟨(0 : Int), rfl, rfl, hv⟩⟩
 have hv := hv.2 (c11); refine W.skip <| W.seq <| W.region <| WL.assign rfl rfl <| WL.done <| W.ret <| ⟨_, rfl, Fin.nil ?_⟩
 exact ⟨_, hS.ext, (hS.pick [] rfl).rows, News.of (hS.pick [] rfl).rows rfl, ⟨(1 : Int), rfl, rfl, hv⟩⟩
def V_leastDivisor (x : Int) (Q : Int → Prop) : Prop :=
  ∃ (I14 : Int → Prop) (μ15 : Int → Nat), I14 (2 : Int) ∧ ∀ (z13 : Int), (I14 z13 → ((I64 (z13 * z13)) ∧ ((((z13 * z13) ≤ x) → ((z13 ≠ 0) ∧ ((((x.tmod z13) = (0 : Int)) → Q z13) ∧ (¬ ((x.tmod z13) = (0 : Int)) → ((I64 (z13 + (1 : Int))) ∧ (I14 (z13 + (1 : Int)) ∧ μ15 (z13 + (1 : Int)) < μ15 z13)))))) ∧ (¬ ((z13 * z13) ≤ x) → Q x))))
theorem ok_leastDivisor {w : World} {Q : Int → Prop} {x : Int}  (hv : V_leastDivisor x Q) :
   Calls Try.prog 107 #[.int .i64 x] w fun e w' => ∃ v Qr, e = .returned v ∧ w.grownBy w' none ∧ Rows w.heap.size none w' Qr ∧ News w.heap.size Qr ∧ ∃ (r0 : Int), v = .int .i64 r0 ∧ Qr = [] ∧ Q r0 := by
 refine calls_swap <| calls_of_W (vs := [.int .i64 x]) [2] XF107 rfl rfl rfl rfl ?_; have hS := St.start w; unfold V_leastDivisor at hv; refine W.seq <| W.region <| WL.assign rfl rfl <| WL.done <| W.seq <| W.seq <| W.region <| WL.assign rfl rfl <| WL.done <| W.block ?_; obtain ⟨I14, μ15, hv, hk22⟩ := hv; refine W.loop (σ := Int) (fun z13 w1 => I14 z13 ∧ St TT w none w1 []) (fun z13 => [(0, .int .i64 x), (2, .int .i64 (0 : Int)), (3, .int .i64 z13)]) (fun z13 => μ15 z13) (2 : Int) ⟨hv, hS⟩ ⟨rfl, rfl, rfl, trivial⟩ ?_; rintro z13 w16 ⟨hv, hS⟩; have hv := hk22 z13 hv; refine W.seq <| W.seq <| W.region <| WL.move rfl rfl <| WL.move rfl rfl ?_; obtain ⟨o17, hv⟩ := hv; refine WL.mul (r := (z13 * z13)) rfl rfl (wr o17) rfl <| WL.move rfl rfl <| WL.leqD rfl rfl rfl <| WL.done <| W.cond2 rfl (fun c18 => ?_) (fun c18 => ?_)
 ·have hv := hv.1 (of_decide_eq_true c18); refine W.skip <| W.seq <| W.block <| W.seq <| W.region <| WL.move rfl rfl <| WL.move rfl rfl ?_; obtain ⟨o19, hv⟩ := hv; refine WL.rem (r := (x.tmod z13)) rfl rfl o19 rfl rfl <| WL.eqlD rfl rfl rfl <| WL.done <| W.cond2 rfl (fun c20 => ?_) (fun c20 => ?_)
  ·have hv := hv.1 (of_decide_eq_true c20); refine W.seq <| W.region <| WL.move rfl rfl <| WL.assign rfl rfl <| WL.done <| W.ret <| ⟨_, rfl, Fin.nil ?_⟩
   exact ⟨_, hS.ext, (hS.pick [] rfl).rows, News.of (hS.pick [] rfl).rows rfl, ⟨z13, rfl, rfl, hv⟩⟩
  have hv := hv.2 (of_decide_eq_false c20); refine W.skip <| W.region <| WL.move rfl rfl ?_; obtain ⟨o21, hv⟩ := hv; refine WL.add (r := (z13 + (1 : Int))) rfl rfl (wr o21) rfl <| WL.assign rfl rfl <| WL.done ?_; exact ⟨(z13 + (1 : Int)), ⟨rfl, rfl, rfl, trivial⟩, hv.2, rfl, hv.1, hS⟩
 have hv := hv.2 (of_decide_eq_false c18); refine W.exit <| W.seq <| W.region <| WL.move rfl rfl <| WL.assign rfl rfl <| WL.done <| W.ret <| ⟨_, rfl, Fin.nil ?_⟩
 exact ⟨_, hS.ext, (hS.pick [] rfl).rows, News.of (hS.pick [] rfl).rows rfl, ⟨x, rfl, rfl, hv⟩⟩
def V_isPrime (x : Int) (Q : Bool → Prop) : Prop :=
  (((2 : Int) ≤ x) → (V_leastDivisor x (fun r13 => Q (decide (r13 = x))))) ∧ (¬ ((2 : Int) ≤ x) → Q false)
theorem ok_isPrime {w : World} {Q : Bool → Prop} {x : Int}  (hv : V_isPrime x Q) :
   Calls Try.prog 96 #[.int .i64 x] w fun e w' => ∃ v Qr, e = .returned v ∧ w.grownBy w' none ∧ Rows w.heap.size none w' Qr ∧ News w.heap.size Qr ∧ ∃ (r0 : Bool), v = .bool r0 ∧ Qr = [] ∧ Q r0 := by
 refine calls_swap <| calls_of_W (vs := [.int .i64 x]) [2] XF96 rfl rfl rfl rfl ?_; have hS := St.start w; unfold V_isPrime at hv; refine W.seq <| W.region <| WL.assign rfl rfl <| WL.done <| W.seq <| W.region <| WL.move rfl rfl <| WL.geqD rfl rfl rfl <| WL.move rfl rfl ?_; by_cases g11 : (2 : Int) ≤ x
 ·have hv := hv.1 g11; rw [decide_eq_true g11]; refine WL.take rfl <| WL.move rfl rfl <| WL.take rfl <| SL.call hS (ok_leastDivisor  hv) XF107 rfl XN107 rfl rfl ?_; rintro _ _ w12 ⟨r13, rfl, rfl, hv⟩ hGw12 hS; have hS := hS.n0; refine WL.take rfl <| WL.move rfl rfl <| WL.take rfl <| WL.eqlD rfl rfl rfl <| WL.pick rfl rfl rfl <| WL.assign rfl rfl <| WL.done <| W.ret <| ⟨_, rfl, Fin.nil ?_⟩
  exact ⟨_, hS.ext, (hS.pick [] rfl).rows, News.of (hS.pick [] rfl).rows rfl, ⟨(decide (r13 = x)), rfl, rfl, hv⟩⟩
 have hv := hv.2 g11; rw [decide_eq_false g11]; refine WL.pass rfl rfl rfl <| WL.pass rfl rfl rfl <| WL.pass rfl rfl rfl <| WL.pass rfl rfl rfl <| WL.pick rfl rfl rfl <| WL.assign rfl rfl <| WL.done <| W.ret <| ⟨_, rfl, Fin.nil ?_⟩
 exact ⟨_, hS.ext, (hS.pick [] rfl).rows, News.of (hS.pick [] rfl).rows rfl, ⟨false, rfl, rfl, hv⟩⟩
def V_order (Pf : Int) (Mf : Int) (mf : List Int) (Q : Int → Prop) : Prop :=
  ∃ J14 : Int → Prop, (∃ (I21 : Int → Int → Prop) (μ22 : Int → Int → Nat), I21 (1 : Int) (0 : Int) ∧ ∀ (z19 : Int) (z20 : Int), (I21 z19 z20 → (((z20 < Mf) → (((z19 ≤ (256 : Int)) → ((I64 (z19 * Pf)) ∧ ((I64 (z20 + (1 : Int))) ∧ (I21 (z19 * Pf) (z20 + (1 : Int)) ∧ μ22 (z19 * Pf) (z20 + (1 : Int)) < μ22 z19 z20)))) ∧ (¬ (z19 ≤ (256 : Int)) → J14 z19))) ∧ (¬ (z20 < Mf) → J14 z19)))) ∧ ∀ (z13 : Int), (J14 z13 → Q z13)
theorem ok_order {w : World} {Q : Int → Prop} {Pf : Int} {Mf : Int} {mf : List Int} {Bf : Nat} {Af : Option Addr} {nf kf : Nat} (hf : Rd Bf w 1 Af nf kf (is mf)) (hv : V_order Pf Mf mf Q) :
   Calls Try.prog 81 #[.agg #[.int .i64 Pf, .int .i64 Mf, .slice Af nf kf]] w fun e w' => ∃ v Qr, e = .returned v ∧ w.grownBy w' none ∧ Rows w.heap.size none w' Qr ∧ News w.heap.size Qr ∧ ∃ (r0 : Int), v = .int .i64 r0 ∧ Qr = [] ∧ Q r0 := by
 have hnf := hf.ilen; subst hnf; refine calls_swap <| calls_of_W (vs := [.agg #[.int .i64 Pf, .int .i64 Mf, .slice Af mf.length kf]]) [2] XF81 rfl rfl rfl rfl ?_; have hS := St.start w; unfold V_order at hv; refine W.seq <| W.region <| SL.box (z := 3) (cs := [.int .i64 Pf, .int .i64 Mf, .slice Af mf.length kf]) hS rfl rfl rfl rfl ?_; intro g11 w12 hS; refine WL.assign rfl rfl <| WL.done <| W.seq <| W.region <| WL.assign rfl rfl <| WL.done <| W.seq <| W.seq <| W.region <| WL.assign rfl rfl <| WL.done ?_; obtain ⟨J14, hv, hk30⟩ := hv; refine W.cutN (σ := Int) (fun z13 w1 => J14 z13 ∧ St TT w none w1 [.row 24 3 (some ⟨g11, 0, none⟩) 1 1 [.int .i64 Pf, .int .i64 Mf, .slice Af mf.length kf]]) (fun z13 => [(2, .int .i64 (0 : Int)), (3, .int .i64 z13)]) ?_ ?_
 ·refine W.block ?_; obtain ⟨I21, μ22, hv, hk28⟩ := hv; refine W.loop (σ := Int × Int) (fun q w1 => match q with | (z19, z20) => I21 z19 z20 ∧ St TT w none w1 [.row 24 3 (some ⟨g11, 0, none⟩) 1 1 [.int .i64 Pf, .int .i64 Mf, .slice Af mf.length kf]]) (fun q => match q with | (z19, z20) => [(1, .pointer (some ⟨g11, 0, none⟩)), (2, .int .i64 (0 : Int)), (3, .int .i64 z19), (4, .int .i64 z20)]) (fun q => match q with | (z19, z20) => μ22 z19 z20) ((1 : Int), (0 : Int)) ⟨hv, hS⟩ ⟨rfl, rfl, rfl, rfl, trivial⟩ ?_; rintro ⟨z19, z20⟩ w23 ⟨hv, hS⟩; have hv := hk28 z19 z20 hv; refine W.seq <| W.seq <| W.region <| WL.move rfl rfl <| WL.fieldA (off := 1) XA24_1 rfl rfl <| WL.load XU3 rfl rfl (Own.vcells (hS.own (i := 0) rfl) 1 _ rfl) rfl <| WL.lssD rfl rfl rfl <| WL.move rfl rfl ?_; by_cases g24 : z20 < Mf
  ·have hv := hv.1 g24; rw [decide_eq_true g24]; refine WL.take rfl <| WL.move rfl rfl <| WL.take rfl <| WL.leqD rfl rfl rfl <| WL.pick rfl rfl rfl <| WL.done <| W.cond2 rfl (fun c25 => ?_) (fun c25 => ?_)
   ·have hv := hv.1 (of_decide_eq_true c25); refine W.skip <| W.seq <| W.block <| W.region <| WL.move rfl rfl <| WL.fieldA (off := 0) XA24_0 rfl rfl <| WL.load XU3 rfl rfl (Own.vcells (hS.own (i := 0) rfl) 0 _ rfl) rfl ?_; obtain ⟨o26, hv⟩ := hv; refine WL.mul (r := (z19 * Pf)) rfl rfl (wr o26) rfl <| WL.assign rfl rfl <| WL.done <| W.region <| WL.move rfl rfl ?_; obtain ⟨o27, hv⟩ := hv; refine WL.add (r := (z20 + (1 : Int))) rfl rfl (wr o27) rfl <| WL.assign rfl rfl <| WL.done ?_; exact ⟨((z19 * Pf), (z20 + (1 : Int))), ⟨rfl, rfl, rfl, rfl, trivial⟩, hv.2, rfl, hv.1, hS⟩
   have hv := hv.2 (of_decide_eq_false c25); refine W.exit ?_; exact ⟨z19, ⟨rfl, rfl, trivial⟩, rfl, hv, hS⟩
  have hv := hv.2 g24; rw [decide_eq_false g24]; refine WL.pass rfl rfl rfl <| WL.pass rfl rfl rfl <| WL.pick rfl rfl rfl <| WL.done <| W.condF rfl <| W.exit ?_; exact ⟨z19, ⟨rfl, rfl, trivial⟩, rfl, hv, hS⟩
 rintro z13 w29 ⟨hv, hS⟩; have hv := hk30 z13 hv; refine W.seq <| W.region <| WL.move rfl rfl <| WL.assign rfl rfl <| WL.done <| W.ret <| ⟨_, rfl, Fin.nil ?_⟩
 exact ⟨_, hS.ext, (hS.pick [] rfl).rows, News.of (hS.pick [] rfl).rows rfl, ⟨z13, rfl, rfl, hv⟩⟩
def V_digits (p : Int) (n : Int) (x : Int) (Q : List Int → Prop) : Prop :=
  (0 ≤ n ∧ n * 8 ≤ 281474976710656 ∧ n ≤ 281474976710656) ∧ (∃ (I24 : List Int → Int → Int → Prop) (μ25 : List Int → Int → Int → Nat), I24 (List.replicate n.toNat (0 : Int)) x (0 : Int) ∧ ∀ (x21 : List Int) (z22 : Int) (z23 : Int), (I24 x21 z22 z23 → (((z23 < ((n.toNat : Nat) : Int)) → ((p ≠ 0) ∧ ((0 ≤ z23 ∧ z23 < (n.toNat : Nat)) ∧ ((p ≠ 0 ∧ I64 (z22.tdiv p)) ∧ ((I64 (z23 + (1 : Int))) ∧ (I24 (si x21 z23 (z22.tmod p)) (z22.tdiv p) (z23 + (1 : Int)) ∧ μ25 (si x21 z23 (z22.tmod p)) (z22.tdiv p) (z23 + (1 : Int)) < μ25 x21 z22 z23)))))) ∧ (¬ (z23 < ((n.toNat : Nat) : Int)) → Q x21))))
theorem ok_digits {w : World} {Q : List Int → Prop} {p : Int} {n : Int} {x : Int}  (hv : V_digits p n x Q) :
  Calls Try.prog 110 #[.int .i64 p, .int .i64 n, .int .i64 x] w fun e w' => ∃ v Qr, e = .returned v ∧ w.grownBy w' none ∧ Rows w.heap.size none w' Qr ∧ News w.heap.size Qr ∧ ∃ (x : List Int)  (A : Option Addr) (c : Nat), v = .slice A x.length c ∧ Qr = [.row 3 1 A x.length c (is x)] ∧ Q x := by
 refine calls_swap <| calls_of_W (vs := [.int .i64 p, .int .i64 n, .int .i64 x]) [6] XF110 rfl rfl rfl rfl ?_; have hS := St.start w; unfold V_digits at hv; refine W.seq <| W.region <| WL.assign rfl rfl <| WL.done <| W.seq <| W.region <| WL.move rfl rfl ?_; obtain ⟨o11, hv⟩ := hv; refine SL.make (J := n) hS XU22 XE3 rfl rfl o11 (made_is _) rfl ?_; intro A12 w13 hS; refine WL.assign rfl rfl <| WL.done <| W.seq <| W.seq <| W.region <| WL.move rfl rfl <| WL.len XU22 rfl rfl <| WL.move rfl rfl <| WL.done <| W.block ?_; obtain ⟨I24, μ25, hv, hk33⟩ := hv; refine W.loop (σ := List Int × Int × Int) (fun q w1 => match q with | (x21, z22, z23) => I24 x21 z22 z23 ∧ St TT w none w1 [.row 3 1 A12 n.toNat n.toNat (is x21)]) (fun q => match q with | (x21, z22, z23) => [(0, .int .i64 p), (2, .int .i64 z22), (6, .slice none 0 0), (7, .slice A12 n.toNat n.toNat), (12, .int .i64 ((n.toNat : Nat) : Int)), (13, .int .i64 z23)]) (fun q => match q with | (x21, z22, z23) => μ25 x21 z22 z23) (List.replicate n.toNat (0 : Int), x, (0 : Int)) ⟨hv, hS⟩ ⟨rfl, rfl, rfl, rfl, rfl, rfl, trivial⟩ ?_; rintro ⟨x21, z22, z23⟩ w26 ⟨hv, hS⟩; have hv := hk33 x21 z22 z23 hv; refine W.seq <| W.region <| WL.lssD rfl rfl rfl <| WL.done <| W.seq <| W.cond2 rfl (fun c27 => ?_) (fun c27 => ?_)
 ·have hv := hv.1 (of_decide_eq_true c27); refine W.skip <| W.seq <| W.block <| W.seq <| W.region <| WL.move rfl rfl <| WL.assign rfl rfl <| WL.done <| W.seq <| W.region <| WL.move rfl rfl <| WL.move rfl rfl <| WL.move rfl rfl <| WL.move rfl rfl ?_; obtain ⟨o28, hv⟩ := hv; refine WL.rem (r := (z22.tmod p)) rfl rfl o28 rfl rfl ?_; obtain ⟨o29, hv⟩ := hv; refine SL.index XU22 XE3 (hS.rd (i := 0) rfl) rfl rfl o29 rfl <| SL.store (cs' := is (si x21 z23 (z22.tmod p))) 0 z23.toNat hS rfl XE3 rfl rfl rfl (is_lt (hS.rd (i := 0) rfl) o29) (is_set _ _ _) ?_; intro w30 hS; refine WL.done <| W.region <| WL.move rfl rfl <| WL.move rfl rfl ?_; obtain ⟨o31, hv⟩ := hv; refine WL.quo (r := (z22.tdiv p)) rfl rfl o31.1 (wr o31.2) rfl <| WL.assign rfl rfl <| WL.done <| W.region ?_; obtain ⟨o32, hv⟩ := hv; refine WL.add (r := (z23 + (1 : Int))) rfl rfl (wr o32) rfl <| WL.move rfl rfl <| WL.done ?_; exact ⟨(si x21 z23 (z22.tmod p), (z22.tdiv p), (z23 + (1 : Int))), ⟨rfl, rfl, rfl, rfl, rfl, rfl, trivial⟩, hv.2, rfl, hv.1, hS⟩
 have hv := hv.2 (of_decide_eq_false c27); refine W.exit <| W.seq <| W.region <| WL.move rfl rfl <| WL.assign rfl rfl <| WL.done <| W.ret ?_; have hm := (hS.rd (i := 0) rfl).ilen; have hS := hS.relen (i := 0) rfl hm.symm; refine ⟨_, rfl, Fin.nil ?_⟩; exact ⟨_, hS.ext, (hS.pick [0] rfl).rows, News.of (hS.pick [0] rfl).rows rfl, ⟨x21, A12, n.toNat, (by rw [hm]), rfl, hv⟩⟩
def V_successor (Pf : Int) (Mf : Int) (mf : List Int) (x : Int) (Q : Int → Prop) : Prop :=
  (Pf ≠ 0) ∧ ((I64 (Pf - (1 : Int))) ∧ ((((x.tmod Pf) = (Pf - (1 : Int))) → ((Pf ≠ 0) ∧ ((I64 (x - (x.tmod Pf))) ∧ (Q (x - (x.tmod Pf)))))) ∧ (¬ ((x.tmod Pf) = (Pf - (1 : Int))) → ((I64 (x + (1 : Int))) ∧ (Q (x + (1 : Int)))))))
theorem ok_successor {w : World} {Q : Int → Prop} {Pf : Int} {Mf : Int} {mf : List Int} {x : Int} {Bf : Nat} {Af : Option Addr} {nf kf : Nat} (hf : Rd Bf w 1 Af nf kf (is mf)) (hv : V_successor Pf Mf mf x Q) :
   Calls Try.prog 83 #[.agg #[.int .i64 Pf, .int .i64 Mf, .slice Af nf kf], .int .i64 x] w fun e w' => ∃ v Qr, e = .returned v ∧ w.grownBy w' none ∧ Rows w.heap.size none w' Qr ∧ News w.heap.size Qr ∧ ∃ (r0 : Int), v = .int .i64 r0 ∧ Qr = [] ∧ Q r0 := by
 have hnf := hf.ilen; subst hnf; refine calls_swap <| calls_of_W (vs := [.agg #[.int .i64 Pf, .int .i64 Mf, .slice Af mf.length kf], .int .i64 x]) [4] XF83 rfl rfl rfl rfl ?_; have hS := St.start w; unfold V_successor at hv; refine W.seq <| W.region <| SL.box (z := 3) (cs := [.int .i64 Pf, .int .i64 Mf, .slice Af mf.length kf]) hS rfl rfl rfl rfl ?_; intro g11 w12 hS; refine WL.assign rfl rfl <| WL.done <| W.seq <| W.seq ?_; obtain ⟨o17, hv⟩ := hv; obtain ⟨o21, hv⟩ := hv; refine W.drawV 8 [⟨[], [1], true⟩, ⟨[], [2], true⟩, ⟨[1], [], false⟩, ⟨[0, 2], [], true⟩, ⟨[], [2], true⟩, ⟨[4], [], false⟩, ⟨[5], [], true⟩, ⟨[3, 6], [], true⟩] [[(1, .int .i64 x)], [(2, .pointer (some ⟨g11, 0, none⟩))], [], [], [(2, .pointer (some ⟨g11, 0, none⟩))], [], [], []] [(5, .int .i64 x), (6, .pointer (some ⟨g11, 0, none⟩)), (7, .int .i64 Pf), (8, .int .i64 (x.tmod Pf)), (9, .pointer (some ⟨g11, 0, none⟩)), (10, .int .i64 Pf), (11, .int .i64 (Pf - (1 : Int))), (12, .bool (decide ((x.tmod Pf) = (Pf - (1 : Int)))))] Try.mixed (by kernel_rfl) rfl rfl ?_ ?_
 · refine ⟨⟨rfl, ⟨rfl, trivial⟩, fun _ _ _ => WL.move rfl rfl <| WL.done ⟨rfl, rfl⟩⟩, ⟨rfl, ⟨rfl, trivial⟩, fun _ _ _ => WL.fieldA (off := 0) XA24_0 rfl rfl <| WL.done ⟨rfl, rfl⟩⟩, ⟨rfl, trivial, fun _ hE _ => have hS := hS.grow (hE rfl); WL.load XU3 rfl rfl (Own.vcells (hS.own (i := 0) rfl) 0 _ rfl) rfl <| WL.done ⟨rfl, ext_refl _⟩⟩, ⟨rfl, trivial, fun _ _ _ => WL.rem (r := (x.tmod Pf)) rfl rfl o17 rfl rfl <| WL.done ⟨rfl, rfl⟩⟩, ⟨rfl, ⟨rfl, trivial⟩, fun _ _ _ => WL.fieldA (off := 0) XA24_0 rfl rfl <| WL.done ⟨rfl, rfl⟩⟩, ⟨rfl, trivial, fun _ hE _ => have hS := hS.grow (hE rfl); WL.load XU3 rfl rfl (Own.vcells (hS.own (i := 0) rfl) 0 _ rfl) rfl <| WL.done ⟨rfl, ext_refl _⟩⟩, ⟨rfl, trivial, fun _ _ _ => WL.sub (r := (Pf - (1 : Int))) rfl rfl (wr o21) rfl <| WL.done ⟨rfl, rfl⟩⟩, ⟨rfl, trivial, fun _ _ _ => WL.eqlD rfl rfl rfl <| WL.done ⟨rfl, rfl⟩⟩, trivial⟩
 intro w23 hT; have hS := hS.grow hT; refine WA.done (by decide +kernel) <| W.cond2 rfl (fun c24 => ?_) (fun c24 => ?_)
 ·have hv := hv.1 (of_decide_eq_true c24); refine W.seq <| W.region <| WL.move rfl rfl <| WL.move rfl rfl <| WL.fieldA (off := 0) XA24_0 rfl rfl <| WL.load XU3 rfl rfl (Own.vcells (hS.own (i := 0) rfl) 0 _ rfl) rfl ?_; obtain ⟨o25, hv⟩ := hv; refine WL.rem (r := (x.tmod Pf)) rfl rfl o25 rfl rfl ?_; obtain ⟨o26, hv⟩ := hv; refine WL.sub (r := (x - (x.tmod Pf))) rfl rfl (wr o26) rfl <| WL.assign rfl rfl <| WL.done <| W.ret <| ⟨_, rfl, Fin.nil ?_⟩
  exact ⟨_, hS.ext, (hS.pick [] rfl).rows, News.of (hS.pick [] rfl).rows rfl, ⟨(x - (x.tmod Pf)), rfl, rfl, hv⟩⟩
 have hv := hv.2 (of_decide_eq_false c24); refine W.skip <| W.seq <| W.region <| WL.move rfl rfl ?_; obtain ⟨o27, hv⟩ := hv; refine WL.add (r := (x + (1 : Int))) rfl rfl (wr o27) rfl <| WL.assign rfl rfl <| WL.done <| W.ret <| ⟨_, rfl, Fin.nil ?_⟩
 exact ⟨_, hS.ext, (hS.pick [] rfl).rows, News.of (hS.pick [] rfl).rows rfl, ⟨(x + (1 : Int)), rfl, rfl, hv⟩⟩
def V_clone (l : List Int) (Q : List Int → Prop) : Prop :=
  ∀ b11 : Bool, (b11 = true → l = []) → (((b11 = true) → (Q ([] : List Int))) ∧ (b11 = false → ((((0 : Nat) + (l.length : Nat) : Int) * 8 ≤ 140737488355328) ∧ (Q (([] : List Int) ++ l)))))
theorem ok_clone {w : World} {Q : List Int → Prop} {l : List Int} {Bl : Nat} {Al : Option Addr} {nl kl : Nat} (hl : Rd Bl w 1 Al nl kl (is l)) (hv : V_clone l Q) :
  Calls Try.prog 74 #[.slice Al nl kl] w fun e w' => ∃ v Qr, e = .returned v ∧ w.grownBy w' none ∧ Rows w.heap.size none w' Qr ∧ News w.heap.size Qr ∧ ∃ (x : List Int)  (A : Option Addr) (c : Nat), v = .slice A x.length c ∧ Qr = [.row 3 1 A x.length c (is x)] ∧ Q x := by
 have hnl := hl.ilen; subst hnl; refine calls_swap <| calls_of_W (vs := [.slice Al l.length kl]) [2] XF74 rfl rfl rfl rfl ?_; have hS := St.start w; unfold V_clone at hv; refine W.seq <| W.region <| WL.assign rfl rfl <| WL.done <| W.seq <| W.seq <| W.region <| WL.move rfl rfl ?_; obtain ⟨b11, hb11⟩ : ∃ b, Al.isNone = b := ⟨_, rfl⟩
 have hv := hv b11 (fun h => Rd.isnone (hS.ro hl) (hb11.trans h)); refine WL.eqlNil hb11 XU22 rfl rfl rfl <| WL.done <| W.cond2 rfl (fun c12 => ?_) (fun c12 => ?_)
 ·have hv := hv.1 (c12); refine W.seq <| W.region <| WL.assign rfl rfl <| WL.done <| W.ret ?_; have hS := hS.nil (e := 3) (z := 1); refine ⟨_, rfl, Fin.nil ?_⟩; exact ⟨_, hS.ext, (hS.pick [0] rfl).rows, News.of (hS.pick [0] rfl).rows rfl, ⟨([] : List Int), none, 0, rfl, rfl, hv⟩⟩
 have hv := hv.2 (c12); refine W.skip <| W.seq <| W.region <| SL.lit1 (vs := is ([] : List Int)) hS XU22 XE3 rfl rfl rfl rfl (is_one _) rfl ?_; intro A13 w14 hS; refine WL.move rfl rfl ?_; obtain ⟨o16, hv⟩ := hv; refine SL.append (cs := is ([] : List Int)) (cs' := is l) 0 ((([] : List Int) ++ l).length) (is (([] : List Int) ++ l)) hS rfl XU22 XE3 (hS.ro hl) (is_one _) rfl rfl (apk o16).1 (apk o16).2 (is_ap (hS.rd (i := 0) rfl) (hS.ro hl)) (is_append _ _) rfl ?_; intro A17 k18 w19 hS; refine WL.assign rfl rfl <| WL.done <| W.ret <| ⟨_, rfl, Fin.nil ?_⟩
 exact ⟨_, hS.ext, (hS.pick [0] rfl).rows, News.of (hS.pick [0] rfl).rows rfl, ⟨([] : List Int) ++ l, A17, k18, rfl, rfl, hv⟩⟩
def V_rOrder (Pf : Int) (Mf : Int) (mf : List Int) (Q : Int → Prop) : Prop :=
  ((Pf < (2 : Int)) → (Q (0 : Int))) ∧ (¬ (Pf < (2 : Int)) → (((Mf < (1 : Int)) → (Q (0 : Int))) ∧ (¬ (Mf < (1 : Int)) → ((((8 : Int) < Mf) → (Q (0 : Int))) ∧ (¬ ((8 : Int) < Mf) → (∃ (I22 : Int → Int → Prop) (μ23 : Int → Int → Nat), I22 (1 : Int) (0 : Int) ∧ ∀ (z20 : Int) (z21 : Int), (I22 z20 z21 → (((z21 < Mf) → ((Pf ≠ 0 ∧ I64 ((256 : Int).tdiv Pf)) ∧ (((((256 : Int).tdiv Pf) < z20) → (Q (0 : Int))) ∧ (¬ (((256 : Int).tdiv Pf) < z20) → ((I64 (z20 * Pf)) ∧ ((I64 (z21 + (1 : Int))) ∧ (I22 (z20 * Pf) (z21 + (1 : Int)) ∧ μ23 (z20 * Pf) (z21 + (1 : Int)) < μ23 z20 z21))))))) ∧ (¬ (z21 < Mf) → Q z20)))))))))
theorem ok_rOrder {w : World} {Q : Int → Prop} {Pf : Int} {Mf : Int} {mf : List Int} {Bf : Nat} {Af : Option Addr} {nf kf : Nat} (hf : Rd Bf w 1 Af nf kf (is mf)) (hv : V_rOrder Pf Mf mf Q) :
   Calls Try.prog 42 #[.agg #[.int .i64 Pf, .int .i64 Mf, .slice Af nf kf]] w fun e w' => ∃ v Qr, e = .returned v ∧ w.grownBy w' none ∧ Rows w.heap.size none w' Qr ∧ News w.heap.size Qr ∧ ∃ (r0 : Int), v = .int .i64 r0 ∧ Qr = [] ∧ Q r0 := by
 have hnf := hf.ilen; subst hnf; refine calls_swap <| calls_of_W (vs := [.agg #[.int .i64 Pf, .int .i64 Mf, .slice Af mf.length kf]]) [2] XF42 rfl rfl rfl rfl ?_; have hS := St.start w; unfold V_rOrder at hv; refine W.seq <| W.region <| SL.box (z := 3) (cs := [.int .i64 Pf, .int .i64 Mf, .slice Af mf.length kf]) hS rfl rfl rfl rfl ?_; intro g11 w12 hS; refine WL.assign rfl rfl <| WL.done <| W.seq <| W.seq <| W.region <| WL.fieldA (off := 0) XA24_0 rfl rfl <| WL.load XU3 rfl rfl (Own.vcells (hS.own (i := 0) rfl) 0 _ rfl) rfl <| WL.lssD rfl rfl rfl <| WL.move rfl rfl ?_; by_cases g13 : Pf < (2 : Int)
 ·have hv := hv.1 g13; rw [decide_eq_true g13]; refine WL.pass rfl rfl rfl <| WL.pass rfl rfl rfl <| WL.pass rfl rfl rfl <| WL.pick rfl rfl rfl <| WL.move rfl rfl <| WL.pass rfl rfl rfl <| WL.pass rfl rfl rfl <| WL.pass rfl rfl rfl <| WL.pick rfl rfl rfl <| WL.done <| W.condT rfl <| W.seq <| W.region <| WL.assign rfl rfl <| WL.done <| W.ret <| ⟨_, rfl, Fin.nil ?_⟩
  exact ⟨_, hS.ext, (hS.pick [] rfl).rows, News.of (hS.pick [] rfl).rows rfl, ⟨(0 : Int), rfl, rfl, hv⟩⟩
 have hv := hv.2 g13; rw [decide_eq_false g13]; refine WL.take rfl <| WL.fieldA (off := 1) XA24_1 rfl rfl <| WL.take rfl <| WL.load XU3 rfl rfl (Own.vcells (hS.own (i := 0) rfl) 1 _ rfl) rfl <| WL.take rfl <| WL.lssD rfl rfl rfl <| WL.pick rfl rfl rfl <| WL.move rfl rfl ?_; by_cases g14 : Mf < (1 : Int)
 ·have hv := hv.1 g14; rw [decide_eq_true g14]; refine WL.pass rfl rfl rfl <| WL.pass rfl rfl rfl <| WL.pass rfl rfl rfl <| WL.pick rfl rfl rfl <| WL.done <| W.condT rfl <| W.seq <| W.region <| WL.assign rfl rfl <| WL.done <| W.ret <| ⟨_, rfl, Fin.nil ?_⟩
  exact ⟨_, hS.ext, (hS.pick [] rfl).rows, News.of (hS.pick [] rfl).rows rfl, ⟨(0 : Int), rfl, rfl, hv⟩⟩
 have hv := hv.2 g14; rw [decide_eq_false g14]; refine WL.take rfl <| WL.fieldA (off := 1) XA24_1 rfl rfl <| WL.take rfl <| WL.load XU3 rfl rfl (Own.vcells (hS.own (i := 0) rfl) 1 _ rfl) rfl <| WL.take rfl <| WL.gtrD rfl rfl rfl <| WL.pick rfl rfl rfl <| WL.done <| W.cond2 rfl (fun c15 => ?_) (fun c15 => ?_)
 ·have hv := hv.1 (of_decide_eq_true c15); refine W.seq <| W.region <| WL.assign rfl rfl <| WL.done <| W.ret <| ⟨_, rfl, Fin.nil ?_⟩
  exact ⟨_, hS.ext, (hS.pick [] rfl).rows, News.of (hS.pick [] rfl).rows rfl, ⟨(0 : Int), rfl, rfl, hv⟩⟩
 have hv := hv.2 (of_decide_eq_false c15); refine W.skip <| W.seq <| W.region <| WL.assign rfl rfl <| WL.done <| W.seq <| W.seq <| W.region <| WL.assign rfl rfl <| WL.done <| W.block ?_; obtain ⟨I22, μ23, hv, hk30⟩ := hv; refine W.loop (σ := Int × Int) (fun q w1 => match q with | (z20, z21) => I22 z20 z21 ∧ St TT w none w1 [.row 24 3 (some ⟨g11, 0, none⟩) 1 1 [.int .i64 Pf, .int .i64 Mf, .slice Af mf.length kf]]) (fun q => match q with | (z20, z21) => [(1, .pointer (some ⟨g11, 0, none⟩)), (2, .int .i64 (0 : Int)), (3, .int .i64 z20), (4, .int .i64 z21)]) (fun q => match q with | (z20, z21) => μ23 z20 z21) ((1 : Int), (0 : Int)) ⟨hv, hS⟩ ⟨rfl, rfl, rfl, rfl, trivial⟩ ?_; rintro ⟨z20, z21⟩ w24 ⟨hv, hS⟩; have hv := hk30 z20 z21 hv; refine W.seq <| W.seq <| W.region <| WL.move rfl rfl <| WL.fieldA (off := 1) XA24_1 rfl rfl <| WL.load XU3 rfl rfl (Own.vcells (hS.own (i := 0) rfl) 1 _ rfl) rfl <| WL.lssD rfl rfl rfl <| WL.done <| W.cond2 rfl (fun c25 => ?_) (fun c25 => ?_)
 ·have hv := hv.1 (of_decide_eq_true c25); refine W.skip <| W.seq <| W.block <| W.seq <| W.seq <| W.region <| WL.move rfl rfl <| WL.fieldA (off := 0) XA24_0 rfl rfl <| WL.load XU3 rfl rfl (Own.vcells (hS.own (i := 0) rfl) 0 _ rfl) rfl ?_; obtain ⟨o26, hv⟩ := hv; refine WL.quo (r := ((256 : Int).tdiv Pf)) rfl rfl o26.1 (wr o26.2) rfl <| WL.gtrD rfl rfl rfl <| WL.done <| W.cond2 rfl (fun c27 => ?_) (fun c27 => ?_)
  ·have hv := hv.1 (of_decide_eq_true c27); refine W.seq <| W.region <| WL.assign rfl rfl <| WL.done <| W.ret <| ⟨_, rfl, Fin.nil ?_⟩
   exact ⟨_, hS.ext, (hS.pick [] rfl).rows, News.of (hS.pick [] rfl).rows rfl, ⟨(0 : Int), rfl, rfl, hv⟩⟩
  have hv := hv.2 (of_decide_eq_false c27); refine W.skip <| W.region <| WL.move rfl rfl <| WL.fieldA (off := 0) XA24_0 rfl rfl <| WL.load XU3 rfl rfl (Own.vcells (hS.own (i := 0) rfl) 0 _ rfl) rfl ?_; obtain ⟨o28, hv⟩ := hv; refine WL.mul (r := (z20 * Pf)) rfl rfl (wr o28) rfl <| WL.assign rfl rfl <| WL.done <| W.region <| WL.move rfl rfl ?_; obtain ⟨o29, hv⟩ := hv; refine WL.add (r := (z21 + (1 : Int))) rfl rfl (wr o29) rfl <| WL.assign rfl rfl <| WL.done ?_; exact ⟨((z20 * Pf), (z21 + (1 : Int))), ⟨rfl, rfl, rfl, rfl, trivial⟩, hv.2, rfl, hv.1, hS⟩
 have hv := hv.2 (of_decide_eq_false c25); refine W.exit <| W.seq <| W.region <| WL.move rfl rfl <| WL.assign rfl rfl <| WL.done <| W.ret <| ⟨_, rfl, Fin.nil ?_⟩
 exact ⟨_, hS.ext, (hS.pick [] rfl).rows, News.of (hS.pick [] rfl).rows rfl, ⟨z20, rfl, rfl, hv⟩⟩
def V_rprime (x : Int) (Q : Bool → Prop) : Prop :=
  ∃ (I14 : Int → Prop) (μ15 : Int → Nat), I14 (2 : Int) ∧ ∀ (z13 : Int), (I14 z13 → (((z13 < x) → ((z13 ≠ 0) ∧ ((((x.tmod z13) = (0 : Int)) → Q false) ∧ (¬ ((x.tmod z13) = (0 : Int)) → ((I64 (z13 + (1 : Int))) ∧ (I14 (z13 + (1 : Int)) ∧ μ15 (z13 + (1 : Int)) < μ15 z13)))))) ∧ (¬ (z13 < x) → Q true)))
theorem ok_rprime {w : World} {Q : Bool → Prop} {x : Int}  (hv : V_rprime x Q) :
   Calls Try.prog 84 #[.int .i64 x] w fun e w' => ∃ v Qr, e = .returned v ∧ w.grownBy w' none ∧ Rows w.heap.size none w' Qr ∧ News w.heap.size Qr ∧ ∃ (r0 : Bool), v = .bool r0 ∧ Qr = [] ∧ Q r0 := by
 refine calls_swap <| calls_of_W (vs := [.int .i64 x]) [2] XF84 rfl rfl rfl rfl ?_; have hS := St.start w; unfold V_rprime at hv; refine W.seq <| W.region <| WL.assign rfl rfl <| WL.done <| W.seq <| W.seq <| W.region <| WL.assign rfl rfl <| WL.done <| W.block ?_; obtain ⟨I14, μ15, hv, hk21⟩ := hv; refine W.loop (σ := Int) (fun z13 w1 => I14 z13 ∧ St TT w none w1 []) (fun z13 => [(0, .int .i64 x), (2, .bool false), (3, .int .i64 z13)]) (fun z13 => μ15 z13) (2 : Int) ⟨hv, hS⟩ ⟨rfl, rfl, rfl, trivial⟩ ?_; rintro z13 w16 ⟨hv, hS⟩; have hv := hk21 z13 hv; refine W.seq <| W.seq <| W.region <| WL.move rfl rfl <| WL.move rfl rfl <| WL.lssD rfl rfl rfl <| WL.done <| W.cond2 rfl (fun c17 => ?_) (fun c17 => ?_)
 ·have hv := hv.1 (of_decide_eq_true c17); refine W.skip <| W.seq <| W.block <| W.seq <| W.region <| WL.move rfl rfl <| WL.move rfl rfl ?_; obtain ⟨o18, hv⟩ := hv; refine WL.rem (r := (x.tmod z13)) rfl rfl o18 rfl rfl <| WL.eqlD rfl rfl rfl <| WL.done <| W.cond2 rfl (fun c19 => ?_) (fun c19 => ?_)
  ·have hv := hv.1 (of_decide_eq_true c19); refine W.seq <| W.region <| WL.assign rfl rfl <| WL.done <| W.ret <| ⟨_, rfl, Fin.nil ?_⟩
   exact ⟨_, hS.ext, (hS.pick [] rfl).rows, News.of (hS.pick [] rfl).rows rfl, ⟨false, rfl, rfl, hv⟩⟩
  have hv := hv.2 (of_decide_eq_false c19); refine W.skip <| W.region <| WL.move rfl rfl ?_; obtain ⟨o20, hv⟩ := hv; refine WL.add (r := (z13 + (1 : Int))) rfl rfl (wr o20) rfl <| WL.assign rfl rfl <| WL.done ?_; exact ⟨(z13 + (1 : Int)), ⟨rfl, rfl, rfl, trivial⟩, hv.2, rfl, hv.1, hS⟩
 have hv := hv.2 (of_decide_eq_false c17); refine W.exit <| W.seq <| W.region <| WL.assign rfl rfl <| WL.done <| W.ret <| ⟨_, rfl, Fin.nil ?_⟩
 exact ⟨_, hS.ext, (hS.pick [] rfl).rows, News.of (hS.pick [] rfl).rows rfl, ⟨true, rfl, rfl, hv⟩⟩
def V_rdigits (x : Int) (p : Int) (n : Int) (Q : List Int → Prop) : Prop :=
  (0 ≤ n ∧ n * 8 ≤ 281474976710656 ∧ n ≤ 281474976710656) ∧ (∃ (I24 : List Int → Int → Int → Prop) (μ25 : List Int → Int → Int → Nat), I24 (List.replicate n.toNat (0 : Int)) x (0 : Int) ∧ ∀ (x21 : List Int) (z22 : Int) (z23 : Int), (I24 x21 z22 z23 → (((z23 < n) → ((p ≠ 0) ∧ ((0 ≤ z23 ∧ z23 < (n.toNat : Nat)) ∧ ((p ≠ 0 ∧ I64 (z22.tdiv p)) ∧ ((I64 (z23 + (1 : Int))) ∧ (I24 (si x21 z23 (z22.tmod p)) (z22.tdiv p) (z23 + (1 : Int)) ∧ μ25 (si x21 z23 (z22.tmod p)) (z22.tdiv p) (z23 + (1 : Int)) < μ25 x21 z22 z23)))))) ∧ (¬ (z23 < n) → Q x21))))
theorem ok_rdigits {w : World} {Q : List Int → Prop} {x : Int} {p : Int} {n : Int}  (hv : V_rdigits x p n Q) :
  Calls Try.prog 91 #[.int .i64 x, .int .i64 p, .int .i64 n] w fun e w' => ∃ v Qr, e = .returned v ∧ w.grownBy w' none ∧ Rows w.heap.size none w' Qr ∧ News w.heap.size Qr ∧ ∃ (x : List Int)  (A : Option Addr) (c : Nat), v = .slice A x.length c ∧ Qr = [.row 3 1 A x.length c (is x)] ∧ Q x := by
 refine calls_swap <| calls_of_W (vs := [.int .i64 x, .int .i64 p, .int .i64 n]) [6] XF91 rfl rfl rfl rfl ?_; have hS := St.start w; unfold V_rdigits at hv; refine W.seq <| W.region <| WL.assign rfl rfl <| WL.done <| W.seq <| W.region <| WL.move rfl rfl ?_; obtain ⟨o11, hv⟩ := hv; refine SL.make (J := n) hS XU22 XE3 rfl rfl o11 (made_is _) rfl ?_; intro A12 w13 hS; refine WL.assign rfl rfl <| WL.done <| W.seq <| W.seq <| W.region <| WL.assign rfl rfl <| WL.done <| W.block ?_; obtain ⟨I24, μ25, hv, hk33⟩ := hv; refine W.loop (σ := List Int × Int × Int) (fun q w1 => match q with | (x21, z22, z23) => I24 x21 z22 z23 ∧ St TT w none w1 [.row 3 1 A12 n.toNat n.toNat (is x21)]) (fun q => match q with | (x21, z22, z23) => [(0, .int .i64 z22), (1, .int .i64 p), (2, .int .i64 n), (6, .slice none 0 0), (7, .slice A12 n.toNat n.toNat), (8, .int .i64 z23)]) (fun q => match q with | (x21, z22, z23) => μ25 x21 z22 z23) (List.replicate n.toNat (0 : Int), x, (0 : Int)) ⟨hv, hS⟩ ⟨rfl, rfl, rfl, rfl, rfl, rfl, trivial⟩ ?_; rintro ⟨x21, z22, z23⟩ w26 ⟨hv, hS⟩; have hv := hk33 x21 z22 z23 hv; refine W.seq <| W.seq <| W.region <| WL.move rfl rfl <| WL.move rfl rfl <| WL.lssD rfl rfl rfl <| WL.done <| W.cond2 rfl (fun c27 => ?_) (fun c27 => ?_)
 ·have hv := hv.1 (of_decide_eq_true c27); refine W.skip <| W.seq <| W.block <| W.seq <| W.region <| WL.move rfl rfl <| WL.move rfl rfl <| WL.move rfl rfl <| WL.move rfl rfl ?_; obtain ⟨o28, hv⟩ := hv; refine WL.rem (r := (z22.tmod p)) rfl rfl o28 rfl rfl ?_; obtain ⟨o29, hv⟩ := hv; refine SL.index XU22 XE3 (hS.rd (i := 0) rfl) rfl rfl o29 rfl <| SL.store (cs' := is (si x21 z23 (z22.tmod p))) 0 z23.toNat hS rfl XE3 rfl rfl rfl (is_lt (hS.rd (i := 0) rfl) o29) (is_set _ _ _) ?_; intro w30 hS; refine WL.done <| W.region <| WL.move rfl rfl <| WL.move rfl rfl ?_; obtain ⟨o31, hv⟩ := hv; refine WL.quo (r := (z22.tdiv p)) rfl rfl o31.1 (wr o31.2) rfl <| WL.assign rfl rfl <| WL.done <| W.region <| WL.move rfl rfl ?_; obtain ⟨o32, hv⟩ := hv; refine WL.add (r := (z23 + (1 : Int))) rfl rfl (wr o32) rfl <| WL.assign rfl rfl <| WL.done ?_; exact ⟨(si x21 z23 (z22.tmod p), (z22.tdiv p), (z23 + (1 : Int))), ⟨rfl, rfl, rfl, rfl, rfl, rfl, trivial⟩, hv.2, rfl, hv.1, hS⟩
 have hv := hv.2 (of_decide_eq_false c27); refine W.exit <| W.seq <| W.region <| WL.move rfl rfl <| WL.assign rfl rfl <| WL.done <| W.ret ?_; have hm := (hS.rd (i := 0) rfl).ilen; have hS := hS.relen (i := 0) rfl hm.symm; refine ⟨_, rfl, Fin.nil ?_⟩; exact ⟨_, hS.ext, (hS.pick [0] rfl).rows, News.of (hS.pick [0] rfl).rows rfl, ⟨x21, A12, n.toNat, (by rw [hm]), rfl, hv⟩⟩
end Go.Proofs.Ytcmfjjbbcfddpaa
