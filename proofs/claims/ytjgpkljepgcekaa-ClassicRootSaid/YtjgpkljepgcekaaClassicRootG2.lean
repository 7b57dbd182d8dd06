/- Contracts of functions of the program, and what they lean on: So, Sp, Draw5, Sq, Fx, Jo, Sd, Draw6, Mx, Mx2, Draw8, Draw7, Mx3, Gk, Draw9, Sx, Draw10. -/
import Derived.Test.YtjgpkljepgcekaaClassicRootG1
import Derived.ArgAppend
import Derived.Laws.OwnMore
import Derived.Deep.Slices
import Derived.JoinedOf
import Derived.ProofKit
import Derived.Test.YtjgpkljepgcekaaProg
import Derived.Test.YtjgpkljepgcekaaChecked
set_option linter.unusedSimpArgs false
set_option linter.unusedVariables false
namespace Go.Proofs.Ytjgpkljepgcekaa
open Go.RowKit
theorem QJ {a b : Nat} (h : Nat.ble (a + 1) b = true) : a < b := Nat.le_of_ble_eq_true h
theorem Jpq {α : Type} (C D : List α) {o n m : Nat} (hD : D.length = n) (h : o + n <= m) (hm : m <= C.length) : (C.take o ++ D ++ C.drop (o + n)).take m = (C.take m).take o ++ D ++ (C.take m).drop (o + n) := by
 have h1 : (C.take o ++ D).length = o + n := by simp; omega
 rw [List.take_append, List.take_of_length_le (by omega), h1, List.take_take, Nat.min_eq_left (by omega), List.drop_take]
theorem Zz {P : Program} {f : FuncId} {args : Array Value} {w : World} {K : Value -> List Value -> World -> Prop} (h : Calls P f args w fun e w' => ∃ v, e = .returned v /\ ∃ Q, K v Q w') :
 Calls P f args w fun e w' => ∃ v Q, e = .returned v /\ K v Q w' := h.mono fun e w' ⟨v, h1, Q, h2⟩ => ⟨v, Q, h1, h2⟩
theorem blk.ret {id : Nat} {N : J0} {B : Qi} {df : List Deferred} {L : Fr} {w : World} (h : B .ret df L w) : blk id N B .ret df L w := h
theorem exits.retI {B : Qi} {df : List Deferred} {L : Fr} {w : World} (h : B .ret df L w) : exits B df L w .ret := h
theorem endC.mk {P : Program} {res : List ResultVar} {R : Value -> World -> Prop} {L : Fr} {w : World} (h : ∃ vs, Jjx P L w res vs /\ R (Jjw vs) w) : endC P res R .ret [] L w := h
theorem JO {P : Program} {f : FuncId} {args : Array Value} {w : World} {K : Value -> List Rw -> Prop} (h : Calls P f args w fun e w' => ∃ v Q, e = .returned v /\ w.grownBy w' none /\ Rows w.heap.size none w' Q /\ News w.heap.size Q /\ K v Q) :
 Calls P f args w fun e w' => ∃ v, e = .returned v /\ ∃ Q, w.grownBy w' none /\ Rows w.heap.size none w' Q /\ News w.heap.size Q /\ K v Q := h.mono fun e w' ⟨v, Q, h1, h2⟩ => ⟨v, h1, Q, h2⟩
section
variable {X : World -> Prop} {w0 w w' wS : World} {mr : Option Nat} {R R0 : List Rw}
theorem Qe {e z m c : Nat} {A : Option Addr} {cs : List Value} (Q : List Rw) (h0 : St X w0 mr wS R0) (h : St X w0 mr w (Q ++ R0)) (hO : Own 0 w e z A m c cs) (hn : ∀ g, bl A = some g -> wS.heap.size <= g) (hq : ∀ s ∈ Q, ∀ g, bl A = some g -> ¬ s.at_ g) :
  St X w0 mr w (.row e z A m c cs :: (Q ++ R0)) := by
 refine ⟨h.ext, ⟨⟨hO, fun g hg => .inl (by have := hn g hg; have := h0.size; omega)⟩, fun s hs _ g hg hs2 => ?_, h.rows⟩, h.x, h.cl, h.lt⟩; rcases List.mem_append.1 hs with hs | hs
 .exact hq s hs g hg hs2
 .have := h0.rows.lt hs g hs2; have := hn g hg; omega
/-- A row of the caller's that the call may turn. -/
theorem Jb4 {e z m c : Nat} {A : Option Addr} {cs : List Value} (h : Own 0 w e z A m c cs) : St TT w (bl A) w [.row e z A m c cs] :=
  ⟨World.grownBy.refl w _, ⟨⟨h, fun g hg => .inr hg⟩, fun s hs => by simp at hs, trivial⟩, trivial, YU, fun g hg => (h.bl_ge g hg).2⟩
theorem St.rom' {B z m c : Nat} {A : Option Addr} {cs : List Value} (h : St X w0 mr w R) (hr : Rd B w0 z A m c cs) (ha : 0 < m -> ∀ g, mr = some g -> bl A ≠ some g) : Rd B w z A m c cs :=
 ⟨hr.len, hr.cap, hr.max, fun hm => by
  obtain ⟨ad, e1, e2, e3⟩ := hr.cells hm; exact ⟨ad, e1, e2, fun j u hu => h.ext.cell (e3 j u hu) (fun e => by rw [QG] at e; exact ha hm _ e.symm (by rw [e1]; rfl))⟩⟩
theorem St.aptRow {i j e z m c e' z' m' c' : Nat} {A A' : Option Addr} {cs cs' : List Value} (h : St X w0 mr w R) (hij : i ≠ j) (hi : R[i]? = some (.row e z A m c cs)) (hj : R[j]? = some (.row e' z' A' m' c' cs')) : 0 < m' -> ∀ g, bl A = some g -> bl A' ≠ some g :=
 fun _ g h1 h2 => h.rows.apt hij hi hj rfl g h1 h2
theorem St.aptRo {i e z m c z' m' c' B : Nat} {A A' : Option Addr} {cs cs' : List Value} (h : St X w0 none w R) (hi : R[i]? = some (.row e z A m c cs)) (hr : Rd B w0 z' A' m' c' cs') (hz : 0 < z' := by decide) : 0 < m' -> ∀ g, bl A = some g -> bl A' ≠ some g := fun hm g h1 h2 => by
 have h3 := ((h.rows.get hi).2 g h1).resolve_right (by simp); obtain ⟨ad, e1, e2, _⟩ := (hr.norm hz).cells hm; rw [e1] at h2; cases h2; exact absurd e2 (Nat.not_lt.2 h3)
theorem St.aptRoM {i e z m c z' m' c' B : Nat} {A A' : Option Addr} {cs cs' : List Value} (h : St X w0 mr w R) (hi : R[i]? = some (.row e z A m c cs)) (hr : Rd B w0 z' A' m' c' cs') (ha : 0 < m' -> ∀ g, mr = some g -> bl A' ≠ some g) (hz : 0 < z' := by decide) : 0 < m' -> ∀ g, bl A = some g -> bl A' ≠ some g := fun hm g h1 h2 => by
 rcases (h.rows.get hi).2 g h1 with h3 | h3
 .obtain ⟨ad, e1, e2, _⟩ := (hr.norm hz).cells hm; rw [e1] at h2; cases h2; exact absurd e2 (Nat.not_lt.2 h3)
 .exact ha hm g h3 h2
/-- A call that turns a row. -/
theorem St.callm {i e z m c : Nat} {A : Option Addr} {cs cs' : List Value} {Q : List Rw} (h : St X w0 mr w R) (hi : R[i]? = some (.row e z A m c cs)) (hg : w.grownBy w' (bl A)) (hO : Own 0 w' e z A m c cs') : St X w0 mr w' (R.set i (.row e z A m c cs')) :=
  h.put hi hg hO (.inl rfl)
end
section
variable {P : Program} {n : Nat} {ro : Option Nat} {df : List Deferred} {N : J0} {L : Fr} {w w0 : World} {ops : Array Oper} {rest : List Oper}
variable {d : Nat} {ty : TypeId} {pos : String} {af : Array Edge} {X : World -> Prop} {mr : Option Nat} {R : List Rw}
/-- A call that turns a row; its value is of no use, or plain. -/
theorem SL.callm {f : FuncId} {fn : Func} {c : Code} {xs : List Operand} {ts : Array TypeId} {vs : List Value} {K : Value -> List Value -> Prop} {e z m k : Nat} {A : Option Addr} {cs : List Value} (i : Nat) (hS : St X w0 mr w R) (hi : R[i]? = some (.row e z A m k cs))
    (hc : Calls P f vs.toArray w fun en w' => ∃ v cs', en = .returned v /\ w.grownBy w' (bl A) /\ Own 0 w' e z A m k cs' /\ K v cs')
    (hf : P.funcs[f]? = some fn) (hb : fn.body = some c) (hnm : (fn.name == "runtime.NumGoroutine") = false) (hx : evs L xs = some vs) (hn : Nat.blt d n = true)
    (h : ∀ v cs' w', K v cs' -> St X w0 mr w' (R.set i (.row e z A m k cs')) -> WL P n ro df ops rest N ((d, v) :: L) w') :
    WL P n ro df ops (⟨some d, .call ⟨.value (.func f), xs.toArray, ts⟩, ty, pos, af, none⟩ :: rest) N L w :=
  WL.call hf hb hnm hx hn (R := fun v w' => ∃ cs', w.grownBy w' (bl A) /\ Own 0 w' e z A m k cs' /\ K v cs') (hc.mono fun e w' ⟨v, Q, h1, h2⟩ => ⟨v, h1, Q, h2⟩) fun v w' ⟨cs', h1, h2, h3⟩ => h v cs' w' h3 (hS.callm (Q := []) hi h1 h2)
/-- A builtin that yields no slot. -/
theorem Jmy {o : Oper} {v : Value} {w' : World} (hg : o.guard = none) (hd : o.dst = none)
    (hr : ∀ a, Has n df a L -> (execOp a.eval o).run P w = .ok (.value v) w') (h : WL P n ro df ops rest N L w') : WL P n ro df ops (o :: rest) N L w := by
  refine ⟨fun a ha B => wpListIn_plain hg fun K hK => ?_⟩
  unfold Oper.wpIn
  refine ⟨fun _ _ => trivial, ?_⟩
  rw [Oper.semAt_eq _ _ _ (Q2 (hr a ha) (fun _ h => by cases h)), hr a ha, Oper.uponIn_value, hd]
  exact hK _ _ (h.out _ ha B)
theorem Jfn {b : Nat} {w : World} {e z : Nat} {A : Option Addr} {m c : Nat} {cs : List Value} (h : Own b w e z A m c cs) (hm : 0 < m) : ∃ g cur, A = some ⟨g, 0, none⟩ /\ b <= g /\ w.heap[g]? = some (.cells cur e (0, 0)) /\ m <= c /\ c <= maxLen /\ cur.size = c * z /\ cur.toList.take (m * z) = cs := by
 rcases h.2 with ⟨h1, h2⟩ | ⟨g, cap, cur, h1, h2, h3, h4, h5, h6, h7⟩
 .omega
 .cases h1; exact ⟨g, cur, rfl, h2, h3, h4, h5, h6, h7⟩
/-- Turning some cells of a row of one-cell elements. -/
theorem Z5 {w : World} {e g : Nat} {m c : Nat} {cs : List Value} {cur cur' : Array Value} (hg : w.heap[g]? = some (.cells cur e (0, 0))) (hs : cur'.size = cur.size) (hmc : m <= c) (hc : c <= maxLen) (hcs : cur.size = c * 1) (ht : cur'.toList.take (m * 1) = cs) :
    Own 0 (w.setRow g cur') e 1 (some ⟨g, 0, none⟩) m c cs /\ w.grownBy (w.setRow g cur') (bl (some ⟨g, 0, none⟩)) := by
  refine ⟨⟨?_, .inr ⟨g, c, cur', rfl, Nat.zero_le _, setRow_heap w g cur cur' e _ hg, hmc, hc, by rw [hs, hcs], ht⟩⟩, ⟨rfl, rfl, rfl, Nat.le_of_eq (setRow_size w g cur').symm, fun k hk hr => setRow_other w g k cur' (fun e => hr (by rw [e]; rfl))⟩⟩
  rw [<- ht, List.length_take, Array.length_toList, hs, hcs]; omega
/-- 'copy' into a window of a row. -/
theorem Juk {x y : Operand} {tx ty_ e m c ms cs' B by_ : Nat} {zero : Value} {A As Aw : Option Addr} {xs ys : LI} (i o : Nat) (hS : St X w0 mr w R) (hi : R[i]? = some (.row e 1 A m c (is xs))) (ht : P.underlying tx = some (.slice e)) (he : Elem P e 1 by_ zero)
    (hR : Rd B w 1 As ms cs' (is ys)) (hw : Aw = if c = o then A else A.map (·.add (o * 1))) (ho : o <= m) (hx : ev L x = some (.slice Aw (m - o) (c - o))) (hy : ev L y = some (.slice As ms cs')) (hn : Nat.blt d n = true)
    (h : ∀ w', St X w0 mr w' (R.set i (.row e 1 A m c (is (xs.take o ++ ys.take (min ms (m - o)) ++ xs.drop (o + min ms (m - o)))))) -> WL P n ro df ops rest N ((d, .int .i64 ((min ms (m - o) : Nat) : Int)) :: L) w') :
    WL P n ro df ops (⟨some d, .call ⟨.builtin .copy, #[x, y], #[tx, ty_]⟩, ty, pos, af, none⟩ :: rest) N L w := by
  obtain ⟨inf, i1, i2, i3, i4⟩ := he.ex
  have hO := hS.own hi
  have hxl := hO.rd.ilen
  have hyl := hR.ilen
  rcases Nat.eq_zero_or_pos (min ms (m - o)) with h0 | h0
  . have e1 : xs.take o ++ ys.take (min ms (m - o)) ++ xs.drop (o + min ms (m - o)) = xs := by rw [h0]; simp
    rw [e1, h0] at h
    have h1 : R.set i (.row e 1 A m c (is xs)) = R := List.set_getElem?_self hi
    rw [h1] at h
    refine WL.val rfl rfl hn (fun a ha => ?_) (h w hS)
    have hz : ms.min (m - o) = 0 := h0
    have := run_copy_none (P := P) w tx ty_ ty e Aw As (m - o) (c - o) ms cs' ht (by simp [i1, i3]) hz
    simp [execOp, resolve, invoke, builtin, ha.ev hx, ha.ev hy, this, goInt]
  . obtain ⟨g, cur, rfl, _, hg, hmc, hcm, hcs, htake⟩ := Jfn hO (by omega)
    obtain ⟨ad, rfl, _, hcell⟩ := hR.cells (by omega)
    rw [if_neg (by omega)] at hw
    have hAw : Aw = some ⟨g, o, none⟩ := by rw [hw]; simp [Addr.add]; intro h; exact h.symm
    subst hAw
    have hlen : ((is ys).take (min ms (m - o))).length = min ms (m - o) := by rw [List.length_take, Jf8]; omega
    have hrun := run_copy_row (P := P) w tx ty_ ty e g o (m - o) (c - o) ad ms cs' cur e ((is ys).take (min ms (m - o))) ht (by simp [i1, i3]) hg hlen
      (fun j v hv => hcell j v (by rw [List.getElem?_take] at hv; split at hv; exact hv; cases hv)) (by rw [hlen, hcs]; omega) (fun v hv => Qb ys v (List.mem_of_mem_take hv))
    have hp := Z5 (m := m) (c := c) (cs := is (xs.take o ++ ys.take (min ms (m - o)) ++ xs.drop (o + min ms (m - o)))) hg (cur' := (cur.toList.take o ++ (is ys).take (min ms (m - o)) ++ cur.toList.drop (o + ((is ys).take (min ms (m - o))).length)).toArray)
      (by rw [hlen]; simp [Jf8]; omega) hmc hcm hcs (by
        have h2 : cur.toList.take m = is xs := by rw [<- htake, Nat.mul_one]
        rw [hlen]
        have e1 : is (xs.take o ++ ys.take (min ms (m - o)) ++ xs.drop (o + min ms (m - o))) = (cur.toList.take m).take o ++ (is ys).take (min ms (m - o)) ++ (cur.toList.take m).drop (o + min ms (m - o)) := by
          rw [<- J9, <- J9, <- Jf7, <- Jf7, <- Jtm, h2]
        rw [e1]
        simp only [Nat.mul_one]
        exact Jpq _ _ hlen (by omega) (by simp; omega))
    refine WL.val rfl rfl hn (fun a ha => ?_) (h _ (hS.put hi hp.2 hp.1 (.inl rfl)))
    simp [execOp, resolve, invoke, builtin, ha.ev hx, ha.ev hy, hrun, hlen, goInt]
/-- 'clear' of a row. -/
theorem Jsg {x : Operand} {tx e m c by_ : Nat} {A : Option Addr} {xs : LI} (i : Nat) (hS : St X w0 mr w R) (hi : R[i]? = some (.row e 1 A m c (is xs))) (ht : P.underlying tx = some (.slice e)) (he : Elem P e 1 by_ (.int .i64 0)) (hx : ev L x = some (.slice A m c))
    (h : ∀ w', St X w0 mr w' (R.set i (.row e 1 A m c (is (List.replicate m 0)))) -> WL P n ro df ops rest N L w') :
    WL P n ro df ops (⟨none, .call ⟨.builtin .clear, #[x], #[tx]⟩, ty, pos, af, none⟩ :: rest) N L w := by
  obtain ⟨inf, i1, i2, i3, i4⟩ := he.ex
  have hO := hS.own hi
  have hxl := hO.rd.ilen
  rcases Nat.eq_zero_or_pos m with h0 | h0
  . subst h0
    have e0 : xs = [] := List.eq_nil_of_length_eq_zero hxl
    subst e0
    have h1 : R.set i (.row e 1 A 0 c (is [])) = R := List.set_getElem?_self hi
    rw [show List.replicate 0 (0 : Int) = [] from rfl, h1] at h
    refine Jmy (v := .tuple #[]) rfl rfl (fun a ha => ?_) (h w hS)
    have : (Builtin.clear_ #[tx] ty #[.slice A 0 c]).run P w = .ok (.tuple #[]) w := by
      cases A <;> simp [Builtin.clear_, run_underlying ht]
    simp [execOp, resolve, invoke, builtin, ha.ev hx, this]
  . obtain ⟨g, cur, rfl, _, hg, hmc, hcm, hcs, htake⟩ := Jfn hO h0
    have hst := run_storeCells_at P g 0 e (List.replicate m (Value.int .i64 0)) 0 cur w hg (by simp; omega) (fun v hv => by rw [List.eq_of_mem_replicate hv]; rfl)
    have hzc : (Builtin.zeroCells (Value.int .i64 0).cells m).toList = List.replicate m (Value.int .i64 0) := by
      show (Builtin.zeroCells #[Value.int .i64 0] m).toList = _
      simp [Builtin.zeroCells]
      apply List.ext_getElem
      . simp
      . intro i h1 h2
        simp [Nat.mod_one]
    have hrun : (Builtin.clear_ #[tx] ty #[.slice (some ⟨g, 0, none⟩) m c]).run P w = .ok (.tuple #[]) (w.setRow g (cur.toList.take (0 + 0) ++ List.replicate m (Value.int .i64 0) ++ cur.toList.drop (0 + 0 + (List.replicate m (Value.int .i64 0)).length)).toArray) := by
      obtain ⟨k, rfl⟩ : ∃ k, m = k + 1 := ⟨m - 1, by omega⟩
      have hz0 : (zeroValue e).run P w = .ok (.int .i64 0) w := by simp [zeroValue, typeInfo, i1, i2]
      simp only [Builtin.clear_]
      simp [run_underlying ht, hz0, hzc, hst]
    have hp := Z5 (m := m) (c := c) (cs := is (List.replicate m 0)) hg (cur' := (cur.toList.take (0 + 0) ++ List.replicate m (Value.int .i64 0) ++ cur.toList.drop (0 + 0 + (List.replicate m (Value.int .i64 0)).length)).toArray)
      (by simp; omega) hmc hcm hcs (by simp [is])
    refine Jmy (v := .tuple #[]) rfl rfl (fun a ha => ?_) (h _ (hS.put hi hp.2 hp.1 (.inl rfl)))
    simp [execOp, resolve, invoke, builtin, ha.ev hx, hrun]
theorem Ji8 {x y : Operand} {t e : TypeId} {z by_ : Nat} {zero : Value} {k k' : IntKind} {J : Int} {cs : List Value} (ht : P.underlying t = some (.slice e)) (he : Elem P e z by_ zero)
  (hx : ev L x = some (.int k J)) (hy : ev L y = some (.int k' J)) (hJ : 0 <= J /\ J * (by_ : Int) <= 281474976710656 /\ J <= 281474976710656) (hcs : (madeCells zero.cells (J.toNat * z)).toList = cs) (hn : Nat.blt d n = true)
  (h : ∀ A c w', Own 0 w' e z A J.toNat c cs -> (∀ g, bl A = some g -> w.heap.size <= g) -> w.grownBy w' none -> WL P n ro df ops rest N ((d, .slice A J.toNat c) :: L) w') :
  WL P n ro df ops (⟨some d, .makeSlice t x y, ty, pos, af, none⟩ :: rest) N L w := by
 subst hcs; have h1 : J = ((J.toNat : Nat) : Int) := by omega
 refine Jmv w.heap.size J.toNat ht he hx hy h1 ?_ (by simp only [maxLen]; omega) (Nat.le_refl _) hn fun A w' hA hO hG => h A J.toNat w' (hO.low (Nat.zero_le _)) (fun g hg => (hO.bl_ge g hg).1) hG; have := hJ.2.1; rw [h1, <- Int.natCast_mul] at this; rw [Nat.mul_comm]; exact Int.ofNat_le.1 this
/-- 'make', without a length. -/
theorem Jsf {x y : Operand} {t e : TypeId} {z by_ : Nat} {zero : Value} {k k' : IntKind} {J : Int} {cs : List Value} (hS : St X w0 mr w R) (ht : P.underlying t = some (.slice e)) (he : Elem P e z by_ zero)
    (hx : ev L x = some (.int k 0)) (hy : ev L y = some (.int k' J)) (hJ : 0 <= J /\ J * (by_ : Int) <= 281474976710656 /\ J <= 281474976710656) (hcs : [] = cs) (hn : Nat.blt d n = true)
    (h : ∀ A w', St X w0 mr w' (.row e z A 0 J.toNat cs :: R) -> WL P n ro df ops rest N ((d, .slice A 0 J.toNat) :: L) w') :
    WL P n ro df ops (⟨some d, .makeSlice t x y, ty, pos, af, none⟩ :: rest) N L w := by
  subst hcs
  obtain ⟨inf, i1, i2, i3, i4⟩ := he.ex
  have h1 : J = ((J.toNat : Nat) : Int) := by omega
  have hb : inf.bytes * J.toNat <= 281474976710656 := by
    have := hJ.2.1; rw [h1, <- Int.natCast_mul] at this; rw [i4, Nat.mul_comm]; exact Int.ofNat_le.1 this
  obtain ⟨w', hr, hO, hG⟩ := run_make_own (P := P) w w.heap.size t e inf zero z ht i1 i2 i3 k k' J.toNat hb (by simp only [maxLen]; omega) (Nat.le_refl _)
  rw [<- h1] at hr
  refine WL.val rfl rfl hn (fun a ha => by simp [execOp, ha.ev hx, ha.ev hy, hr]) (h _ w' (hS.push hG ⟨Own.low (b' := 0) hO (Nat.zero_le _), fun g hg => .inl ?_⟩ fun g hg => ?_))
  . cases hg; exact hS.size
  . cases hg; exact Nat.le_refl _
theorem St.castOwn {i e z m c m' c' : Nat} {A A' : Option Addr} {cs cs' : List Value} {w' : World} (h : St X w0 mr w R) (hi : R[i]? = some (.row e z A m c cs)) (hg : w.grownBy w' (bl A)) (hR : Rd w'.heap.size w' z A m c cs) (hR2 : Rd w'.heap.size w' z A' m' c' cs') (hz : 0 < z) (hA : 0 < m' -> bl A' = bl A ∨ bl A' = some w.heap.size) :
  St X w0 mr w' (.ro z A' m' c' cs' :: R.set i (.ro z A m c cs)) := by
 have hr := h.rows.get hi; have h1 : Rows w0.heap.size mr w' (R.set i (.ro z A m c cs)) := h.rows.put hi rfl hg (fun g e => e) ⟨hz, hR⟩ (fun g e => .inl e.1); refine ⟨Q1 h.ext hg hr.2, ⟨⟨hz, hR2⟩, fun s hs hm g hg1 hg2 => ?_, h1⟩, h.cl _ _ _ h.x hg (YS hr.1), h.cl, h.lt⟩; have hsm : s.mut = true := by simpa [Rw.mut] using hm
 obtain ⟨j, hj⟩ := List.getElem?_of_mem hs; rw [List.getElem?_set] at hj; split at hj
 .split at hj
  .cases hj; cases hsm
  .cases hj
 .rename_i hij
  have hs0 := h.rows.get hj; rcases hA hg1.2 with h2 | h2
  .exact h.rows.apt (i := i) (j := j) hij hi hj (by simp [Rw.mut]) g (show bl A = some g from h2 ▸ hg1.1) hg2
  .have h3 := hg1.1; rw [h2] at h3; cases h3; exact absurd (hs0.lt hg2) (Nat.lt_irrefl _)
/-- 'append' onto a row that is only read from here on, as is what it yields. -/
theorem Ji9 {x y : Operand} {t e : TypeId} {z by_ : Nat} {zero : Value} {A A' : Option Addr} {m c m' c' B : Nat} {cs cs' : List Value} (i mm : Nat) (ls : List Value) (hS : St X w0 mr w R) (hi : R[i]? = some (.row e z A m c cs)) (ht : P.underlying t = some (.slice e)) (he : Elem P e z by_ zero)
    (hR : Rd B w z A' m' c' cs') (h1 : ∀ u ∈ cs', u.oneCell' = true) (hx : ev L x = some (.slice A m c)) (hy : ev L y = some (.slice A' m' c')) (hm0 : 0 < m /\ 0 < m')
    (hmax : m + m' <= maxLen) (hby : (m + m') * by_ <= 140737488355328) (hmm : m + m' = mm) (hls : cs ++ cs' = ls) (hn : Nat.blt d n = true)
    (h : ∀ A2 c2 w', St X w0 mr w' (.ro z A2 mm c2 ls :: R.set i (.ro z A m c cs)) -> (∀ g, bl A2 = some g -> w0.heap.size <= g ∨ mr = some g) -> WL P n ro df ops rest N ((d, .slice A2 mm c2) :: L) w') :
    WL P n ro df ops (⟨some d, .call ⟨.builtin .append, #[x, y], #[t, t]⟩, ty, pos, af, none⟩ :: rest) N L w := by
  subst hmm; subst hls
  obtain ⟨inf, i1, i2, i3, i4⟩ := he.ex
  have hO := hS.own hi
  obtain ⟨g, cur, rfl, hg0, hg, hmc, hcm, hcs, htake⟩ := Jfn hO hm0.1
  obtain ⟨ad, rfl, _, hcell⟩ := hR.cells hm0.2
  have hgl : g < w.heap.size := (Array.getElem?_eq_some_iff.1 hg).1
  by_cases hroom : m + m' <= c
  . obtain ⟨w', hr, o1, o2⟩ := run_append_fits (P := P) w 0 t ty e inf z ht i1 i3 g m c cs hO ad m' c' cs' hR.len hcell h1 hroom
    have h2 : Rd w'.heap.size w' z (some ⟨g, 0, none⟩) (m + m') c (cs ++ cs') := Own.rd (e := e) (b := 0) o1
    have h3 : Rd w'.heap.size w' z (some ⟨g, 0, none⟩) m c cs := by
      have h4 := h2.take (k := m) (by omega)
      rwa [<- hO.len, List.take_left] at h4
    refine WL.val rfl rfl hn (fun a ha => by simp [execOp, resolve, invoke, builtin, ha.ev hx, ha.ev hy, hr]) (h _ c w' (hS.castOwn hi o2 h3 h2 he.pos (fun _ => .inl rfl)) (hS.rows.get hi).2)
  . obtain ⟨v', w', hr, o1, o2⟩ := run_append_arg_grows (P := P) w t ty e inf zero z by_ ht i1 i2 i3 i4 he.zs he.pos ⟨g, 0, none⟩ m c cs hO.len (fun j u hu => hO.rd.at_ hu) ad m' c' cs' hR.len hcell (by omega) hmax hby
    have hv : ∃ A2 c2, v' = .slice A2 (m + m') c2 := by
      rcases o1.2 with ⟨rfl, h3⟩ | ⟨g, cap, cur, rfl, _⟩
      . omega
      . exact ⟨_, _, rfl⟩
    obtain ⟨A2, c2, rfl⟩ := hv
    have hO2 : Own w.heap.size w' e z A2 (m + m') c2 (cs ++ cs') := o1
    have hS2 : St X w0 mr w' (.row e z A2 (m + m') c2 (cs ++ cs') :: R) := hS.push o2 ⟨hO2.low (Nat.zero_le _), fun g hg => .inl (by have := (hO2.bl_ge g hg).1; have := hS.size; omega)⟩ (fun g hg => (hO2.bl_ge g hg).1)
    have hS3 := (hS2.freeze (i := 0) rfl he.pos).freeze (i := i + 1) (e := e) (z := z) (A := some ⟨g, 0, none⟩) (m := m) (c := c) (cs := cs) (by simpa using hi) he.pos
    exact WL.val rfl rfl hn (fun a ha => by simp [execOp, resolve, invoke, builtin, ha.ev hx, ha.ev hy, hr]) (h A2 c2 w' (by simpa using hS3) (fun g hg => .inl (by have := (hO2.bl_ge g hg).1; have := hS.size; omega)))
/-- 'a[j:]' -/
theorem Je4 {x y : Operand} {t e : TypeId} {by_ B : Nat} {zero : Value} {A : Option Addr} {m c : Nat} {cs : List Value} {wR : World} {k : IntKind} {J : Int} (ht : P.underlying t = some (.slice e)) (he : Elem P e 1 by_ zero) (hR : Rd B wR 1 A m c cs)
    (hx : ev L x = some (.slice A m c)) (hy : ev L y = some (.int k J)) (hJ : 0 <= J /\ J <= (m : Nat)) (hn : Nat.blt d n = true)
    (h : WL P n ro df ops rest N ((d, .slice (if c = J.toNat then A else A.map (·.add (J.toNat * 1))) (m - J.toNat) (c - J.toNat)) :: L) w) : WL P n ro df ops (⟨some d, .slice t x (some y) none none, ty, pos, af, none⟩ :: rest) N L w :=
  Jor J.toNat ht he hx hy (by omega) (by omega) hn h
end
end Go.Proofs.Ytjgpkljepgcekaa
namespace Go.Proofs.Ytjgpkljepgcekaa
open Go.RowKit
/-! ### pointers and functions beside nil; entries of an array that lies in memory -/
section
variable {P : Program} {n : Nat} {ro : Option Nat} {df : List Deferred} {N : J0} {L : Fr} {w : World} {rest : List Oper} {ops : Array Oper}
variable {d : Nat} {ty : TypeId} {pos : String} {af : Array Edge}
end
end Go.Proofs.Ytjgpkljepgcekaa
namespace Go.Proofs.Ytjgpkljepgcekaa
open Go.RowKit
/-! ### regions that draw their order, where one operation may come late -/
end Go.Proofs.Ytjgpkljepgcekaa
namespace Go.Proofs.Ytjgpkljepgcekaa
open Go.RowKit
theorem Own.take {b : Nat} {w : World} {e z : Nat} {A : Option Addr} {m c : Nat} {cs : List Value} (h : Own b w e z A m c cs) {k : Nat} (hk : k <= m) : Own b w e z A k c (cs.take (k * z)) := by
 obtain ⟨h1, h2⟩ := h; have hkz : k * z <= m * z := Nat.mul_le_mul_right z hk; refine ⟨by rw [List.length_take, h1]; omega, ?_⟩; rcases h2 with ⟨h3, h4⟩ | ⟨g, cap, cur, h3, h4, h5, h6, h7, h8, h9⟩
 .have : k = 0 := by omega
  subst this; cases h3; exact .inl ⟨rfl, rfl⟩
 .cases h3; refine .inr ⟨g, c, cur, rfl, h4, h5, by omega, h7, h8, ?_⟩; rw [<- h9, List.take_take, Nat.min_eq_left hkz]
section
variable {X : World -> Prop} {w0 w w' : World} {mr : Option Nat} {R : List Rw}
theorem Rows.putSame {b : Nat} : ∀ {R : List Rw} {i e z m c e' z' m' c' : Nat} {A : Option Addr} {cs cs' : List Value}, Rows b mr w R -> R[i]? = some (.row e z A m c cs) -> Own 0 w e' z' A m' c' cs' -> Rows b mr w (R.set i (.row e' z' A m' c' cs'))
 | r :: R, 0, e, z, m, c, e', z', m', c', A, cs, cs', h, hi, hO => by
  cases hi; exact ⟨⟨hO, h.1.2⟩, fun s hs hm g h1 h2 => h.2.1 s hs (by rfl) g h1 h2, h.2.2⟩
 | r :: R, i + 1, e, z, m, c, e', z', m', c', A, cs, cs', h, hi, hO => by
  have hi' : R[i]? = some (.row e z A m c cs) := by simpa using hi
  refine ⟨h.1, fun s hs hm g h1 h2 => ?_, Rows.putSame (R := R) (i := i) h.2.2 hi' hO⟩; rcases List.mem_or_eq_of_mem_set hs with hs | rfl
  .exact h.2.1 s hs hm g h1 h2
  .exact h.2.1 _ (List.mem_of_getElem? hi') (by simp [Rw.mut]) g h1 h2
end
/-- a readable slice of readable slices of ints -/
def Al (w : World) : List Value -> LL -> Prop
  | [], [] => True
  | v :: vs, l :: ls => (∃ A k B, v = .slice A l.length k /\ Rd B w 1 A l.length k (is l)) /\ Al w vs ls
  | _, _ => False
theorem Al.len {w : World} : ∀ {vs : List Value} {ls : LL}, Al w vs ls -> vs.length = ls.length
 | [], [], _ => rfl
 | v :: vs, l :: ls, h => by rw [List.length_cons, List.length_cons, Al.len h.2]
 | [], _ :: _, h => h.elim
 | _ :: _, [], h => h.elim
theorem Al.ext {w w' : World} (hg : w.grownBy w' none) : ∀ {vs : List Value} {ls : LL}, Al w vs ls -> Al w' vs ls
 | [], [], _ => trivial
 | v :: vs, l :: ls, ⟨⟨A, k, B, h1, h2⟩, h3⟩ => ⟨⟨A, k, B, h1, h2.ext hg⟩, Al.ext hg h3⟩
 | [], _ :: _, h => h.elim
 | _ :: _, [], h => h.elim
def gl (l : LL) (i : Int) : LI := l.getD i.toNat []
theorem Al.at_ {w : World} : ∀ {vs : List Value} {ls : LL} {i : Nat}, Al w vs ls -> i < ls.length -> ∃ A k B, vs[i]? = some (.slice A (ls.getD i []).length k) /\ Rd B w 1 A (ls.getD i []).length k (is (ls.getD i []))
 | v :: vs, l :: ls, 0, ⟨⟨A, k, B, h1, h2⟩, h3⟩, _ => ⟨A, k, B, by rw [h1]; rfl, h2⟩
 | v :: vs, l :: ls, i + 1, ⟨_, h3⟩, hi => Al.at_ (i := i) h3 (by simpa using hi)
 | [], [], i, _, hi => absurd hi (Nat.not_lt_zero i)
 | [], _ :: _, _, h, _ => h.elim
 | _ :: _, [], _, h, _ => h.elim
structure Rl (w : World) (A : Option Addr) (n k : Nat) (ls : LL) : Prop where
  ex : ∃ B cs, Rd B w 1 A n k cs /\ Al w cs ls
theorem Rl.len {w : World} {A : Option Addr} {n k : Nat} {ls : LL} (h : Rl w A n k ls) : ls.length = n := by
 obtain ⟨B, cs, h1, h2⟩ := h.ex; rw [<- h2.len, h1.len, Nat.mul_one]
theorem Rl.ext {w w' : World} {A : Option Addr} {n k : Nat} {ls : LL} (h : Rl w A n k ls) (hg : w.grownBy w' none) : Rl w' A n k ls := by
 obtain ⟨B, cs, h1, h2⟩ := h.ex; exact ⟨B, cs, h1.ext hg, h2.ext hg⟩
theorem Rl.nil (w : World) : Rl w none 0 0 [] := ⟨0, [], Rd.nil (by simp only [maxLen]; omega), trivial⟩
theorem Rl.at_ {w : World} {A : Option Addr} {n k : Nat} {ls : LL} (h : Rl w A n k ls) {I : Int} (hI : 0 <= I /\ I < (n : Nat)) :
  ∃ A2 k2 B2, w.cell? ((JH A).add I.toNat) = some (.slice A2 (gl ls I).length k2) /\ Rd B2 w 1 A2 (gl ls I).length k2 (is (gl ls I)) := by
 obtain ⟨B, cs, h1, h2⟩ := h.ex; have hl := h.len; obtain ⟨A2, k2, B2, e1, e2⟩ := h2.at_ (i := I.toNat) (by omega); exact ⟨A2, k2, B2, h1.at_ e1, e2⟩
theorem Rl.m64 {w : World} {A : Option Addr} {n k : Nat} {ls : LL} (h : Rl w A n k ls) : n <= 9223372036854775807 := by
 obtain ⟨B, cs, h1, h2⟩ := h.ex; exact h1.m64
section
variable {P : Program} {n : Nat} {ro : Option Nat} {df : List Deferred} {N : J0} {L : Fr} {w w0 : World} {ops : Array Oper} {rest : List Oper}
variable {d : Nat} {ty : TypeId} {pos : String} {af : Array Edge} {X : World -> Prop} {mr : Option Nat} {R : List Rw}
/-- A literal of a slice of one-cell elements, in a region that draws its order. -/
theorem Juj {t e : TypeId} {by_ : Nat} {zero : Value} {k : Nat} {parts : List (Nat × Operand)} {vs : List Value} (ht : P.underlying t = some (.slice e)) (he : Elem P e 1 by_ zero)
    (hx : evs L (parts.map (·.2)) = some vs) (hk : Nat.ble k 1000 = true) (hp : parts.map (·.1) = List.range' 0 k) (hl : vs.length = k) (h1 : ∀ v ∈ vs, v.oneCell' = true) (hn : Nat.blt d n = true)
    (h : ∀ A c w', Own 0 w' e 1 A k c vs -> (∀ g, bl A = some g -> w.heap.size <= g) -> w.grownBy w' none -> WL P n ro df ops rest N ((d, .slice A k c) :: L) w') :
    WL P n ro df ops (⟨some d, .buildSlice t k parts.toArray, ty, pos, af, none⟩ :: rest) N L w :=
  Jmw (b := w.heap.size) ht he hk hx hp hl h1 (Nat.le_refl _) hn fun A w' hA hO hG => h A k w' (hO.low (Nat.zero_le _)) (fun g hg => (hO.bl_ge g hg).1) hG
end
theorem St.cell {X : World -> Prop} {w0 w : World} {R : List Rw} (h : St X w0 none w R) {p : Addr} {u : Value} (hc : w0.cell? p = some u) : w.cell? p = some u := Jk4 h.ext hc (by simp)
theorem sm0 {A : Option Addr} {m m' c : Nat} (h : m = m') : Value.slice A m c = .slice A m' c := by rw [h]
end Go.Proofs.Ytjgpkljepgcekaa
namespace Go.Proofs.Ytjgpkljepgcekaa
open Go.ChangeShapes Go.WideShapes Go.ChangeAt Go.RowKit
section
variable {H : Type} {enc : TypeId × Value -> H} {P : Program} {W : World} {base : Nat} {spare : Nat -> Bool} {held : Bool}
end
end Go.Proofs.Ytjgpkljepgcekaa
namespace Go.Proofs.Ytjgpkljepgcekaa
open Go
/-! ### the head of a program's list of roots, without walking the list -/
theorem Je6 {c : Char} (h : c ≠ Char.ofNat 32) (r : List Char) : wordsSigns (c :: r) = match wordsSigns r with | w :: ws => (c :: w) :: ws | [] => [[c]] := by
  rw [wordsSigns.eq_def]
  split
  . rename_i he; cases he
  . rename_i he; cases he; exact absurd rfl h
  . rename_i he; cases he; rfl
theorem ws_ne : ∀ a : List Char, wordsSigns a ≠ []
 | [] => fun h => by cases h
 | c :: a => by
  by_cases h : c = Char.ofNat 32
  .subst h; show [] :: wordsSigns a ≠ []; exact List.cons_ne_nil _ _
  .rw [Je6 h]; cases wordsSigns a with
   | nil => exact List.cons_ne_nil _ _
   | cons w ws => exact List.cons_ne_nil _ _
theorem Jjd : ∀ a b : List Char, wordsSigns (a ++ Char.ofNat 32 :: b) = wordsSigns a ++ wordsSigns b
 | [], b => rfl
 | c :: a, b => by
  by_cases h : c = Char.ofNat 32
  .subst h; show [] :: wordsSigns (a ++ Char.ofNat 32 :: b) = ([] :: wordsSigns a) ++ wordsSigns b; rw [Jjd a b]; rfl
  .rw [List.cons_append, Je6 h, Je6 h, Jjd a b]; cases hw : wordsSigns a with
   | nil => exact absurd hw (ws_ne a)
   | cons w ws => rfl
/-- a program whose list of roots begins with 'harness', a sum, 'cut' -/
theorem Jp0 {P : Program} {A B : String} {hs : List (List Char)} (h : P.initOrder = A ++ (String.singleton (Char.ofNat 32)) ++ B) (hA : wordsSigns A.toList = hs) : ∃ rest, wordsSigns P.initOrder.toList = hs ++ rest :=
  ⟨wordsSigns B.toList, by rw [h, String.toList_append, String.toList_append, <- hA]; exact (congrArg wordsSigns (by simp)).trans (Jjd A.toList B.toList)⟩
theorem Jds (rest : List (List Char)) : stripLifts liftWords ("cut".toList :: rest) = ([], "cut".toList :: rest) := by kernel_rfl
theorem Jn0 {P : Program} {rest : List (List Char)} (h : behindMainWord (wordsSigns P.initOrder.toList) = "cut".toList :: rest) : P.liftsFinal = false := by
 unfold Program.liftsFinal Program.headLifts; simp only [h, Jds]
 kernel_rfl
theorem Jth {P : Program} {rest : List (List Char)} (h : behindMainWord (wordsSigns P.initOrder.toList) = "cut".toList :: rest) : P.make = some .cut := by
 unfold Program.make; rw [h]; exact (if_neg (Bool.eq_false_iff.1 (by kernel_rfl))).trans (if_pos (by kernel_rfl))
theorem Jqy {P : Program} {rest : List (List Char)} (h : behindMainWord (wordsSigns P.initOrder.toList) = "cut".toList :: rest) (h1 : P.laysLater = false) (h2 : P.bearsReflect = false) (h3 : P.doorFits [] = true) : P.mayEnter = true := by
 unfold Program.mayEnter; rw [h]; refine (Bool.or_eq_true _ _).mpr (Or.inr ?_); rw [Jds, h1, h2, h3]
 kernel_rfl
theorem Jai {a b : Bool} (h1 : a = true) (h2 : b = true) : (a && b) = true := by rw [h1, h2]; rfl
end Go.Proofs.Ytjgpkljepgcekaa
namespace Go.Proofs.Ytjgpkljepgcekaa
open Go Go.Proofs
/-! ### the head of the seat's list of roots -/
def headA : String := "harness b3a9c341d561ce52420733de483973c6c8514c1a4cb60769cd7052e15c23c3ed cut"
def tailC : String := "at codewright/codewrightlaw15.ClassicPoints codewright/codewrightlaw15.ClassicPerfect codewright/codewrightlaw15.ClassicSimplex codewright/codewrightlaw15.ClassicMonomials codewright/codewrightlaw15.ClassicReedMuller codewright/codewrightlaw15.ClassicDuality codewright/codewrightlaw15.ClassicHalves codewright/codewrightlaw15.ClassicResidue codewright/codewrightlaw15.ClassicRoot codewright/codewrightlaw15.ClassicGolay"
theorem Jjs : Try.checked.prog.initOrder = headA ++ String.singleton (Char.ofNat 32) ++ tailC := by kernel_rfl
theorem Jki : wordsSigns headA.toList = ["harness".toList, "b3a9c341d561ce52420733de483973c6c8514c1a4cb60769cd7052e15c23c3ed".toList, "cut".toList] := by kernel_rfl
theorem Jh5 (rest : List (List Char)) : behindMainWord (["harness".toList, "b3a9c341d561ce52420733de483973c6c8514c1a4cb60769cd7052e15c23c3ed".toList, "cut".toList] ++ rest) = "cut".toList :: rest := by kernel_rfl
theorem Jac : ∃ rest, behindMainWord (wordsSigns Try.checked.prog.initOrder.toList) = "cut".toList :: rest := by
 obtain ⟨rest, h⟩ := Jp0 Jjs Jki; exact ⟨rest, by rw [h]; exact Jh5 rest⟩
theorem Jjt : Try.checked.prog.mayEnter = true := by
 obtain ⟨rest, h⟩ := Jac; exact Jqy h (by kernel_rfl) (by kernel_rfl) (by kernel_rfl)
theorem Jhh : Try.checked.prog.liftsFinal = false := by
 obtain ⟨rest, h⟩ := Jac; exact Jn0 h
theorem Jnh : Try.checked.prog.make = some .cut := by
 obtain ⟨rest, h⟩ := Jac; exact Jth h
end Go.Proofs.Ytjgpkljepgcekaa
namespace Go.Proofs.Ytjgpkljepgcekaa
open Go.RowKit
/-! ### regions that draw their order, where some operations may come late -/
def Jfe : List Nat -> List (List Nat)
  | [] => [[]]
  | x :: l => Jfe l ++ (Jfe l).map (x :: ·)
theorem Jb8 (p : Nat -> Bool) : ∀ l : List Nat, l.filter p ∈ Jfe l
 | [] => by simp [Jfe]
 | x :: l => by
  have ih := Jb8 p l; rw [List.filter_cons]; cases h : p x
  .simp only [Bool.false_eq_true, if_false]; exact List.mem_append_left _ ih
  .simp only [if_true]; exact List.mem_append_right _ (List.mem_map.2 ⟨_, ih, rfl⟩)
def Jdc (n : Nat) (l : List Oper) (ps : List Plan) (m : Nat) (fs : List Nat) : Bool :=
  ps.length == m && Nat.ble m l.length && (List.range l.length).all (fun i => (Qf l i).all (fun j => Nat.blt j i)) &&
    (List.range l.length).all (fun i => Nat.blt i m || (List.range m).all (fun j => fs.contains j || (Jhl l 6 (Qf l i)).contains j)) && (List.range m).all fun i =>
    (match ps[i]? with
     | none => false
     | some p => p.on.all (fun j => (Qf l i).contains j) && p.slots.all (fun t => (List.range m).all fun k => k == i || JW l k != some t || (Qf l k).contains i)) &&
    (match JW l i with
     | none => false
     | some d => Nat.blt d n && (List.range m).all fun k => k == i || JW l k != some d)
def Jlp (n : Nat) (l : List Oper) (ps : List Plan) (m : Nat) (fs : List Nat) (o9 : Nat) : Bool :=
  ps.length == m && Nat.ble m l.length && (List.range l.length).all (fun i => (Qf l i).all (fun j => Nat.blt j i)) &&
    (List.range l.length).all (fun i => (Nat.blt i m && i != o9) || (List.range m).all (fun j => fs.contains j || (Jhl l 6 (Qf l i)).contains j)) && (List.range m).all fun i =>
    (match ps[i]? with
     | none => false
     | some p => p.on.all (fun j => (Qf l i).contains j) && p.slots.all (fun t => (List.range m).all fun k => k == i || JW l k != some t || (Qf l k).contains i)) &&
    (match JW l i with
     | none => false
     | some d => Nat.blt d n && (List.range m).all fun k => k == i || JW l k != some d)
def obsH (P : Program) (n : Nat) (ro : Option Nat) (df : List Deferred) (l : List Oper) (al : Nat -> Bool) (cp : Nat -> Option Nat) (ph : Nat -> Value -> Value -> Prop) (V : Nat -> Value -> World -> Prop) (D : Nat -> Value -> World -> Nat -> Prop) (w0 : World) (L : Fr) (o9 : Nat) : Nat -> List Oper -> List Plan -> List Fr -> Prop
  | i, o :: os, p :: ps, b :: bs => (b.map (·.1) = p.slots /\ sub b L /\ (i ≠ o9 -> obA P n ro df l al cp ph V D w0 i o p b)) /\ obsH P n ro df l al cp ph V D w0 L o9 (i + 1) os ps bs
  | _, [], [], [] => True
  | _, _, _, _ => False
theorem Jl4 {P : Program} {n : Nat} {ro : Option Nat} {df : List Deferred} {l : List Oper} {al : Nat -> Bool} {cp : Nat -> Option Nat} {ph : Nat -> Value -> Value -> Prop} {V : Nat -> Value -> World -> Prop} {D : Nat -> Value -> World -> Nat -> Prop} {w0 : World} {L : Fr} {o9 : Nat} : ∀ (os : List Oper) (ps : List Plan) (bs : List Fr) (i : Nat),
  obsH P n ro df l al cp ph V D w0 L o9 i os ps bs -> ∀ k o p, os[k]? = some o -> ps[k]? = some p -> ∃ b, b.map (·.1) = p.slots /\ sub b L /\ (i + k ≠ o9 -> obA P n ro df l al cp ph V D w0 (i + k) o p b)
 | [], _, _, _, _, k, _, _, ho, _ => by simp at ho
 | o :: os, [], _, _, h, _, _, _, _, hp => by simp at hp
 | o :: os, p :: ps, [], _, h, _, _, _, _, _ => by exact h.elim
 | o :: os, p :: ps, b :: bs, i, h, 0, _, _, ho, hp => by cases ho; cases hp; exact ⟨b, h.1⟩
 | o :: os, p :: ps, b :: bs, i, h, k + 1, o', p', ho, hp => by
  obtain ⟨b', h'⟩ := Jl4 os ps bs (i + 1) h.2 k o' p' (by simpa using ho) (by simpa using hp); exact ⟨b', by rw [show i + (k + 1) = i + 1 + k by omega]; exact h'⟩
theorem Jr8 {P : Program} {n id : Nat} {ro : Option Nat} {df : List Deferred} {l : List Oper} {N : J0} {B : Qi} {L : Fr} {w0 : World} (m : Nat) (fs : List Nat) (o9 : Nat) (al : Nat -> Bool) (cp : Nat -> Option Nat) (ph : Nat -> Value -> Value -> Prop) (ps : List Plan) (bs : List Fr) (V : Nat -> Value -> World -> Prop) (D : Nat -> Value -> World -> Nat -> Prop)
  (hm : P.follows .mixedOrders = true) (hB : Jlp n l ps m fs o9 = true)
  (hV : ∀ j v w1 w2, V j v w1 -> w1.grownBy w2 none -> V j v w2)
  (hD : ∀ j v w1 w2, V j v w1 -> w1.grownBy w2 none -> ∀ g, D j v w2 g -> D j v w1 g)
  (hcp : (List.range m).all (fun i => match cp i with | none => true | some j => (Qf l i).contains j) = true)
  (hobs : obsH P n ro df l al cp ph V D w0 L o9 0 (l.take m) ps bs)
  (hN2 : ∀ X ∈ Jfe fs, (o9 < m -> X.contains o9 = true) -> ∀ (vals : Nat -> Value) w', w0.grownBy w' none -> (∀ i, i < m -> X.contains i = false -> V i (vals i) w') -> (∀ j k, j ≠ k -> j < m -> k < m -> X.contains j = false -> X.contains k = false -> al j = true -> al k = true -> ∀ g, D j (vals j) w' g -> ¬ D k (vals k) w' g) -> (∀ i j, i < m -> X.contains i = false -> cp i = some j -> ph i (vals j) (vals i)) -> ∀ q, q = (((List.range l.length).map fun k => Nat.blt k m && !(X.contains k)).filter (!·)).length ->
   WA P n ro df l N q ((List.range l.length).map fun k => Nat.blt k m && !(X.contains k)) ((((List.range m).filterMap fun i => if X.contains i = true then none else (JW l i).map fun t => (t, vals i))) ++ L) w') : W P n ro df (.region id l.toArray true) N B L w0 := by
 simp only [Jlp, Bool.and_eq_true, Bool.or_eq_true, List.all_eq_true, List.mem_range, beq_iff_eq, List.contains_iff_mem] at hB; obtain ⟨⟨⟨⟨hlen, hlm0⟩, hlt0⟩, htail⟩, hB⟩ := hB; have hlm : m <= l.length := by simpa [Nat.ble_eq] using hlm0
 refine ⟨fun a ha => wpIn_mono (Q := Jbs n df N B) (wpIn_region_any hm ?_) Zv⟩; have hon_lt : ∀ k, k < l.length -> ∀ j ∈ Qf l k, j < k := fun k hk j hj => by simpa [Nat.blt_eq] using hlt0 k hk j hj
 have fin0 : ∀ (c : Nat) (listed : Array Bool) (vals : Nat -> Value) (a : Act) (w : World), listed.size = l.length -> (listed.toList.filter (!·)).length = c -> (∀ k, listed.getD k false = true -> k < m /\ k ≠ o9) ->
   DInv n df l ps V (fun _ => True) w0 L (l.length + 1) (fun k => listed.getD k false) vals a w -> Ap al cp ph D (fun k => listed.getD k false) vals w -> (∀ k, k < m -> k ∉ fs -> listed.getD k false = true) -> wpAnyIn (Yc ro) 0 P .any l.toArray (Jbs n df N B) c listed a w := by
  intro c listed vals a w hsz hf hnm I hap hcase; have hXm : ∀ k, k < m -> (fs.filter fun k => !listed.getD k false).contains k = !listed.getD k false := fun k hk => by
   cases hb : listed.getD k false with
   | true =>
    cases hc : (fs.filter fun k => !listed.getD k false).contains k with
    | false => rfl
    | true => rw [List.contains_iff_mem, List.mem_filter, hb] at hc; exact absurd hc.2 (by decide)
   | false =>
    show _ = true; rw [List.contains_iff_mem, List.mem_filter, hb]; refine ⟨Classical.byContradiction fun h => ?_, rfl⟩; have := hcase k hk h; rw [hb] at this; cases this
  have hXs := Jb8 (fun k => !listed.getD k false) fs; generalize hXe : (fs.filter fun k => !listed.getD k false) = X at hXm hXs; have hX : listed = ((List.range l.length).map fun k => Nat.blt k m && !(X.contains k)).toArray := by
   apply Array.ext
   .simp [hsz]
   .intro k h1 h2; have hk : k < l.length := by omega
    have hv : listed.getD k false = listed[k] := by simp [Array.getD_eq_getD_getElem?, h1]
    rw [<- hv]; simp only [List.getElem_toArray, List.getElem_map, List.getElem_range]; rcases Nat.lt_or_ge k m with h | h
    .rw [hXm k h, Bool.not_not]; have : Nat.blt k m = true := by rw [Nat.blt_eq]; exact h
     rw [this]; rfl
    .have hb : listed.getD k false = false := by
      cases hb : listed.getD k false with
      | false => rfl
      | true => have := hnm k hb; omega
     have : Nat.blt k m = false := by
      cases hc : Nat.blt k m with
      | false => rfl
      | true => rw [Nat.blt_eq] at hc; omega
     rw [hb, this]; rfl
  have hlk : ∀ k, k < m -> X.contains k = false -> listed.getD k false = true := fun k hk h => by
   have := hXm k hk; rw [h] at this; cases hb : listed.getD k false with
   | true => rfl
   | false => rw [hb] at this; cases this
  have hw := I.wd (by simp [Array.getD_eq_getD_getElem?, show ¬ l.length + 1 < listed.size by omega]); have hvs : ∀ j, j < m -> X.contains j = false -> V j (vals j) w := fun j hj hne => I.vs j (hlk j hj hne) (by omega); have hX9 : o9 < m -> X.contains o9 = true := fun ho9 => by
   rw [hXm o9 ho9]; cases hb : listed.getD o9 false with
   | false => rfl
   | true => exact absurd rfl (hnm o9 hb).2
  have hW := hN2 X hXs hX9 vals w hw hvs (fun j k hjk hj hk hjf hkf h1 h2 => hap.ap j k hjk (hlk j hj hjf) (hlk k hk hkf) h1 h2) (fun i j hi hif h => hap.cp_ i j (hlk i hi hif) h) c (by rw [<- @List.toList_toArray _ ((List.range l.length).map fun k => Nat.blt k m && !(X.contains k)), <- hX]; omega); have hHas : Has n df a ((((List.range m).filterMap fun i => if X.contains i = true then none else (JW l i).map fun t => (t, vals i))) ++ L) := by
   refine ⟨I.nd, I.sz, fun t v hv => ?_⟩; rw [ZN] at hv; cases hc : lk ((List.range m).filterMap fun i => if X.contains i = true then none else (JW l i).map fun t => (t, vals i)) t with
   | some u =>
    rw [hc] at hv; cases hv; have := Jf6 hc; simp only [List.mem_filterMap, List.mem_range] at this; obtain ⟨k, hk, he⟩ := this; cases hkf : X.contains k with
    | true => rw [if_pos hkf] at he; cases he
    | false =>
     rw [if_neg (by rw [hkf]; decide)] at he; simp only [Option.map_eq_some_iff] at he; obtain ⟨t', ht', he⟩ := he; cases he; exact I.new k t (hlk k hk hkf) ht'
   | none =>
    rw [hc] at hv; refine I.old t v hv fun k hk hd => ?_; have hkm := (hnm k hk).1; have hkf : X.contains k = false := by rw [hXm k hkm, hk]; rfl
    have hm2 : (t, vals k) ∈ (List.range m).filterMap fun i => if X.contains i = true then none else (JW l i).map fun t => (t, vals i) := by
     simp only [List.mem_filterMap, List.mem_range]; exact ⟨k, hkm, by rw [if_neg (by rw [hkf]; decide)]; simp [hd]⟩
    obtain ⟨u, hu⟩ := Jnx hm2; rw [hc] at hu; cases hu
  rw [hX]; exact hW.out a hHas B
 have key : ∀ (fuel : Nat) (listed : Array Bool) (vals : Nat -> Value) (a : Act) (w : World), listed.size = l.length -> (listed.toList.filter (!·)).length = fuel + (l.length - m) -> (∀ k, listed.getD k false = true -> k < m /\ k ≠ o9) ->
   DInv n df l ps V (fun _ => True) w0 L (l.length + 1) (fun k => listed.getD k false) vals a w -> Ap al cp ph D (fun k => listed.getD k false) vals w -> wpAnyIn (Yc ro) 0 P .any l.toArray (Jbs n df N B) (fuel + (l.length - m)) listed a w := by
  intro fuel
  induction fuel with
  | zero =>
   intro listed vals a w hsz hf hnm I hap; have hall : ∀ k, k < m -> listed.getD k false = true := fun k hk => by
    cases hb : listed.getD k false with
    | true => rfl
    | false =>
     exfalso; have hcnt : ∀ (x : List Bool) (m : Nat), m <= x.length -> (∀ j, m <= j -> j < x.length -> x[j]? = some false) -> (x.length - m) + ((x.take m).filter (!·)).length = (x.filter (!·)).length := by
      intro x m hmx hfalse; have h1 : x = x.take m ++ x.drop m := (List.take_append_drop m x).symm; have h2 : (x.drop m).filter (!·) = x.drop m := by
       rw [List.filter_eq_self]; intro b hb; obtain ⟨j, hj, rfl⟩ := List.mem_iff_getElem.1 hb; have := hfalse (m + j) (by omega) (by simp at hj; omega); rw [List.getElem_drop]; rw [List.getElem?_eq_getElem (by simp at hj; omega)] at this
       simpa using this
      conv => rhs; rw [h1]
      rw [List.filter_append, List.length_append, h2, List.length_drop]; omega
     have hx := hcnt listed.toList m (by simp; omega) (fun j h1 h2 => by
      have hj : j < listed.size := by simpa using h2
      cases hbj : listed.getD j false with
      | true => have := hnm j hbj; omega
      | false =>
       simp [Array.getD_eq_getD_getElem?, hj] at hbj; simp [hj, hbj])
     have hsz2 : listed.toList.length = l.length := by simpa using hsz
     have hzero : ((listed.toList.take m).filter (!·)).length = 0 := by omega
     have hz := Jh8 hzero k (by simp; omega); rw [List.getElem?_take, if_pos hk] at hz; have hk2 : k < listed.size := by omega
     simp [Array.getD_eq_getD_getElem?, hk2] at hb; simp [hk2, hb] at hz
   exact fin0 _ listed vals a w hsz hf hnm I hap (fun k hk _ => hall k hk)
  | succ fuel ih =>
   intro listed vals a w hsz hf hnm I hap; rw [show fuel + 1 + (l.length - m) = (fuel + (l.length - m)) + 1 by omega] at hf ⊢; have hlist : ∀ k, listed.getD k true = false -> k < l.length /\ listed.getD k false = false := fun k hk => by
    rcases Nat.lt_or_ge k listed.size with h | h
    .simp [Array.getD_eq_getD_getElem?, h] at hk ⊢; exact ⟨by omega, hk⟩
    .simp [Array.getD_eq_getD_getElem?, Array.getElem?_eq_none h] at hk
   by_cases hcase : ∀ k, k < m -> k ∉ fs -> listed.getD k false = true
   .exact fin0 _ listed vals a w hsz hf hnm I hap hcase
   .refine ⟨?_, ?_⟩
    .intro hr
     -- the first that has not come up yet is ready
     exfalso; have hex : ∃ k, k < l.length /\ listed.getD k false = false := by
      by_cases hc : ∃ k, k < l.length /\ listed.getD k false = false
      .exact hc
      .have hfe : listed.toList.filter (!·) = [] := by
        rw [List.filter_eq_nil_iff]; intro b hb; obtain ⟨k, hk, rfl⟩ := List.mem_iff_getElem.1 hb; have hk' : k < listed.size := by simpa using hk
        have : ¬ listed.getD k false = false := fun h => hc ⟨k, by omega, h⟩; simp [Array.getD_eq_getD_getElem?, hk'] at this; simp [this]
       rw [hfe] at hf; simp at hf
     have hmin : ∀ m, (∃ k, k <= m /\ k < l.length /\ listed.getD k false = false) -> ∃ k, k < l.length /\ listed.getD k false = false /\ ∀ j, j < k -> listed.getD j false = true := by
      intro m
      induction m with
      | zero => rintro ⟨k, hk, h1, h2⟩; exact ⟨k, h1, h2, fun j hj => by omega⟩
      | succ m ihm =>
       rintro ⟨k, hk, h1, h2⟩; by_cases hc : ∃ j, j <= m /\ j < l.length /\ listed.getD j false = false
       .exact ihm hc
       .refine ⟨k, h1, h2, fun j hj => ?_⟩; cases hb : listed.getD j false with
        | true => rfl
        | false => exact absurd ⟨j, by omega, by omega, hb⟩ hc
     obtain ⟨k0, hk0, hk0'⟩ := hex; obtain ⟨k, h1, h2, h3⟩ := hmin k0 ⟨k0, Nat.le_refl _, hk0, hk0'⟩; have hin : k ∈ Region.ready .any l.toArray listed := by
      refine mem_ready.2 ⟨?_, l[k], by simp [h1], fun e he hb => ?_⟩
      .have : k < listed.size := by omega
       simp [Array.getD_eq_getD_getElem?, this] at h2 ⊢; exact h2
      .have hon : e.on ∈ Qf l k := by
        simp only [Qf, List.getElem?_eq_getElem h1, List.mem_map, List.mem_filter]; exact ⟨e, ⟨by simpa using he, hb⟩, rfl⟩
       exact h3 e.on (hon_lt k h1 _ hon)
     rw [hr] at hin; cases hin
    .intro i hi; obtain ⟨h1, o, ho, hpre⟩ := mem_ready.1 hi; obtain ⟨hil0, hun⟩ := hlist i h1; have ho' : l[i]? = some o := by simpa using ho
     have hpre' : ∀ j ∈ Qf l i, listed.getD j false = true := fun j hj => by
      simp only [Qf, ho', List.mem_map, List.mem_filter] at hj; obtain ⟨e, ⟨he, hb⟩, rfl⟩ := hj; exact hpre e (by simpa using he) hb
     have hil : i < m /\ i ≠ o9 := by
      by_cases h : i < m /\ i ≠ o9
      .exact h
      .exfalso; refine hcase fun k hk hkf => ?_; rcases htail i hil0 with h2 | h2
       .simp [Nat.blt_eq] at h2; omega
       .rcases h2 k hk with h3 | h3
        .exact absurd h3 hkf
        .exact Jeq (p := fun k => listed.getD k false = true) I.cl 6 (Qf l i) hpre' k h3
     have hi9 := hil.2; have hil := hil.1; obtain ⟨hp, hd⟩ := hB i hil; have hpi : i < ps.length := by omega
     rw [List.getElem?_eq_getElem hpi] at hp; generalize hpe : ps[i] = p at hp; simp only [Bool.and_eq_true, List.all_eq_true, Bool.or_eq_true, List.mem_range, beq_iff_eq, bne_iff_ne, ne_eq, List.contains_iff_mem] at hp; obtain ⟨hon, hsl⟩ := hp; obtain ⟨b, hbs, hsub, hob⟩ := Jl4 (l.take m) ps bs 0 hobs i o p (by rw [List.getElem?_take, if_pos hil]; exact ho') (by rw [List.getElem?_eq_getElem hpi, hpe]); rw [Nat.zero_add] at hob; have hw0 : p.pure = false -> w0.grownBy w none := fun _ => I.wd (by
      cases hb : listed.getD (l.length + 1) false with
      | false => rfl
      | true => have := I.lt _ hb; omega)
     have hT := Jln vals p.on b (hob hi9 w hw0) (fun j hj => I.vs j (hpre' j (hon j hj)) (by have := hon_lt i hil0 j (hon j hj); omega)); generalize hF : (List.map (fun j => ((JW l j).getD 0, vals j)) p.on).reverse ++ b = F at hT; have hdst : ∀ j, j < m -> ∃ d, JW l j = some d /\ d < n := fun j hj => by
      have := (hB j hj).2; cases hd : JW l j with
      | none => rw [hd] at this; simp at this
      | some d => rw [hd] at this; simp only [Bool.and_eq_true] at this; exact ⟨d, rfl, by simpa [Nat.blt_eq] using this.1⟩
     have hHF : Has n df a (F ++ (List.range n).map fun t => (t, a.tmps.getD t undef)) := by
      refine ⟨I.nd, I.sz, fun t v hv => ?_⟩; rw [ZN] at hv; cases hc : lk F t with
      | some u =>
       rw [hc] at hv; cases hv; have hm := Jf6 hc; rw [<- hF] at hm; rcases List.mem_append.1 hm with hm | hm
       .simp only [List.mem_reverse, List.mem_map] at hm; obtain ⟨j, hj, he⟩ := hm; cases he; obtain ⟨d, hd', _⟩ := hdst j (hnm j (hpre' j (hon j hj))).1; rw [hd']; exact I.new j d (hpre' j (hon j hj)) hd'
       .have hL := sub_at hsub hm; have hts : t ∈ p.slots := by rw [<- hbs]; exact List.mem_map.2 ⟨_, hm, rfl⟩
        refine I.old t v hL fun k hk hdk => ?_; rcases hsl t hts k (hnm k hk).1 with (h | h) | h
        .subst h; rw [hun] at hk; cases hk
        .exact h hdk
        .have := I.cl k hk i h; rw [hun] at this; cases this
      | none =>
       rw [hc] at hv; have hm := Jf6 hv; simp only [List.mem_map, List.mem_range] at hm; obtain ⟨t', ht', he⟩ := hm; cases he; have : t < a.tmps.size := by rw [I.sz]; exact ht'
       simp [Array.getD_eq_getD_getElem?, this]
     have hW := (hT ((List.range n).map fun t => (t, a.tmps.getD t undef))).out a hHF (fun _ _ _ _ => False); have fin' : ∀ a' w', wpListIn (Yc ro) 0 P l.toArray (Jbs n df (fun _ L' w' => ∃ u, L' = ((JW l i).getD 0, u) :: (F ++ (List.range n).map fun t => (t, a.tmps.getD t undef)) /\ (if p.pure then w' = w else w.grownBy w' none) /\ V i u w' /\ (al i = true -> ∀ g, D i u w' g -> w.heap.size <= g /\ g < w'.heap.size) /\ (∀ j, cp i = some j -> ∃ u', lk (F ++ (List.range n).map fun t => (t, a.tmps.getD t undef)) ((JW l j).getD 0) = some u' /\ ph i u' u)) (fun _ _ _ _ => False)) [] a' w' ->
       wpAnyIn (Yc ro) 0 P .any l.toArray (Jbs n df N B) (fuel + (l.length - m)) (listed.setIfInBounds i true) a' w' := by
      intro a' w' hq; obtain ⟨L', hL', hq⟩ := hq; have hisz : i < listed.size := by omega
      have hset : ∀ k, (listed.setIfInBounds i true).getD k false = true -> k = i ∨ listed.getD k false = true := fun k hk => by
       rw [Jh6 _ _ _ hisz] at hk; simp only [Bool.or_eq_true, decide_eq_true_eq] at hk; exact hk.imp Eq.symm (fun h => h)
      have hset' : ∀ k, k = i ∨ listed.getD k false = true -> (listed.setIfInBounds i true).getD k false = true := fun k hk => by
       rw [Jh6 _ _ _ hisz]; simp only [Bool.or_eq_true, decide_eq_true_eq]; exact hk.imp Eq.symm (fun h => h)
      have hcount : ((listed.setIfInBounds i true).toList.filter (!·)).length = fuel + (l.length - m) := by
       have hg : listed.toList[i]? = some false := by
        simp [Array.getD_eq_getD_getElem?, hisz] at hun; simp [hisz, hun]
       have := Jkn listed.toList i hg; rw [Array.toList_setIfInBounds]; omega
      have hm0' : ∀ k, (listed.setIfInBounds i true).getD k false = true -> k < m /\ k ≠ o9 := fun k hk => by
       rcases hset k hk with rfl | h
       .exact ⟨hil, hi9⟩
       .exact hnm k h
      have hcl : ∀ k, (listed.setIfInBounds i true).getD k false = true -> ∀ j ∈ Qf l k, (listed.setIfInBounds i true).getD j false = true := fun k hk j hj => by
       rcases hset k hk with rfl | h
       .exact hset' j (.inr (hpre' j hj))
       .exact hset' j (.inr (I.cl k h j hj))
      have hlt : ∀ k, (listed.setIfInBounds i true).getD k false = true -> k < l.length := fun k hk => by
       rcases hset k hk with rfl | h
       .exact hil0
       .exact I.lt k h
      have hsome : ∀ t, t < n -> ∃ v, lk (F ++ (List.range n).map fun t => (t, a.tmps.getD t undef)) t = some v := fun t ht => by
       rw [ZN]; cases lk F t with
       | some u => exact ⟨u, rfl⟩
       | none => exact ⟨_, Jtj a n t ht⟩
      obtain ⟨u, rfl, hww, hVu, hfr, hcu⟩ := hq; obtain ⟨d, hdd, hdn⟩ := hdst i hil; rw [hdd] at hL' hd; simp only [Option.getD_some] at hL'; simp only [Bool.and_eq_true, List.all_eq_true, List.mem_range, Bool.or_eq_true, beq_iff_eq, bne_iff_ne, ne_eq] at hd; have hsame' : ∀ t v, t ≠ d -> a.tmps[t]? = some v -> a'.tmps[t]? = some v := fun t v hne hv => by
       have ht : t < n := by have := (Array.getElem?_eq_some_iff.1 hv).1; rw [I.sz] at this; exact this
       obtain ⟨v', hv'⟩ := hsome t ht; have h2 := hHF.at_ t v' hv'; rw [hv] at h2; cases h2; exact hL'.at_ t v (by rw [Jdq (Ne.symm hne)]; exact hv')
      have hnew : a'.tmps[d]? = some u := hL'.at_ d u (Za _ _ _); have hgw : w.grownBy w' none := by
       by_cases hp' : p.pure = true
       .rw [if_pos hp'] at hww; subst hww; exact Jd _
       .rw [if_neg hp'] at hww; exact hww
      have hVk : ∀ k, listed.getD k false = true -> k ≠ l.length + 1 -> V k (vals k) w' := fun k h hne => hV k _ w w' (I.vs k h hne) hgw; have hDk : ∀ k, listed.getD k false = true -> ∀ g, D k (vals k) w' g -> D k (vals k) w g := fun k h => hD k _ w w' (I.vs k h (by have := hnm k h; omega)) hgw; refine ih _ (fun k => if k = i then u else vals k) a' w' (by simpa using hsz) hcount hm0' ⟨hL'.nd, hL'.sz, fun t v ht hk => ?_, fun k t hk ht => ?_, fun h => ?_, fun h => trivial, fun k hk hne => ?_, hcl, hlt⟩ ⟨fun k hk ha g hg => ?_, fun j k hjk hj hk ha1 ha2 g hg => ?_, fun x y hx hc => ?_⟩
      .exact hsame' t v (fun e' => hk i (hset' i (.inl rfl)) (by rw [hdd, e'])) (I.old t v ht fun k h => hk k (hset' k (.inr h)))
      .by_cases ek : k = i
       .subst ek; rw [hdd] at ht; cases ht; simpa using hnew
       .rw [if_neg ek]; rcases hset k hk with h | h
        .exact absurd h ek
        .refine hsame' t _ (fun e' => ?_) (I.new k t h ht); rcases hd.2 k (hnm k h).1 with h' | h'
         .exact ek h'
         .exact h' (by rw [ht, e'])
      .refine Jbt (I.wd ?_) hgw; cases hb : listed.getD (l.length + 1) false with
       | false => rfl
       | true => have := I.lt _ hb; omega
      .by_cases ek : k = i
       .subst ek; simpa using hVu
       .rw [if_neg ek]; rcases hset k hk with h | h
        .exact absurd h ek
        .exact hVk k h hne
      .by_cases ek : k = i
       .subst ek; rw [if_pos rfl] at hg; exact (hfr ha g hg).2
       .rw [if_neg ek] at hg; exact Nat.lt_of_lt_of_le (hap.lt k ((hset k hk).resolve_left ek) ha g (hDk k ((hset k hk).resolve_left ek) g hg)) hgw.size
      .by_cases ej : j = i
       .subst ej; rw [if_pos rfl] at hg; rw [if_neg (Ne.symm hjk)]; have h3 := (hfr ha1 g hg).1; intro h4; have := hap.lt k ((hset k hk).resolve_left (Ne.symm hjk)) ha2 g (hDk k ((hset k hk).resolve_left (Ne.symm hjk)) g h4); omega
       .rw [if_neg ej] at hg; have hj' := (hset j hj).resolve_left ej; by_cases ek : k = i
        .subst ek; rw [if_pos rfl]; intro h4; have h3 := (hfr ha2 g h4).1; have := hap.lt j hj' ha1 g (hDk j hj' g hg); omega
        .rw [if_neg ek]; exact fun h4 => hap.ap j k hjk hj' ((hset k hk).resolve_left ek) ha1 ha2 g (hDk j hj' g hg) (hDk k ((hset k hk).resolve_left ek) g h4)
      .by_cases ex : x = i
       .subst ex; obtain ⟨uy, h1, huy⟩ := hcu y hc; have hym : y ∈ Qf l x := by
         have := List.all_eq_true.1 hcp x (List.mem_range.2 hil); rw [hc] at this
         simpa using this
        have hyd := hpre' y hym; obtain ⟨dy, hdy, _⟩ := hdst y (hnm y hyd).1; rw [hdy] at h1; have h2 := hHF.at_ _ _ h1; have h3 := I.new y dy hyd hdy; simp only [Option.getD_some] at h2; rw [h3] at h2; have hyx : y ≠ x := fun e => by rw [e, hun] at hyd; cases hyd
        rw [if_pos rfl, if_neg hyx]
        first | (rw [Option.some.inj h2] at huy ⊢; exact huy) | (rw [Option.some.inj h2]; exact huy) | (rw [<- Option.some.inj h2]; exact huy)
       .have hx' := (hset x hx).resolve_left ex; have h1 := hap.cp_ x y hx' hc; have hym : y ∈ Qf l x := by
         have := List.all_eq_true.1 hcp x (List.mem_range.2 (hnm x hx').1); rw [hc] at this
         simpa using this
        have hyd := I.cl x hx' y hym; have hyi : y ≠ i := fun e => by rw [e, hun] at hyd; cases hyd
        rw [if_neg ex, if_neg hyi]; exact h1
     unfold wpOpIn; rw [ho]; simp only [wpListIn] at hW; by_cases hwant : Region.wanted o (yielded l.toArray a.tmps) = true
     .rw [if_pos hwant] at hW; simp only [hwant, if_true]; exact (Y7 fin' (fun e a w hne h => by cases e <;> first | exact absurd rfl hne | (obtain ⟨_, _, _, h⟩ := h; exact h.elim)) hW)
     .rw [if_neg hwant] at hW; simp only [hwant, if_false, Bool.false_eq_true]; exact ⟨fun _ _ => trivial, fin' _ _ hW.2⟩
 have hsz0 : ((Array.replicate l.toArray.size false).toList.filter (!·)).length = m + (l.length - m) := by simp; omega
 have := key m (Array.replicate l.toArray.size false) (fun _ => undef) a { w0 with drawn := w0.drawn + 1 } (by simp) hsz0 (fun k h => by rw [Ye] at h; cases h) {
  nd := ha.nd, sz := ha.sz
  old := fun t v h _ => ha.at_ t v h
  new := fun k t h => by rw [Ye] at h; cases h
  wd := fun _ => ⟨rfl, rfl, rfl, Nat.le_refl _, fun _ _ _ => rfl⟩
  ws := fun h => trivial
  vs := fun k h => by rw [Ye] at h; cases h
  cl := fun k h => by rw [Ye] at h; cases h
  lt := fun k h => by rw [Ye] at h; cases h } (Ap.mk (fun k h => by rw [Ye] at h; cases h) (fun j k _ h => by rw [Ye] at h; cases h) (fun i j h => by rw [Ye] at h; cases h))
 rw [show m + (l.length - m) = l.toArray.size by simp; omega] at this; exact this
theorem Jpg {n m : Nat} {l : List Oper} {ps : List Plan} {fs : List Nat} (h : Jdc n l ps m fs = true) : Jlp n l ps m fs m = true := by
 have e : ∀ i, (Nat.blt i m && i != m) = Nat.blt i m := fun i => by
  cases hb : Nat.blt i m with
  | false => rfl
  | true =>
   have h1 : i < m := by rw [Nat.blt_eq] at hb; exact hb
   simp only [Bool.true_and, bne_iff_ne, ne_eq]; omega
 unfold Jlp; simp only [e]; exact h
theorem Jl3 {P : Program} {n : Nat} {ro : Option Nat} {df : List Deferred} {l : List Oper} {al : Nat -> Bool} {cp : Nat -> Option Nat} {ph : Nat -> Value -> Value -> Prop} {V : Nat -> Value -> World -> Prop} {D : Nat -> Value -> World -> Nat -> Prop} {w0 : World} {L : Fr} {o9 : Nat} : ∀ (os : List Oper) (ps : List Plan) (bs : List Fr) (i : Nat),
  Jnt P n ro df l al cp ph V D w0 L i os ps bs -> obsH P n ro df l al cp ph V D w0 L o9 i os ps bs
 | [], [], [], _, _ => trivial
 | [], _ :: _, _, _, h => h.elim
 | [], [], _ :: _, _, h => h.elim
 | _ :: _, [], _, _, h => h.elim
 | _ :: _, _ :: _, [], _, h => h.elim
 | o :: os, p :: ps, b :: bs, i, h => ⟨⟨h.1.1, h.1.2.1, fun _ => h.1.2.2⟩, Jl3 os ps bs (i + 1) h.2⟩
theorem Ji3 {P : Program} {n id : Nat} {ro : Option Nat} {df : List Deferred} {l : List Oper} {N : J0} {B : Qi} {L : Fr} {w0 : World} (m : Nat) (fs : List Nat) (al : Nat -> Bool) (cp : Nat -> Option Nat) (ph : Nat -> Value -> Value -> Prop) (ps : List Plan) (bs : List Fr) (V : Nat -> Value -> World -> Prop) (D : Nat -> Value -> World -> Nat -> Prop)
  (hm : P.follows .mixedOrders = true) (hB : Jdc n l ps m fs = true)
  (hV : ∀ j v w1 w2, V j v w1 -> w1.grownBy w2 none -> V j v w2)
  (hD : ∀ j v w1 w2, V j v w1 -> w1.grownBy w2 none -> ∀ g, D j v w2 g -> D j v w1 g)
  (hcp : (List.range m).all (fun i => match cp i with | none => true | some j => (Qf l i).contains j) = true)
  (hobs : Jnt P n ro df l al cp ph V D w0 L 0 (l.take m) ps bs)
  (hN2 : ∀ X ∈ Jfe fs, ∀ (vals : Nat -> Value) w', w0.grownBy w' none -> (∀ i, i < m -> X.contains i = false -> V i (vals i) w') -> (∀ j k, j ≠ k -> j < m -> k < m -> X.contains j = false -> X.contains k = false -> al j = true -> al k = true -> ∀ g, D j (vals j) w' g -> ¬ D k (vals k) w' g) -> (∀ i j, i < m -> X.contains i = false -> cp i = some j -> ph i (vals j) (vals i)) -> ∀ q, q = (((List.range l.length).map fun k => Nat.blt k m && !(X.contains k)).filter (!·)).length ->
   WA P n ro df l N q ((List.range l.length).map fun k => Nat.blt k m && !(X.contains k)) ((((List.range m).filterMap fun i => if X.contains i = true then none else (JW l i).map fun t => (t, vals i))) ++ L) w') : W P n ro df (.region id l.toArray true) N B L w0 :=
 Jr8 m fs m al cp ph ps bs V D hm (Jpg hB) hV hD hcp (Jl3 _ _ _ _ hobs) (fun X hX _ => hN2 X hX)
end Go.Proofs.Ytjgpkljepgcekaa
namespace Go.Proofs.Ytjgpkljepgcekaa
open Go.RowKit
section
variable {b : Nat} {mr : Option Nat} {w w' : World} {R L : List Rw}
theorem Rows.perm {L L' : List Rw} (hp : L.Perm L') : Rows b mr w L -> Rows b mr w L' := by
 induction hp with
 | nil => exact id
 | cons x hp ih => exact fun h => ⟨h.1, fun s hs => h.2.1 s (hp.mem_iff.2 hs), ih h.2.2⟩
 | swap x y l =>
  exact fun h => ⟨h.2.2.1, fun s hs => by
   rcases List.mem_cons.1 hs with rfl | hs
   .exact (h.2.1 _ (List.mem_cons_self ..)).symm
   .exact h.2.2.2.1 s hs, h.1, fun s hs => h.2.1 s (List.mem_cons_of_mem _ hs), h.2.2.2.2⟩
 | trans _ _ ih1 ih2 => exact fun h => ih2 (ih1 h)
theorem Rows.cut : ∀ {L : List Rw}, Rows b mr w (L ++ R) -> Rows b mr w L /\ (∀ r ∈ L, ∀ s ∈ R, r.Apt s) /\ Rows b mr w R
 | [], h => ⟨trivial, fun _ h => by simp at h, h⟩
 | r :: L, h => by
  obtain ⟨h1, h2, h3⟩ := Rows.cut (L := L) h.2.2; refine ⟨⟨h.1, fun s hs => h.2.1 s (List.mem_append_left _ hs), h1⟩, fun q hq s hs => ?_, h3⟩; rcases List.mem_cons.1 hq with rfl | hq
  .exact h.2.1 s (List.mem_append_right _ hs)
  .exact h2 q hq s hs
theorem ZZ : ∀ {L : List Rw}, Rows b mr w L -> (∀ r ∈ L, ∀ s ∈ R, r.Apt s) -> Rows b mr w R -> Rows b mr w (L ++ R)
 | [], _, _, h => h
 | r :: L, h, ha, hR => ⟨h.1, fun s hs => by
  rcases List.mem_append.1 hs with hs | hs
  .exact h.2.1 s hs
  .exact ha r (List.mem_cons_self ..) s hs, ZZ h.2.2 (fun q hq => ha q (List.mem_cons_of_mem _ hq)) hR⟩
def Rw.isRow : Rw -> Bool
  | .row .. => true
  | _ => false
def grp (L : List Rw) : Rw := .mu (fun g => ∃ r ∈ L, r.at_ g) (fun w => Rows 0 none w L)
theorem Own.block {w w' : World} {b e z m c : Nat} {A : Option Addr} {cs : List Value} (h : Own b w e z A m c cs) (hk : ∀ g, bl A = some g -> w'.heap[g]? = w.heap[g]?) : Own b w' e z A m c cs :=
 ⟨h.1, h.2.imp id fun ⟨g, cap, cur, h1, h2, h3, h4⟩ => ⟨g, cap, cur, h1, h2, (hk g (by cases h1; rfl)).trans h3, h4⟩⟩
theorem Rows.steady : ∀ {L : List Rw}, (∀ r ∈ L, r.isRow = true) -> (∀ g, (∃ r ∈ L, r.at_ g) -> w'.heap[g]? = w.heap[g]?) -> Rows b mr w L -> Rows b mr w' L
 | [], _, _, _ => trivial
 | r :: L, hr, hk, h => by
  refine ⟨?_, h.2.1, Rows.steady (fun q hq => hr q (List.mem_cons_of_mem _ hq)) (fun g ⟨q, hq, hg⟩ => hk g ⟨q, List.mem_cons_of_mem _ hq, hg⟩) h.2.2⟩; have h1 := hr r (List.mem_cons_self ..); have h2 := h.1; cases r with
  | row e z A m c cs => exact ⟨h2.1.block fun g hg => hk g ⟨_, List.mem_cons_self .., hg⟩, h2.2⟩
  | _ => cases h1
theorem Rows.low : ∀ {L : List Rw}, (∀ r ∈ L, r.isRow = true) -> Rows b mr w L -> Rows 0 none w L
 | [], _, _ => trivial
 | r :: L, hr, h => by
  refine ⟨?_, h.2.1, Rows.low (fun q hq => hr q (List.mem_cons_of_mem _ hq)) h.2.2⟩; have h1 := hr r (List.mem_cons_self ..); have h2 := h.1; cases r with
  | row e z A m c cs => exact ⟨h2.1, fun g _ => .inl (Nat.zero_le _)⟩
  | _ => cases h1
theorem Rows.high : ∀ {L : List Rw}, (∀ r ∈ L, r.isRow = true) -> (∀ g, (∃ r ∈ L, r.at_ g) -> b <= g ∨ mr = some g) -> Rows 0 none w L -> Rows b mr w L
 | [], _, _, _ => trivial
 | r :: L, hr, hk, h => by
  refine ⟨?_, h.2.1, Rows.high (fun q hq => hr q (List.mem_cons_of_mem _ hq)) (fun g ⟨q, hq, hg⟩ => hk g ⟨q, List.mem_cons_of_mem _ hq, hg⟩) h.2.2⟩; have h1 := hr r (List.mem_cons_self ..); have h2 := h.1; cases r with
  | row e z A m c cs => exact ⟨h2.1, fun g hg => hk g ⟨_, List.mem_cons_self .., hg⟩⟩
  | _ => cases h1
theorem Jsy {r : Rw} (h : r.isRow = true) : r.mut = true := by cases r <;> first | rfl | cases h
theorem Rows.row_own : ∀ {L : List Rw}, (∀ r ∈ L, r.isRow = true) -> Rows b mr w L -> ∀ g, (∃ r ∈ L, r.at_ g) -> (∃ o : Obj, w.heap[g]? = some o /\ o.isCells = true) /\ (b <= g ∨ mr = some g) := fun hr h g ⟨r, hm, hg⟩ => by
 have h1 := hr r hm; have h2 := h.mem hm; cases r with
 | row e z A m c cs => exact ⟨YS h2.1 g hg, h2.2 g hg⟩
 | _ => cases h1
theorem Rows.toGrp {L : List Rw} (hr : ∀ r ∈ L, r.isRow = true) (h : Rows b mr w (L ++ R)) : Rows b mr w (grp L :: R) := by
 obtain ⟨h1, h2, h3⟩ := h.cut; exact ⟨⟨h1.low hr, h1.row_own hr, fun w1 w2 _ hk hw => hw.steady hr hk⟩, fun s hs _ g ⟨r, hm, hg⟩ => h2 r hm s hs (by rw [Jsy (hr r hm)]; rfl) g hg, h3⟩
theorem Rows.ofGrp {L : List Rw} (hr : ∀ r ∈ L, r.isRow = true) (h : Rows b mr w (grp L :: R)) : Rows b mr w (L ++ R) :=
 ZZ (h.1.1.high hr fun g hg => (h.1.2.1 g hg).2) (fun r hm s hs _ g h1 h2 => h.2.1 s hs rfl g ⟨r, hm, h1⟩ h2) h.2.2
end
section
variable {X : World -> Prop} {w0 w w' : World} {mr : Option Nat} {R L : List Rw}
theorem St.perm {L' : List Rw} (h : St X w0 mr w L) (hp : L.Perm L') : St X w0 mr w L' := ⟨h.ext, h.rows.perm hp, h.x, h.cl, h.lt⟩
theorem St.toGrp (hr : ∀ r ∈ L, r.isRow = true) (h : St X w0 mr w (L ++ R)) : St X w0 mr w (grp L :: R) := ⟨h.ext, h.rows.toGrp hr, h.x, h.cl, h.lt⟩
theorem St.ofGrp (hr : ∀ r ∈ L, r.isRow = true) (h : St X w0 mr w (grp L :: R)) : St X w0 mr w (L ++ R) := ⟨h.ext, h.rows.ofGrp hr, h.x, h.cl, h.lt⟩
theorem St.tail {r : Rw} (h : St X w0 mr w (r :: R)) : St X w0 mr w R := ⟨h.ext, h.rows.2.2, h.x, h.cl, h.lt⟩
theorem Jsc {T : List Rw} (l : List Rw) (is : List Nat) (hn : Jbo is = true) (h : St X w0 mr w (l ++ T)) : St X w0 mr w ((is.filterMap fun i => l[i]?) ++ T) := by
  obtain ⟨h1, h2, h3⟩ := h.rows.cut
  exact ⟨h.ext, ZZ (h1.pick is hn) (fun r hr s hs => by
    obtain ⟨i, hi, hr'⟩ := List.mem_filterMap.1 hr
    exact h2 r (List.mem_of_getElem? hr') s hs) h3, h.x, h.cl, h.lt⟩
end
abbrev Hs := Nat -> Option Addr × Nat
def up (hs : Hs) (i : Nat) (h : Option Addr × Nat) : Hs := fun j => if j = i then h else hs j
def JB (hs : Hs) (ls : LL) : List Value := ls.mapIdx fun i l => .slice (hs i).1 l.length (hs i).2
def inr (eI : Nat) (hs : Hs) (ls : LL) : List Rw := ls.mapIdx fun i l => .row eI 1 (hs i).1 l.length (hs i).2 (is l)
def mx (eS eI : Nat) (A : Option Addr) (m c : Nat) (hs : Hs) (ls : LL) : Rw := grp (.row eS 1 A m c (JB hs ls) :: inr eI hs ls)
theorem Jf9 (eI : Nat) (hs : Hs) (ls : LL) : ∀ r ∈ inr eI hs ls, r.isRow = true := fun r hr => by
 obtain ⟨i, hi, rfl⟩ := List.mem_mapIdx.1 hr; rfl
theorem Jj9 (eS eI : Nat) (A : Option Addr) (m c : Nat) (hs : Hs) (ls : LL) : ∀ r ∈ (Rw.row eS 1 A m c (JB hs ls) :: inr eI hs ls), r.isRow = true := fun r hr => by
 rcases List.mem_cons.1 hr with rfl | hr
 .rfl
 .exact Jf9 _ _ _ r hr
def sll (ls : LL) (I : Int) (l : LI) : LL := ls.set I.toNat l
theorem Jsu (ls : LL) (I : Int) (l : LI) : (sll ls I l).length = ls.length := by simp [sll]
theorem Yo (hs : Hs) (ls : LL) : (JB hs ls).length = ls.length := by simp [JB]
theorem Jcv (eI : Nat) (hs : Hs) (ls : LL) (i : Nat) (h : Option Addr × Nat) (l : LI) : inr eI (up hs i h) (ls.set i l) = (inr eI hs ls).set i (.row eI 1 h.1 l.length h.2 (is l)) := by
 apply List.ext_getElem?; intro j; simp only [inr, List.getElem?_mapIdx, List.getElem?_set, List.length_mapIdx]; by_cases hj : i = j
 .subst hj; by_cases hl : i < ls.length <;> simp [up, hl]
 .have hj' : ¬ j = i := fun e => hj e.symm; simp [hj, up, hj']
theorem Zc (hs : Hs) (ls : LL) (i : Nat) (h : Option Addr × Nat) (l : LI) : JB (up hs i h) (ls.set i l) = (JB hs ls).set i (.slice h.1 l.length h.2) := by
 apply List.ext_getElem?; intro j; simp only [JB, List.getElem?_mapIdx, List.getElem?_set, List.length_mapIdx]; by_cases hj : i = j
 .subst hj; by_cases hl : i < ls.length <;> simp [up, hl]
 .have hj' : ¬ j = i := fun e => hj e.symm; simp [hj, up, hj']
theorem Jll (hs : Hs) (i : Nat) : up hs i (hs i) = hs := by
 funext j; by_cases h : j = i <;> simp [up, h]
theorem YC {α : Type} {ls : List α} {i : Nat} {d : α} (h : i < ls.length) : ls[i]? = some (ls.getD i d) := by
 rw [List.getElem?_eq_getElem h, List.getD_eq_getElem?_getD, List.getElem?_eq_getElem h]; rfl
theorem Zb (eI : Nat) (hs : Hs) (ls : LL) {i : Nat} (hi : i < ls.length) : (inr eI hs ls)[i]? = some (.row eI 1 (hs i).1 (ls.getD i []).length (hs i).2 (is (ls.getD i []))) := by
 simp only [inr, List.getElem?_mapIdx, YC (d := []) hi, Option.map_some]
theorem QW (hs : Hs) (ls : LL) {i : Nat} (hi : i < ls.length) : (JB hs ls)[i]? = some (.slice (hs i).1 (ls.getD i []).length (hs i).2) := by
 simp only [JB, List.getElem?_mapIdx, YC (d := []) hi, Option.map_some]
theorem Jct {α : Type} : ∀ {l : List α} {i : Nat} {a : α}, l[i]? = some a -> l.Perm (a :: l.eraseIdx i)
 | [], _, _, h => by simp at h
 | x :: l, 0, a, h => by cases h; exact List.Perm.refl _
 | x :: l, i + 1, a, h => ((Jct (l := l) (i := i) (by simpa using h)).cons x).trans (List.Perm.swap _ _ _)
theorem Jax {α : Type} : ∀ {l : List α} {i : Nat} {a : α}, i < l.length -> (a :: l.eraseIdx i).Perm (l.set i a)
 | [], _, _, h => by simp at h
 | x :: l, 0, a, h => List.Perm.refl _
 | x :: l, i + 1, a, h => (List.Perm.swap _ _ _).trans ((Jax (l := l) (i := i) (by simpa using h)).cons x)
section
variable {X : World -> Prop} {w0 w w' : World} {mr : Option Nat} {R : List Rw} {eS eI m c : Nat} {A : Option Addr} {hs : Hs} {ls : LL}
theorem St.mxOpen (h : St X w0 mr w (mx eS eI A m c hs ls :: R)) : St X w0 mr w (.row eS 1 A m c (JB hs ls) :: (inr eI hs ls ++ R)) := h.ofGrp (Jj9 eS eI A m c hs ls)
theorem QY (h : St X w0 mr w (.row eS 1 A m c (JB hs ls) :: (inr eI hs ls ++ R))) : St X w0 mr w (mx eS eI A m c hs ls :: R) := St.toGrp (Jj9 eS eI A m c hs ls) h
theorem Rows.mxlen (h : (mx eS eI A m c hs ls).holds 0 mr w) : ls.length = m := by
 have := h.1.1.1.len; rw [Yo] at this; omega
theorem St.mxrows {i : Nat} (h : St X w0 mr w R) (hi : R[i]? = some (mx eS eI A m c hs ls)) : Rows 0 none w (.row eS 1 A m c (JB hs ls) :: inr eI hs ls) := (h.rows.get hi).1
theorem St.mxlen {i : Nat} (h : St X w0 mr w R) (hi : R[i]? = some (mx eS eI A m c hs ls)) : ls.length = m := by
 have := (h.mxrows hi).1.1.len; rw [Yo] at this; omega
theorem St.mxout {i : Nat} (h : St X w0 mr w R) (hi : R[i]? = some (mx eS eI A m c hs ls)) : Rd w.heap.size w 1 A m c (JB hs ls) := (h.mxrows hi).1.1.rd
theorem St.mxrd {i : Nat} (h : St X w0 mr w R) (hi : R[i]? = some (mx eS eI A m c hs ls)) {I : Int} (hI : 0 <= I /\ I < (m : Nat)) : Rd w.heap.size w 1 (hs I.toNat).1 (gl ls I).length (hs I.toNat).2 (is (gl ls I)) := by
 have hl := h.mxlen hi; have h2 := (h.mxrows hi).2.2.get (Zb eI hs ls (i := I.toNat) (by omega)); exact h2.1.rd
theorem St.mxcell {i : Nat} (h : St X w0 mr w R) (hi : R[i]? = some (mx eS eI A m c hs ls)) {I : Int} (hI : 0 <= I /\ I < (m : Nat)) : w.cell? ((JH A).add I.toNat) = some (.slice (hs I.toNat).1 (gl ls I).length (hs I.toNat).2) := by
 have hl := h.mxlen hi; exact (h.mxout hi).at_ (QW hs ls (by omega))
theorem Al.mk {w : World} (eI : Nat) (f : Nat -> Nat) : ∀ (ls : LL) (hs : Hs), Rows 0 none w (inr eI hs ls) -> Al w (JB hs ls) ls
 | [], _, _ => trivial
 | l :: ls, hs, h => by
  simp only [inr, List.mapIdx_cons] at h; simp only [JB, List.mapIdx_cons]; exact ⟨⟨_, _, _, rfl, h.1.1.rd⟩, Al.mk eI f ls (fun i => hs (i + 1)) h.2.2⟩
theorem St.rl {i : Nat} (h : St X w0 mr w R) (hi : R[i]? = some (mx eS eI A m c hs ls)) : Rl w A m c ls := ⟨_, _, h.mxout hi, Al.mk eI id ls hs (h.mxrows hi).2.2⟩
def mxh (eS eI : Nat) (A : Option Addr) (m c : Nat) (hs : Hs) (ls : LL) (I : Int) : Rw := grp (.row eS 1 A m c (JB hs ls) :: (inr eI hs ls).eraseIdx I.toNat)
theorem Jl8 (eS eI : Nat) (A : Option Addr) (m c : Nat) (hs : Hs) (ls : LL) (I : Int) : ∀ r ∈ (Rw.row eS 1 A m c (JB hs ls) :: (inr eI hs ls).eraseIdx I.toNat), r.isRow = true := fun r hr => by
 rcases List.mem_cons.1 hr with rfl | hr
 .rfl
 .exact Jf9 _ _ _ r (List.mem_of_mem_eraseIdx hr)
theorem St.mxTake {I : Int} (hI : 0 <= I /\ I < (m : Nat)) (h : St X w0 mr w (mx eS eI A m c hs ls :: R)) : St X w0 mr w (.row eI 1 (hs I.toNat).1 (gl ls I).length (hs I.toNat).2 (is (gl ls I)) :: mxh eS eI A m c hs ls I :: R) := by
 have hl := h.mxlen (i := 0) rfl; have h1 := h.mxOpen; have hp := Jct (Zb eI hs ls (i := I.toNat) (by omega)); have h2 : St X w0 mr w ((.row eS 1 A m c (JB hs ls) :: (inr eI hs ls).eraseIdx I.toNat) ++ (.row eI 1 (hs I.toNat).1 (gl ls I).length (hs I.toNat).2 (is (gl ls I)) :: R)) := h1.perm (by
  refine (((hp.append_right R)).cons _).trans ?_; exact (List.perm_middle.symm).cons _)
 exact (h2.toGrp (Jl8 eS eI A m c hs ls I)).perm (List.Perm.swap _ _ _)
theorem Je3 {I : Int} {l : LI} (hI : 0 <= I /\ I < (m : Nat)) (hl : ls.length = m) (hll : l.length = (gl ls I).length) (h : St X w0 mr w (.row eI 1 (hs I.toNat).1 (gl ls I).length (hs I.toNat).2 (is l) :: mxh eS eI A m c hs ls I :: R)) : St X w0 mr w (mx eS eI A m c hs (sll ls I l) :: R) := by
  have h1 := (h.perm (List.Perm.swap _ _ _)).ofGrp (Jl8 eS eI A m c hs ls I)
  refine QY ?_
  have e1 : inr eI hs (sll ls I l) = (inr eI hs ls).set I.toNat (.row eI 1 (hs I.toNat).1 l.length (hs I.toNat).2 (is l)) := by
    have := Jcv eI hs ls I.toNat (hs I.toNat) l
    rwa [Jll] at this
  have e2 : JB hs (sll ls I l) = JB hs ls := by
    have := Zc hs ls I.toNat (hs I.toNat) l
    rw [Jll] at this
    show JB hs (ls.set I.toNat l) = _
    rw [this, hll]
    exact List.set_getElem?_self (QW hs ls (i := I.toNat) (by omega))
  rw [e1, e2]
  refine h1.perm ?_
  refine List.Perm.cons _ ?_
  refine List.perm_middle.trans ?_
  rw [<- hll]
  exact (Jax (by simp [inr]; omega)).append_right R
theorem St.mxPut {I : Int} {A2 : Option Addr} {m2 c2 : Nat} {l : LI} {w' : World} (hI : 0 <= I /\ I < (m : Nat)) (hm2 : m2 = l.length) (h : St X w0 mr w (.row eI 1 A2 m2 c2 (is l) :: mx eS eI A m c hs ls :: R))
    (hg : w.grownBy w' (bl A)) (hO : Own 0 w' eS 1 A m c ((JB hs ls).set I.toNat (.slice A2 l.length c2))) : St X w0 mr w' (mx eS eI A m c (up hs I.toNat (A2, c2)) (sll ls I l) :: R) := by
  subst hm2
  have hl := h.mxlen (i := 1) rfl
  have h1 := (h.perm (List.Perm.swap _ _ _)).mxOpen
  have h2 := h1.put (i := 0) rfl hg hO (.inl rfl)
  refine QY ?_
  show St X w0 mr w' (.row eS 1 A m c (JB (up hs I.toNat (A2, c2)) (ls.set I.toNat l)) :: (inr eI (up hs I.toNat (A2, c2)) (ls.set I.toNat l) ++ R))
  rw [Jcv, Zc]
  have h3 : St X w0 mr w' (.row eI 1 A2 l.length c2 (is l) :: .row eS 1 A m c ((JB hs ls).set I.toNat (.slice A2 l.length c2)) :: (inr eI hs ls ++ R)) := h2.perm (by
    show (Rw.row eS 1 A m c _ :: (inr eI hs ls ++ (Rw.row eI 1 A2 l.length c2 (is l) :: R))).Perm _
    exact (List.perm_middle.cons _).trans (List.Perm.swap _ _ _))
  have hp := Jct (Zb eI hs ls (i := I.toNat) (by omega))
  have h4 := h3.perm (((hp.append_right R).cons _).cons _ |>.trans (((List.Perm.swap _ _ _)).cons _) |>.trans (List.Perm.swap _ _ _))
  have h5 := h4.tail
  refine h5.perm ?_
  refine (List.Perm.swap _ _ _).trans (List.Perm.cons _ ?_)
  exact (Jax (l := inr eI hs ls) (by simp [inr]; omega)).append_right R
end
end Go.Proofs.Ytjgpkljepgcekaa
namespace Go.Proofs.Ytjgpkljepgcekaa
open Go.RowKit
theorem Jni {α : Type} {l : List α} {i : Nat} {a b : α} (h : l[i]? = some a) : (b :: l.eraseIdx i).Perm (l.set i b) := Jax (List.getElem?_eq_some_iff.1 h).1
def Jd1 (m : Nat) (hs hs' : Hs) : Hs := fun i => if i < m then hs i else hs' (i - m)
theorem Jkf (eI : Nat) (hs hs' : Hs) (ls ls' : LL) : inr eI (Jd1 ls.length hs hs') (ls ++ ls') = inr eI hs ls ++ inr eI hs' ls' := by
 apply List.ext_getElem?; intro j; simp only [inr, List.getElem?_append, List.getElem?_mapIdx, List.length_mapIdx]; by_cases h : j < ls.length <;> simp [h, Jd1]
theorem Jeh (hs hs' : Hs) (ls ls' : LL) : JB hs ls ++ JB hs' ls' = JB (Jd1 ls.length hs hs') (ls ++ ls') := by
 apply List.ext_getElem?; intro j; simp only [JB, List.getElem?_append, List.getElem?_mapIdx, List.length_mapIdx]; by_cases h : j < ls.length <;> simp [h, Jd1]
theorem Jkj (hs : Hs) (ls : LL) : ∀ u ∈ JB hs ls, u.oneCell' = true := fun u hu => by
 obtain ⟨i, hi, rfl⟩ := List.mem_mapIdx.1 hu; rfl
theorem Jkk (n : Nat) : JB (fun _ => (none, 0)) (List.replicate n []) = List.replicate n (.slice none 0 0) := by
 apply List.ext_getElem?; intro j; simp only [JB, List.getElem?_mapIdx, List.getElem?_replicate]; split <;> rfl
theorem Jf5 (k : Nat) : (madeCells (Value.slice none 0 0).cells (k * 1)).toList = JB (fun _ => (none, 0)) (List.replicate k []) := by
 rw [Jkk]; simp [madeCells, Value.cells]; apply List.ext_getElem
 .simp
 .intro i h1 h2; simp [Nat.mod_one]
section
variable {X : World -> Prop} {w0 w w' : World} {mr : Option Nat} {R : List Rw} {eS eI m c : Nat} {A : Option Addr} {hs : Hs} {ls : LL}
theorem Rows.nils {b : Nat} (eI : Nat) : ∀ (n : Nat), Rows b mr w R -> Rows b mr w (inr eI (fun _ => (none, 0)) (List.replicate n []) ++ R)
 | 0, h => h
 | n + 1, h => by
  have ih := Rows.nils eI n h; have e : inr eI (fun _ => (none, 0)) (List.replicate (n + 1) []) = .row eI 1 none 0 0 [] :: inr eI (fun _ => (none, 0)) (List.replicate n []) := by
   rw [List.replicate_succ, inr, List.mapIdx_cons]; rfl
  rw [e]; exact ⟨⟨World.ownsRow_nil w 0 eI 1, fun g hg => absurd hg (by simp [bl])⟩, fun s _ _ g hg => absurd hg (by simp [Rw.at_, bl]), ih⟩
theorem Ji6 {n : Nat} (h : St X w0 mr w (.row eS 1 A n n (JB (fun _ => (none, 0)) (List.replicate n [])) :: R)) : St X w0 mr w (mx eS eI A n n (fun _ => (none, 0)) (List.replicate n []) :: R) := by
  refine QY ?_
  have h1 := h.perm (List.perm_append_singleton (Rw.row eS 1 A n n _) R).symm
  have h2 : St X w0 mr w (inr eI (fun _ => (none, 0)) (List.replicate n []) ++ (R ++ [.row eS 1 A n n (JB (fun _ => (none, 0)) (List.replicate n []))])) := ⟨h1.ext, h1.rows.nils eI n, h1.x, h1.cl, h1.lt⟩
  exact h2.perm (by rw [<- List.append_assoc]; exact List.perm_append_singleton _ _)
theorem St.mxNil (eS eI : Nat) (h : St X w0 mr w R) : St X w0 mr w (mx eS eI none 0 0 (fun _ => (none, 0)) [] :: R) := QY (h.nil (e := eS) (z := 1))
theorem St.mxShrink {k : Nat} (hk : k <= m) (h : St X w0 mr w (mx eS eI A m c hs ls :: R)) : St X w0 mr w (mx eS eI A k c hs (ls.take k) :: R) := by
  have h1 := h.mxOpen
  have hO := (h1.own (i := 0) rfl).take hk
  rw [Nat.mul_one] at hO
  have e1 : (JB hs ls).take k = JB hs (ls.take k) := by
    apply List.ext_getElem?
    intro j
    simp only [JB, List.getElem?_take, List.getElem?_mapIdx]
    split <;> simp_all
  rw [e1] at hO
  have e2 : inr eI hs ls = inr eI hs (ls.take k) ++ (inr eI hs ls).drop k := by
    conv => lhs; rw [<- List.take_append_drop k (inr eI hs ls)]
    congr 1
    apply List.ext_getElem?
    intro j
    simp only [inr, List.getElem?_take, List.getElem?_mapIdx]
    split <;> simp_all
  have h2 : St X w0 mr w (.row eS 1 A k c (JB hs (ls.take k)) :: (inr eI hs ls ++ R)) := ⟨h1.ext, h1.rows.putSame (i := 0) rfl hO, h1.x, h1.cl, h1.lt⟩
  refine QY ?_
  rw [e2] at h2
  obtain ⟨ha, hb, hc⟩ := Rows.cut (L := .row eS 1 A k c (JB hs (ls.take k)) :: inr eI hs (ls.take k)) (R := (inr eI hs ls).drop k ++ R) (by simpa using h2.rows)
  obtain ⟨_, _, hd⟩ := hc.cut
  exact ⟨h2.ext, ZZ (L := .row eS 1 A k c (JB hs (ls.take k)) :: inr eI hs (ls.take k)) ha (fun r hr s hs => hb r hr s (List.mem_append_right _ hs)) hd, h2.x, h2.cl, h2.lt⟩
theorem St.at_ {i : Nat} {r : Rw} (h : St X w0 mr w R) (hi : R[i]? = some r) : St X w0 mr w (r :: R.eraseIdx i) := h.perm (Jct hi)
theorem Jm3 {i : Nat} {r r' : Rw} (hi : R[i]? = some r) (h : St X w0 mr w (r' :: R.eraseIdx i)) : St X w0 mr w (R.set i r') := h.perm (Jni hi)
theorem St.relenMx {i m' : Nat} (h : St X w0 mr w R) (hi : R[i]? = some (mx eS eI A m c hs ls)) (hm : m = m') : St X w0 mr w (R.set i (mx eS eI A m' c hs ls)) := by
 subst hm; rw [List.set_getElem?_self hi]; exact h
end
section
variable {P : Program} {n : Nat} {ro : Option Nat} {df : List Deferred} {N : J0} {L : Fr} {w w0 : World} {ops : Array Oper} {rest : List Oper}
variable {d : Nat} {ty : TypeId} {pos : String} {af : Array Edge} {X : World -> Prop} {mr : Option Nat} {R : List Rw} {eS eI m c : Nat} {A : Option Addr} {hs : Hs} {ls : LL}
theorem JA {x i : Operand} {t e : TypeId} {by_ : Nat} {zero : Value} {k : IntKind} {I : Int} {wR : World} (q : Nat)
    (ht : P.underlying t = some (.slice e)) (he : Elem P e 1 by_ zero) (hS : St X w0 mr wR R) (hq : R[q]? = some (mx eS eI A m c hs ls)) (hx : ev L x = some (.slice A m c)) (hi : ev L i = some (.int k I)) (hI : 0 <= I /\ I < ((m : Nat) : Int)) (hn : Nat.blt d n = true)
    (h : WL P n ro df ops rest N ((d, .pointer (some ((JH A).add I.toNat))) :: L) w) : WL P n ro df ops (⟨some d, .indexAddr t x i, ty, pos, af, none⟩ :: rest) N L w :=
  Jf ht he (hS.mxout hq) hx hi hI hn h
theorem Yl {x y : Operand} {t by_ m2 c2 : Nat} {A2 : Option Addr} {zero : Value} {I : Int} {l : LI} (hS : St X w0 mr w (.row eI 1 A2 m2 c2 (is l) :: mx eS eI A m c hs ls :: R)) (he : Elem P t 1 by_ zero)
    (hI : 0 <= I /\ I < (m : Nat)) (hm2 : m2 = l.length)
    (hx : ev L x = some (.pointer (some ((JH A).add I.toNat)))) (hy : ev L y = some (.slice A2 m2 c2))
    (h : ∀ w', St X w0 mr w' (mx eS eI A m c (up hs I.toNat (A2, c2)) (sll ls I l) :: R) -> WL P n ro df ops rest N L w') : WL P n ro df ops (⟨none, .store t x y, ty, pos, af, none⟩ :: rest) N L w := by
  subst hm2
  have hO := (hS.mxrows (i := 1) rfl).1.1
  exact Jd4 he hx hy rfl (ti hI) hO fun w' h1 h2 => h w' (hS.mxPut hI rfl h2 h1)
theorem Jja {x y : Operand} {t e by_ m' c' : Nat} {zero : Value} {A' : Option Addr} {hs' : Hs} {ls' : LL} (hS : St X w0 mr w (mx e eI A' m' c' hs' ls' :: mx e eI A m c hs ls :: R)) (ht : P.underlying t = some (.slice e)) (he : Elem P e 1 by_ zero)
    (hx : ev L x = some (.slice A m c)) (hy : ev L y = some (.slice A' m' c')) (hmax : m + m' <= maxLen) (hby : (m + m') * by_ <= 140737488355328) (hn : Nat.blt d n = true)
    (h : ∀ A2 c2 w', St X w0 mr w' (mx e eI A2 (ls ++ ls').length c2 (Jd1 ls.length hs hs') (ls ++ ls') :: R) -> WL P n ro df ops rest N ((d, .slice A2 (ls ++ ls').length c2) :: L) w') :
    WL P n ro df ops (⟨some d, .call ⟨.builtin .append, #[x, y], #[t, t]⟩, ty, pos, af, none⟩ :: rest) N L w := by
  have hl := hS.mxlen (i := 1) rfl
  have hl' := hS.mxlen (i := 0) rfl
  have h1 := (hS.mxOpen.perm ((List.perm_middle.cons _).trans (List.Perm.swap _ _ _))).mxOpen
  -- pieces: outer, its rows, then outer', its rows, R
  have hR : Rd w.heap.size w 1 A' m' c' (JB hs' ls') := hS.mxout (i := 0) rfl
  have hmm : m + m' = (ls ++ ls').length := by rw [List.length_append, hl, hl']
  refine WL.append (cs := JB hs ls) (ls ++ ls').length (JB hs ls ++ JB hs' ls') ht he hx hy (h1.own (i := 0) rfl) hR (Jkj _ _) hmax hby (Nat.zero_le _) hmm rfl hn fun A2 c2 w' hO hG hA => h A2 c2 w' ?_
  have h2 := h1.put (i := 0) rfl hG hO (hA.imp id .inl)
  refine QY ?_
  rw [Jkf, <- Jeh]
  have h3 : St X w0 mr w' (.row e 1 A' m' c' (JB hs' ls') :: .row e 1 A2 (ls ++ ls').length c2 (JB hs ls ++ JB hs' ls') :: (inr eI hs ls ++ inr eI hs' ls' ++ R)) := h2.perm (by
    show (Rw.row e 1 A2 (ls ++ ls').length c2 _ :: (inr eI hs ls ++ (Rw.row e 1 A' m' c' (JB hs' ls') :: (inr eI hs' ls' ++ R)))).Perm _
    rw [List.append_assoc]
    exact (List.perm_middle.cons _).trans (List.Perm.swap _ _ _))
  exact h3.tail
theorem Jsd {A1 A2 : Option Addr} {m2 c1 c2 : Nat} {l : LI} (hm2 : m2 = l.length) (h : St X w0 mr w (.row eS 1 A1 1 c1 [.slice A2 m2 c2] :: .row eI 1 A2 m2 c2 (is l) :: R)) : St X w0 mr w (mx eS eI A1 1 c1 (fun _ => (A2, c2)) [l] :: R) := by
  subst hm2
  exact QY h
end
end Go.Proofs.Ytjgpkljepgcekaa
namespace Go.Proofs.Ytjgpkljepgcekaa
open Go.RowKit
theorem Jew (m n : Nat) (h : m <= n) : (List.range n).map (fun k => Nat.blt k m && !(([] : List Nat).contains k)) = List.replicate m true ++ List.replicate (n - m) false := by
 apply List.ext_getElem
 .simp; omega
 intro k h1 h2; simp only [List.getElem_map, List.getElem_range, List.getElem_append, List.length_replicate, List.getElem_replicate, List.contains_nil, Bool.not_false, Bool.and_true]; split
 .simpa [Nat.blt_eq] using ‹k < m›
 .rw [Bool.eq_false_iff]; intro hh; exact absurd (Nat.blt_eq.mp hh) ‹_›
theorem Jdr (m n : Nat) : ((List.replicate m true ++ List.replicate (n - m) false).filter (!·)).length = n - m := by simp
theorem Jue {P : Program} {n id : Nat} {ro : Option Nat} {df : List Deferred} {l : List Oper} {N : J0} {B : Qi} {L : Fr} {w0 : World} (m : Nat) (al : Nat -> Bool) (cp : Nat -> Option Nat) (ph : Nat -> Value -> Value -> Prop) (ps : List Plan) (bs : List Fr) (V : Nat -> Value -> World -> Prop) (D : Nat -> Value -> World -> Nat -> Prop)
  (hm : P.follows .mixedOrders = true) (hB : Jha n l ps m = true)
  (hV : ∀ j v w1 w2, V j v w1 -> w1.grownBy w2 none -> V j v w2)
  (hD : ∀ j v w1 w2, V j v w1 -> w1.grownBy w2 none -> ∀ g, D j v w2 g -> D j v w1 g)
  (hcp : (List.range m).all (fun i => match cp i with | none => true | some j => (Qf l i).contains j) = true)
  (hobs : Jnt P n ro df l al cp ph V D w0 L 0 (l.take m) ps bs)
  (hN : ∀ (vals : Nat -> Value) w', w0.grownBy w' none -> (∀ i, i < m -> V i (vals i) w') -> (∀ j k, j ≠ k -> j < m -> k < m -> al j = true -> al k = true -> ∀ g, D j (vals j) w' g -> ¬ D k (vals k) w' g) -> (∀ i j, i < m -> cp i = some j -> ph i (vals j) (vals i)) ->
   WA P n ro df l N (l.length - m) (List.replicate m true ++ List.replicate (l.length - m) false) ((((List.range m).filterMap fun i => (JW l i).map fun t => (t, vals i))) ++ L) w') : W P n ro df (.region id l.toArray true) N B L w0 := by
 have hG : Jdc n l ps m [] = true := by
  unfold Jdc; unfold Jha at hB; simp only [List.contains_nil, Bool.false_or]; exact hB
 have hlm : m <= l.length := by simp only [Jha, Bool.and_eq_true] at hB; simpa [Nat.ble_eq] using hB.1.1.1.2
 refine Ji3 m [] al cp ph ps bs V D hm hG hV hD hcp hobs fun X hX vals w' hw h1 h2 h3 q hq => ?_; obtain rfl : X = [] := by simpa [Jfe] using hX
 rw [Jew m l.length hlm] at hq ⊢; rw [Jdr] at hq; subst hq; have := hN vals w' hw (fun i hi => h1 i hi rfl) (fun j k hjk hj hk => h2 j k hjk hj hk rfl rfl) (fun i j hi => h3 i j hi rfl)
 simpa using this
end Go.Proofs.Ytjgpkljepgcekaa
namespace Go.Proofs.Ytjgpkljepgcekaa
open Go.RowKit
/-! ### regions that draw their order, all of whose values are known -/
theorem Ji0 {P : Program} {n : Nat} {ro : Option Nat} {df : List Deferred} {ops : Array Oper} {o : Oper} {N N' : J0} {L : Fr} {w : World} (h : ∀ df L w, N df L w -> N' df L w) (hw : WL P n ro df ops [o] N L w) : WL P n ro df ops [o] N' L w :=
  ⟨fun a ha B => by
    have hW := hw.out a ha B
    have f : ∀ e a w, Jbs n df N B e a w -> Jbs n df N' B e a w := by
      intro e a w hh
      cases e <;> first | exact hh | (obtain ⟨L, h1, h2⟩ := hh; exact ⟨L, h1, h _ _ _ h2⟩)
    simp only [wpListIn] at hW ⊢
    by_cases hwant : Region.wanted o (yielded ops a.tmps) = true
    . rw [if_pos hwant] at hW ⊢
      exact Y7 (fun a w hh => f _ _ _ hh) (fun e a w _ hh => f _ _ _ hh) hW
    . rw [if_neg hwant] at hW ⊢
      exact ⟨hW.1, f _ _ _ hW.2⟩⟩
def F0 : Nat × Value := (0, .int .i64 0)
def Jeo (F : Fr) : List Nat -> Fr -> Fr
  | [], A => A
  | j :: js, A => Jeo F js (F.getD j F0 :: A)
def obV (P : Program) (n : Nat) (ro : Option Nat) (df : List Deferred) (l : List Oper) (F : Fr) (w0 : World) (i : Nat) (o : Oper) (p : Plan) (b : Fr) : Prop :=
  ∀ w, (p.pure = false -> w0.grownBy w none) -> ∀ R : Fr, WL P n ro df l.toArray [o] (fun _ L' w' => L' = F.getD i F0 :: (Jeo F p.on b ++ R) /\ (if p.pure then w' = w else w.grownBy w' none)) (Jeo F p.on b ++ R) w
def obsV (P : Program) (n : Nat) (ro : Option Nat) (df : List Deferred) (l : List Oper) (F : Fr) (w0 : World) (L : Fr) : Nat -> List Oper -> List Plan -> List Fr -> Prop
  | i, o :: os, p :: ps, b :: bs => (b.map (·.1) = p.slots /\ sub b L /\ obV P n ro df l F w0 i o p b) /\ obsV P n ro df l F w0 L (i + 1) os ps bs
  | _, [], [], [] => True
  | _, _, _, _ => False
def eqV (F : Fr) : Nat -> Value -> World -> Prop := fun i v _ => v = (F.getD i F0).2
theorem Jlm {l : List Oper} {F : Fr} {w : World} {K : Fr -> Prop} : ∀ (js : List Nat) (A : Fr), (∀ j ∈ js, (JW l j).getD 0 = (F.getD j F0).1) -> K (Jeo F js A) -> Jnf l (eqV F) w K js A
 | [], _, _, h => h
 | j :: js, A, hd, h => by
  intro u hu; have hu : u = (F.getD j F0).2 := hu; have e : ((JW l j).getD 0, u) = F.getD j F0 := by rw [hd j List.mem_cons_self, hu]
  rw [e]; exact Jlm js _ (fun k hk => hd k (List.mem_cons_of_mem _ hk)) h
theorem Jl5 {P : Program} {n : Nat} {ro : Option Nat} {df : List Deferred} {l : List Oper} {F : Fr} {w0 : World} {L : Fr} {m : Nat} (hd : ∀ j, j < m -> (JW l j).getD 0 = (F.getD j F0).1) : ∀ (os : List Oper) (ps : List Plan) (bs : List Fr) (i : Nat), i + os.length <= m -> (∀ p ∈ ps, ∀ j ∈ p.on, j < m) ->
  obsV P n ro df l F w0 L i os ps bs -> Jnt P n ro df l (fun _ => false) (fun _ => none) (fun _ v u => u = v) (eqV F) (fun _ _ _ _ => False) w0 L i os ps bs
 | [], [], [], _, _, _, _ => trivial
 | [], [], _ :: _, _, _, _, h => h.elim
 | [], _ :: _, _, _, _, _, h => h.elim
 | _ :: _, [], _, _, _, _, h => h.elim
 | _ :: _, _ :: _, [], _, _, _, h => h.elim
 | o :: os, p :: ps, b :: bs, i, hi, hp, h => by
  simp only [List.length_cons] at hi; refine ⟨⟨h.1.1, h.1.2.1, fun w hw => Jlm _ _ (fun j hj => hd j (hp p List.mem_cons_self j hj)) fun R => Ji0 (fun df' L' w' ⟨h1, h2⟩ => ?_) (h.1.2.2 w hw R)⟩, Jl5 hd os ps bs (i + 1) (by omega) (fun q hq => hp q (List.mem_cons_of_mem _ hq)) h.2⟩; refine ⟨(F.getD i F0).2, ?_, h2, rfl, (fun h => Bool.noConfusion h), (fun j h => by cases h)⟩; rw [h1, hd i (by omega)]
theorem Jh7 {l : List Oper} {vals : Nat -> Value} : ∀ (is : List Nat) (F : Fr), is.map (JW l) = F.map (fun q => some q.1) -> is.map vals = F.map (·.2) -> (is.filterMap fun i => (JW l i).map fun t => (t, vals i)) = F
 | [], [], _, _ => rfl
 | [], _ :: _, h, _ => by simp at h
 | _ :: _, [], h, _ => by simp at h
 | i :: is, (t, v) :: F, h, h' => by
  simp only [List.map_cons, List.cons.injEq] at h h'; rw [List.filterMap_cons, h.1]; simp only [Option.map_some]; rw [Jh7 is F h.2 h'.2, h'.1]
theorem Juf {P : Program} {n id : Nat} {ro : Option Nat} {df : List Deferred} {l : List Oper} {N : J0} {B : Qi} {L : Fr} {w0 : World} (m : Nat) (ps : List Plan) (bs : List Fr) (F : Fr)
  (hm : P.follows .mixedOrders = true) (hB : (Jha n l ps m && ps.all fun p => p.on.all (Nat.blt · m)) = true) (hlen : F.length = m) (hds : (List.range m).map (JW l) = F.map (fun q => some q.1))
  (hobs : obsV P n ro df l F w0 L 0 (l.take m) ps bs)
  (hN : ∀ w', w0.grownBy w' none -> WA P n ro df l N (l.length - m) (List.replicate m true ++ List.replicate (l.length - m) false) (F ++ L) w') : W P n ro df (.region id l.toArray true) N B L w0 := by
 rw [Bool.and_eq_true] at hB; obtain ⟨hB, hp⟩ := hB; have hd : ∀ j, j < m -> (JW l j).getD 0 = (F.getD j F0).1 := by
  intro j hj; have h := congrArg (fun x : List (Option Nat) => x[j]?) hds; simp only [List.getElem?_map, List.getElem?_range hj, Option.map_some] at h; rw [List.getElem?_eq_getElem (by omega : j < F.length)] at h; simp only [Option.map_some, Option.some.injEq] at h; rw [List.getD_eq_getElem?_getD, List.getElem?_eq_getElem (by omega : j < F.length), h]; rfl
 refine Jue m (fun _ => false) (fun _ => none) (fun _ v u => u = v) ps bs (eqV F) (fun _ _ _ _ => False) hm hB (fun _ _ _ _ h _ => h) (fun _ _ _ _ _ _ _ h => h) (by simp) (Jl5 hd _ _ _ _ (by simp [List.length_take]; omega) (fun p hp' j hj => ?_) hobs) ?_
 .have := List.all_eq_true.1 hp p hp'
  simpa [Nat.blt_eq] using List.all_eq_true.1 this j hj
 .intro vals w' hw hV _ _; rw [Jh7 (List.range m) F hds ?_]
  .exact hN w' hw
  .refine List.ext_getElem (by simp [hlen]) fun k h1 h2 => ?_; simp only [List.getElem_map, List.getElem_range]; simp only [List.length_map, List.length_range] at h1 h2; rw [show vals k = (F.getD k F0).2 from hV k h1, List.getD_eq_getElem?_getD, List.getElem?_eq_getElem h2]; rfl
end Go.Proofs.Ytjgpkljepgcekaa
namespace Go.Proofs.Ytjgpkljepgcekaa
open Go.RowKit
theorem Jr6 {P : Program} {n : Nat} {ro : Option Nat} {df : List Deferred} {l : List Oper} {N : J0} {fuel : Nat} {listed : List Bool} {L : Fr} {w : World} {o : Oper} (i : Nat) (hr : Region.ready .any l.toArray listed.toArray = [i]) (ho : l[i]? = some o)
  (h : WL P n ro df l.toArray [o] (fun _ L' w' => WA P n ro df l N fuel (listed.set i true) L' w') L w) : WA P n ro df l N (fuel + 1) listed L w :=
 WA.step [i] hr rfl fun j hj => by simp only [List.mem_cons, List.not_mem_nil, or_false] at hj; subst hj; exact ⟨_, ho, h⟩
theorem Jn {P : Program} {n : Nat} {ro : Option Nat} {df : List Deferred} {l : List Oper} {N : J0} {fuel : Nat} {listed : List Bool} {L : Fr} {w : World} {o : Oper} (i : Nat) (ho : l[i]? = some o)
 (h : WL P n ro df l.toArray [o] (fun _ L' w' => WA P n ro df l N fuel (listed.set i true) L' w') L w) (hr : Region.ready .any l.toArray listed.toArray = [i] := by decide +kernel) : WA P n ro df l N (fuel + 1) listed L w := Jr6 i hr ho h
theorem QC {P : Program} {n : Nat} {ro : Option Nat} {df : List Deferred} {l : List Oper} {N : J0} {fuel : Nat} {listed : List Bool} {L : Fr} {w : World} {o p : Oper} (i j : Nat) (ho : l[i]? = some o) (hp : l[j]? = some p)
  (h : WL P n ro df l.toArray [o] (fun _ L' w' => WA P n ro df l N fuel (listed.set i true) L' w') L w) (h2 : WL P n ro df l.toArray [p] (fun _ L' w' => WA P n ro df l N fuel (listed.set j true) L' w') L w) (hr : Region.ready .any l.toArray listed.toArray = [i, j] := by decide +kernel) : WA P n ro df l N (fuel + 1) listed L w :=
 WA.step [i, j] hr rfl fun k hk => by
  simp only [List.mem_cons, List.not_mem_nil, or_false] at hk; rcases hk with rfl | rfl
  .exact ⟨_, ho, h⟩
  .exact ⟨_, hp, h2⟩
theorem Jr7 {P : Program} {n : Nat} {ro : Option Nat} {df : List Deferred} {l : List Oper} {N : J0} {fuel : Nat} {listed : List Bool} {L : Fr} {w : World} {o p q : Oper} (i j k : Nat) (ho : l[i]? = some o) (hp : l[j]? = some p) (hq : l[k]? = some q)
  (h : WL P n ro df l.toArray [o] (fun _ L' w' => WA P n ro df l N fuel (listed.set i true) L' w') L w) (h2 : WL P n ro df l.toArray [p] (fun _ L' w' => WA P n ro df l N fuel (listed.set j true) L' w') L w) (h3 : WL P n ro df l.toArray [q] (fun _ L' w' => WA P n ro df l N fuel (listed.set k true) L' w') L w) (hr : Region.ready .any l.toArray listed.toArray = [i, j, k] := by decide +kernel) : WA P n ro df l N (fuel + 1) listed L w :=
 WA.step [i, j, k] hr rfl fun r hk => by
  simp only [List.mem_cons, List.not_mem_nil, or_false] at hk; rcases hk with rfl | rfl | rfl
  .exact ⟨_, ho, h⟩
  .exact ⟨_, hp, h2⟩
  .exact ⟨_, hq, h3⟩
theorem JK {P : Program} {n : Nat} {ro : Option Nat} {df : List Deferred} {l : List Oper} {N : J0} {listed : List Bool} {L : Fr} {w : World} (h : N df L w) (hr : Region.ready .any l.toArray listed.toArray = [] := by decide +kernel) : WA P n ro df l N 0 listed L w := Jt9 hr h
structure RlH (w : World) (A : Option Addr) (n k : Nat) (hs : Hs) (ls : LL) : Prop where
  out : ∃ B, Rd B w 1 A n k (JB hs ls)
  at__ : ∀ i, i < ls.length -> ∃ B, Rd B w 1 (hs i).1 (ls.getD i []).length (hs i).2 (is (ls.getD i []))
theorem Al.heads {w : World} : ∀ {vs : List Value} {ls : LL}, Al w vs ls -> ∃ hs : Hs, vs = JB hs ls /\ ∀ i, i < ls.length -> ∃ B, Rd B w 1 (hs i).1 (ls.getD i []).length (hs i).2 (is (ls.getD i []))
 | [], [], _ => ⟨fun _ => (none, 0), rfl, fun i hi => absurd hi (Nat.not_lt_zero i)⟩
 | v :: vs, l :: ls, ⟨⟨A, k, B, h1, h2⟩, h3⟩ => by
  obtain ⟨hs, e, h⟩ := Al.heads h3; refine ⟨fun i => match i with | 0 => (A, k) | i + 1 => hs i, ?_, ?_⟩
  .rw [JB, List.mapIdx_cons, h1, e]; rfl
  .intro i hi; cases i with
   | zero => exact ⟨B, h2⟩
   | succ i => exact h i (by simpa using hi)
 | [], _ :: _, h => h.elim
 | _ :: _, [], h => h.elim
theorem Rl.heads {w : World} {A : Option Addr} {n k : Nat} {ls : LL} (h : Rl w A n k ls) : ∃ hs : Hs, RlH w A n k hs ls := by
 obtain ⟨B, cs, h1, h2⟩ := h.ex; obtain ⟨hs, e, h3⟩ := h2.heads; subst e; exact ⟨hs, ⟨B, h1⟩, h3⟩
section
variable {w w' : World} {A : Option Addr} {n k : Nat} {hs : Hs} {ls : LL}
theorem RlH.len (h : RlH w A n k hs ls) : ls.length = n := by
 obtain ⟨B, h1⟩ := h.out; have := h1.len; rw [Yo] at this; omega
theorem Jrj : ∀ {ls : LL} {hs : Hs}, (∀ i, i < ls.length -> ∃ B, Rd B w 1 (hs i).1 (ls.getD i []).length (hs i).2 (is (ls.getD i []))) -> Al w (JB hs ls) ls
 | [], _, _ => trivial
 | l :: ls, hs, h => by
  simp only [JB, List.mapIdx_cons]; obtain ⟨B, h0⟩ := h 0 (by simp); exact ⟨⟨_, _, B, rfl, h0⟩, Jrj (ls := ls) (hs := fun i => hs (i + 1)) (fun i hi => h (i + 1) (by simpa using hi))⟩
theorem RlH.rl (h : RlH w A n k hs ls) : Rl w A n k ls := by
 obtain ⟨B, h1⟩ := h.out; exact ⟨B, _, h1, Jrj h.at__⟩
theorem RlH.ext (h : RlH w A n k hs ls) (hg : w.grownBy w' none) : RlH w' A n k hs ls := by
 obtain ⟨B, h1⟩ := h.out; exact ⟨⟨B, h1.ext hg⟩, fun i hi => by obtain ⟨B, h2⟩ := h.at__ i hi; exact ⟨B, h2.ext hg⟩⟩
theorem RlH.cell (h : RlH w A n k hs ls) {I : Int} (hI : 0 <= I /\ I < (n : Nat)) : w.cell? ((JH A).add I.toNat) = some (.slice (hs I.toNat).1 (gl ls I).length (hs I.toNat).2) := by
 have hl := h.len; obtain ⟨B, h1⟩ := h.out; exact h1.at_ (QW hs ls (by omega))
theorem Yb (h : RlH w A n k hs ls) {I : Int} (hI : 0 <= I /\ I < (n : Nat)) : Rd w.heap.size w 1 (hs I.toNat).1 (gl ls I).length (hs I.toNat).2 (is (gl ls I)) := by
  have hl := h.len
  obtain ⟨B, h1⟩ := h.at__ I.toNat (by omega)
  exact h1.norm
theorem RlH.nil (w : World) : RlH w none 0 0 (fun _ => (none, 0)) [] := ⟨⟨0, Rd.nil (by simp only [maxLen]; omega)⟩, fun i hi => absurd hi (Nat.not_lt_zero i)⟩
theorem Qo {P : Program} {nn : Nat} {ro : Option Nat} {df : List Deferred} {N : J0} {L : Fr} {ops : Array Oper} {rest : List Oper} {d : Nat} {ty : TypeId} {pos : String} {af : Array Edge} {wR : World} {x i : Operand} {t e : TypeId} {by_ : Nat} {zero : Value} {kk : IntKind} {I : Int}
  (ht : P.underlying t = some (.slice e)) (he : Elem P e 1 by_ zero) (hR : RlH wR A n k hs ls) (hx : ev L x = some (.slice A n k)) (hi : ev L i = some (.int kk I)) (hI : 0 <= I /\ I < ((n : Nat) : Int)) (hn : Nat.blt d nn = true)
  (h : WL P nn ro df ops rest N ((d, .pointer (some ((JH A).add I.toNat))) :: L) w) : WL P nn ro df ops (⟨some d, .indexAddr t x i, ty, pos, af, none⟩ :: rest) N L w := by
 obtain ⟨B, h1⟩ := hR.out; exact Jf ht he h1 hx hi hI hn h
end
abbrev Mt := Int × LL
def gm (ms : List Mt) (i : Int) : Mt := ms.getD i.toNat (0, [])
def Am (w : World) : List Value -> List Mt -> Prop
  | [], [] => True
  | u :: v :: vs, (c, l) :: ls => u = .int .i64 c /\ (∃ A k, v = .slice A l.length k /\ Rl w A l.length k l) /\ Am w vs ls
  | _, _ => False
structure Rm (w : World) (A : Option Addr) (n k : Nat) (ms : List Mt) : Prop where
  ex : ∃ B cs, Rd B w 2 A n k cs /\ Am w cs ms
abbrev HM := Nat -> (Option Addr × Nat) × Hs
def Y9 (H : HM) (ms : List Mt) : List Value := (ms.mapIdx fun i m => [Value.int .i64 m.1, .slice (H i).1.1 m.2.length (H i).1.2]).flatten
structure RmH (w : World) (A : Option Addr) (n k : Nat) (H : HM) (ms : List Mt) : Prop where
  out : ∃ B, Rd B w 2 A n k (Y9 H ms)
  at__ : ∀ i, i < ms.length -> RlH w (H i).1.1 (ms.getD i (0, [])).2.length (H i).1.2 (H i).2 (ms.getD i (0, [])).2
theorem Yd (H : HM) (m : Mt) (ms : List Mt) : Y9 H (m :: ms) = .int .i64 m.1 :: .slice (H 0).1.1 m.2.length (H 0).1.2 :: Y9 (fun i => H (i + 1)) ms := by
 simp [Y9, List.mapIdx_cons]
theorem Jdp : ∀ (ms : List Mt) (H : HM), (Y9 H ms).length = ms.length * 2
 | [], _ => rfl
 | m :: ms, H => by rw [Yd, List.length_cons, List.length_cons, Jdp ms, List.length_cons]; omega
theorem Jev : ∀ (ms : List Mt) (H : HM) (i : Nat), i < ms.length -> (Y9 H ms)[i * 2]? = some (.int .i64 (ms.getD i (0, [])).1) /\ (Y9 H ms)[i * 2 + 1]? = some (.slice (H i).1.1 (ms.getD i (0, [])).2.length (H i).1.2)
 | [], _, i, h => absurd h (Nat.not_lt_zero i)
 | m :: ms, H, 0, _ => by rw [Yd]; exact ⟨rfl, rfl⟩
 | m :: ms, H, i + 1, h => by
  rw [Yd, show (i + 1) * 2 = i * 2 + 1 + 1 by omega]; exact Jev ms (fun i => H (i + 1)) i (by simpa using h)
theorem Am.heads {w : World} : ∀ {ms : List Mt} {vs : List Value}, Am w vs ms -> ∃ H : HM, vs = Y9 H ms /\ ∀ i, i < ms.length -> RlH w (H i).1.1 (ms.getD i (0, [])).2.length (H i).1.2 (H i).2 (ms.getD i (0, [])).2
 | [], [], _ => ⟨fun _ => ((none, 0), fun _ => (none, 0)), rfl, fun i hi => absurd hi (Nat.not_lt_zero i)⟩
 | (c, l) :: ms, u :: v :: vs, ⟨h1, ⟨A, k, h2, h3⟩, h4⟩ => by
  obtain ⟨H, e, h⟩ := Am.heads h4; obtain ⟨hs, h5⟩ := h3.heads; refine ⟨fun i => match i with | 0 => ((A, k), hs) | i + 1 => H i, ?_, ?_⟩
  .rw [Yd, h1, h2, e]
  .intro i hi; cases i with
   | zero => exact h5
   | succ i => exact h i (by simpa using hi)
 | (_, _) :: _, [], h => absurd h (by simp [Am])
 | (_, _) :: _, [_], h => absurd h (by simp [Am])
 | [], _ :: _, h => absurd h (by simp [Am])
theorem Rm.heads {w : World} {A : Option Addr} {n k : Nat} {ms : List Mt} (h : Rm w A n k ms) : ∃ H, RmH w A n k H ms := by
 obtain ⟨B, cs, h1, h2⟩ := h.ex; obtain ⟨H, e, h3⟩ := h2.heads; subst e; exact ⟨H, ⟨B, h1⟩, h3⟩
section
variable {w w' : World} {A : Option Addr} {n k : Nat} {H : HM} {ms : List Mt}
theorem RmH.len (h : RmH w A n k H ms) : ms.length = n := by
 obtain ⟨B, h1⟩ := h.out; have := h1.len; rw [Jdp] at this; omega
theorem RmH.ext (h : RmH w A n k H ms) (hg : w.grownBy w' none) : RmH w' A n k H ms := by
 obtain ⟨B, h1⟩ := h.out; exact ⟨⟨B, h1.ext hg⟩, fun i hi => (h.at__ i hi).ext hg⟩
theorem am_of : ∀ {ms : List Mt} {H : HM}, (∀ i, i < ms.length -> RlH w (H i).1.1 (ms.getD i (0, [])).2.length (H i).1.2 (H i).2 (ms.getD i (0, [])).2) -> Am w (Y9 H ms) ms
 | [], _, _ => trivial
 | (c, l) :: ms, H, h => by
  rw [Yd]; exact ⟨rfl, ⟨_, _, rfl, (h 0 (by simp)).rl⟩, am_of (ms := ms) (H := fun i => H (i + 1)) (fun i hi => h (i + 1) (by simpa using hi))⟩
theorem RmH.rm (h : RmH w A n k H ms) : Rm w A n k ms := by
 obtain ⟨B, h1⟩ := h.out; exact ⟨B, _, h1, am_of h.at__⟩
theorem Rm.ext (h : Rm w A n k ms) (hg : w.grownBy w' none) : Rm w' A n k ms := by
 obtain ⟨H, h⟩ := h.heads; exact (h.ext hg).rm
theorem Rm.len (h : Rm w A n k ms) : ms.length = n := by
 obtain ⟨H, h⟩ := h.heads; exact h.len
theorem Zl (h : RmH w A n k H ms) {I : Int} (hI : 0 <= I /\ I < (n : Nat)) : RlH w (H I.toNat).1.1 (gm ms I).2.length (H I.toNat).1.2 (H I.toNat).2 (gm ms I).2 := h.at__ _ (by have := h.len; omega)
theorem RmH.cells (h : RmH w A n k H ms) {I : Int} (hI : 0 <= I /\ I < (n : Nat)) : Rd w.heap.size w 2 (some ((JH A).add (I.toNat * 2))) 1 1 [.int .i64 (gm ms I).1, .slice (H I.toNat).1.1 (gm ms I).2.length (H I.toNat).1.2] := by
  have hl := h.len
  obtain ⟨B, h1⟩ := h.out
  obtain ⟨ad, e, h2, h3⟩ := (h1.norm).cells (by omega)
  subst e
  obtain ⟨c1, c2⟩ := Jev ms H I.toNat (by omega)
  refine ⟨rfl, Nat.le_refl _, by simp [maxLen], fun _ => ⟨_, rfl, by rw [QG]; exact h2, fun j u hj => ?_⟩⟩
  rw [Jgn]
  match j with
  | 0 => cases hj; exact h3 _ _ c1
  | 1 => cases hj; exact h3 _ _ c2
  | j + 2 => simp at hj
theorem Je5 {P : Program} {nn : Nat} {ro : Option Nat} {df : List Deferred} {N : J0} {L : Fr} {ops : Array Oper} {rest : List Oper} {d : Nat} {ty : TypeId} {pos : String} {af : Array Edge} {wR : World} {x i : Operand} {t e : TypeId} {by_ : Nat} {zero : Value} {kk : IntKind} {I : Int}
  (ht : P.underlying t = some (.slice e)) (he : Elem P e 2 by_ zero) (hR : RmH wR A n k H ms) (hx : ev L x = some (.slice A n k)) (hi : ev L i = some (.int kk I)) (hI : 0 <= I /\ I < ((n : Nat) : Int)) (hn : Nat.blt d nn = true)
  (h : WL P nn ro df ops rest N ((d, .pointer (some ((JH A).add (I.toNat * 2)))) :: L) w) : WL P nn ro df ops (⟨some d, .indexAddr t x i, ty, pos, af, none⟩ :: rest) N L w := by
 obtain ⟨B, h1⟩ := hR.out; exact Ji1 I.toNat ht he hx hi (tj hI) (ti hI) h1 hn h
end
def rch (v : Value) (w : World) (g : Nat) : Prop := vb v = some g ∨ ∃ A m c i p m2 c2, v = .slice (some A) m c /\ i < m /\ w.cell? (A.add i) = some (.slice (some p) m2 c2) /\ p.block = g
def vbD : Value -> World -> Nat -> Prop := fun v _ g => vb v = some g
section
variable {w w' : World} {A : Option Addr} {eS eI m c : Nat} {hs : Hs} {ls : LL} {b : Nat} {mr : Option Nat}
theorem Jqj (h : Rows b mr w [mx eS eI A m c hs ls]) : ls.length = m := by
 have := h.1.1.1.1.len; rw [Yo] at this; omega
theorem Jdo (h : Rows b mr w [mx eS eI A m c hs ls]) : Rd w.heap.size w 1 A m c (JB hs ls) := h.1.1.1.1.rd
theorem Jnv (h : Rows b mr w [mx eS eI A m c hs ls]) {g : Nat} (hg : rch (.slice A m c) w g) : (mx eS eI A m c hs ls).at_ g := by
 have hl := Jqj h; rcases hg with hg | ⟨A', m', c', i, p, m2, c2, e, hi, hc, hp⟩
 .exact ⟨_, List.mem_cons_self .., hg⟩
 .cases e; have hi' : i < ls.length := by omega
  have h1 := (Jdo h).at_ (QW hs ls hi'); have h1' : w.cell? (A'.add i) = some (.slice (hs i).1 (ls.getD i []).length (hs i).2) := h1; rw [hc] at h1'; have e1 : (hs i).1 = some p := by cases hh : (hs i).1 <;> simp_all
  exact ⟨_, List.mem_cons_of_mem _ (List.mem_of_getElem? (Zb eI hs ls hi')), by show bl (hs i).1 = some g; rw [e1]; exact congrArg some hp⟩
theorem Jp2 (h : Rows b mr w [mx eS eI A m c hs ls]) (hg : w.grownBy w' none) {g : Nat} (hr : rch (.slice A m c) w' g) : rch (.slice A m c) w g := by
 have hl := Jqj h; rcases hr with hr | ⟨A', m', c', i, p, m2, c2, e, hi, hc, hp⟩
 .exact .inl hr
 .cases e; have h1 := (Jdo h).at_ (QW hs ls (i := i) (by omega)); have h2 := ((Jdo h).ext hg).at_ (QW hs ls (i := i) (by omega)); have h2' : w'.cell? (A'.add i) = _ := h2; rw [hc] at h2'; exact .inr ⟨A', m, c, i, p, m2, c2, rfl, hi, h1.trans h2'.symm, hp⟩
theorem Js0 (h : Rows b none w [mx eS eI A m c hs ls]) {g : Nat} (hg : rch (.slice A m c) w g) : b <= g /\ g < w.heap.size := by
 have h1 := Jnv h hg; refine ⟨(h.1.2.1 g h1).2.resolve_right (by simp), ?_⟩; obtain ⟨⟨o, h2, _⟩, _⟩ := h.1.2.1 g h1; exact (Array.getElem?_eq_some_iff.1 h2).1
theorem Rows.mxbase {b' : Nat} (h : Rows b none w [mx eS eI A m c hs ls]) (hb : b' <= b) : Rows b' none w [mx eS eI A m c hs ls] :=
 ⟨⟨h.1.1, fun g hg => ⟨(h.1.2.1 g hg).1, (h.1.2.1 g hg).2.imp (Nat.le_trans hb) id⟩, h.1.2.2⟩, h.2⟩
theorem Jtf {A : Option Addr} {n : Nat} (hO : Own 0 w eS 1 A n c (JB (fun _ => (none, 0)) (List.replicate n []))) (hn : ∀ g, bl A = some g -> b <= g) : Rows b none w [mx eS eI A n c (fun _ => (none, 0)) (List.replicate n [])] := by
  have h1 : Rows b none w ((.row eS 1 A n c (JB (fun _ => (none, 0)) (List.replicate n [])) :: inr eI (fun _ => (none, 0)) (List.replicate n [])) ++ []) := by
    rw [List.append_nil]
    have h2 := Rows.nils (b := b) (mr := none) (w := w) (R := []) eI n trivial
    rw [List.append_nil] at h2
    refine ⟨⟨hO, fun g hg => .inl (hn g hg)⟩, fun s hs _ g _ hg => ?_, h2⟩
    obtain ⟨i, hi, rfl⟩ := List.mem_mapIdx.1 hs
    exact absurd hg (by simp [Rw.at_, bl])
  exact h1.toGrp (Jj9 eS eI A n c _ _)
end
section
variable {X : World -> Prop} {w0 w w' wS : World} {mr : Option Nat} {R R0 : List Rw} {eS eI m c : Nat} {A : Option Addr} {hs : Hs} {ls : LL}
theorem Jse (Q : List Rw) (h0 : St X w0 mr wS R0) (h : St X w0 mr w (Q ++ R0)) (hr : Rows wS.heap.size none w [mx eS eI A m c hs ls]) (hq : ∀ s ∈ Q, ∀ g, (mx eS eI A m c hs ls).at_ g -> ¬ s.at_ g) :
    St X w0 mr w (mx eS eI A m c hs ls :: (Q ++ R0)) := by
  have hb : ∀ g, (mx eS eI A m c hs ls).at_ g -> wS.heap.size <= g := fun g hg => (hr.1.2.1 g hg).2.resolve_right (by simp)
  refine ⟨h.ext, ⟨⟨hr.1.1, fun g hg => ⟨(hr.1.2.1 g hg).1, .inl (Nat.le_trans h0.size (hb g hg))⟩, hr.1.2.2⟩, fun s hs _ g hg hs2 => ?_, h.rows⟩, h.x, h.cl, h.lt⟩
  rcases List.mem_append.1 hs with hs | hs
  . exact hq s hs g hg hs2
  . have := h0.rows.lt hs g hs2; have := hb g hg; omega
theorem St.n0 (h : St X w0 mr w ([] ++ R)) : St X w0 mr w R := h
theorem St.n1 {a : Rw} (h : St X w0 mr w ([a] ++ R)) : St X w0 mr w (a :: R) := h
theorem St.n2 {a b : Rw} (h : St X w0 mr w ([a, b] ++ R)) : St X w0 mr w (a :: b :: R) := h
def Tl (R0 R : List Rw) : Prop := ∃ L, R = L ++ R0
theorem Tl.mem (h : Tl R0 R) {r : Rw} (hr : r ∈ R0) : r ∈ R := by obtain ⟨L, rfl⟩ := h; exact List.mem_append_right _ hr
end
def mxd (eS eI : Nat) (A : Option Addr) (m c : Nat) (hs : Hs) (ls : LL) (I J : Int) : Rw := grp (.row eS 1 A m c ((JB hs ls).set I.toNat (.slice (hs J.toNat).1 (gl ls J).length (hs J.toNat).2)) :: inr eI hs ls)
theorem Jl9 (eS eI : Nat) (A : Option Addr) (m c : Nat) (hs : Hs) (ls : LL) (v : Value) (I : Nat) : ∀ r ∈ (Rw.row eS 1 A m c ((JB hs ls).set I v) :: inr eI hs ls), r.isRow = true := fun r hr => by
 rcases List.mem_cons.1 hr with rfl | hr
 .rfl
 .exact Jf9 _ _ _ r hr
section
variable {P : Program} {n : Nat} {ro : Option Nat} {df : List Deferred} {N : J0} {L : Fr} {w w0 : World} {ops : Array Oper} {rest : List Oper}
variable {d : Nat} {ty : TypeId} {pos : String} {af : Array Edge} {X : World -> Prop} {mr : Option Nat} {R : List Rw} {eS eI m c : Nat} {A : Option Addr} {hs : Hs} {ls : LL}
theorem St.mxdout {q : Nat} {I J : Int} (hS : St X w0 mr w R) (hq : R[q]? = some (mxd eS eI A m c hs ls I J)) : Rd w.heap.size w 1 A m c ((JB hs ls).set I.toNat (.slice (hs J.toNat).1 (gl ls J).length (hs J.toNat).2)) := (hS.rows.get hq).1.1.1.rd
theorem JL {x y : Operand} {t by_ : Nat} {zero : Value} {I J : Int} (q : Nat) (hS : St X w0 mr w R) (hq : R[q]? = some (mx eS eI A m c hs ls)) (he : Elem P t 1 by_ zero) (hI : 0 <= I /\ I < (m : Nat)) (hJ : 0 <= J /\ J < (m : Nat))
  (hx : ev L x = some (.pointer (some ((JH A).add I.toNat)))) (hy : ev L y = some (.slice (hs J.toNat).1 (gl ls J).length (hs J.toNat).2))
  (h : ∀ w', St X w0 mr w' (R.set q (mxd eS eI A m c hs ls I J)) -> WL P n ro df ops rest N L w') : WL P n ro df ops (⟨none, .store t x y, ty, pos, af, none⟩ :: rest) N L w := by
 have h0 := (hS.at_ hq).mxOpen; refine Jd4 he hx hy rfl (ti hI) (h0.own (i := 0) rfl) fun w1 h1 g1 => h w1 (Jm3 hq ?_); exact St.toGrp (Jl9 eS eI A m c hs ls _ _) (h0.put (i := 0) rfl g1 h1 (.inl rfl))
theorem JG {x y : Operand} {t by_ : Nat} {zero : Value} {I J : Int} (q : Nat) (hS : St X w0 mr w R) (hq : R[q]? = some (mxd eS eI A m c hs ls I J)) (he : Elem P t 1 by_ zero) (hI : 0 <= I /\ I < (m : Nat)) (hJ : 0 <= J /\ J < (m : Nat))
  (hx : ev L x = some (.pointer (some ((JH A).add J.toNat)))) (hy : ev L y = some (.slice (hs I.toNat).1 (gl ls I).length (hs I.toNat).2))
  (h : ∀ w', St X w0 mr w' (R.set q (mx eS eI A m c (up (up hs I.toNat (hs J.toNat)) J.toNat (hs I.toNat)) (sll (sll ls I (gl ls J)) J (gl ls I)))) -> WL P n ro df ops rest N L w') : WL P n ro df ops (⟨none, .store t x y, ty, pos, af, none⟩ :: rest) N L w := by
 have hl : ls.length = m := by
  have := (hS.mxdout hq).len; rw [List.length_set, Yo] at this; omega
 have h0 := (hS.at_ hq).ofGrp (Jl9 eS eI A m c hs ls _ _); refine Jd4 he hx hy rfl (ti hJ) (h0.own (i := 0) rfl) fun w2 h2 g2 => h w2 (Jm3 hq ?_); have h3 := h0.put (i := 0) rfl g2 h2 (.inl rfl); refine QY ?_; have hi : I.toNat < ls.length := by omega
 have hj : J.toNat < ls.length := by omega
 show St X w0 mr w2 (.row eS 1 A m c (JB (up (up hs I.toNat (hs J.toNat)) J.toNat (hs I.toNat)) ((ls.set I.toNat (gl ls J)).set J.toNat (gl ls I))) :: (inr eI (up (up hs I.toNat (hs J.toNat)) J.toNat (hs I.toNat)) ((ls.set I.toNat (gl ls J)).set J.toNat (gl ls I)) ++ R.eraseIdx q)); rw [Zc, Zc, Jcv, Jcv]; refine h3.perm (List.Perm.cons _ (List.Perm.append_right _ ?_)); have hi' : I.toNat < (inr eI hs ls).length := by simp [inr]; exact hi
 have hj' : J.toNat < (inr eI hs ls).length := by simp [inr]; exact hj
 have e1 := (List.getElem?_eq_some_iff.1 (Zb eI hs ls hi)).2; have e2 := (List.getElem?_eq_some_iff.1 (Zb eI hs ls hj)).2; have hp := List.set_set_perm hi' hj'; rw [e1, e2] at hp; exact hp.symm
theorem St.mxhrd {q : Nat} {I J : Int} (hS : St X w0 mr w R) (hq : R[q]? = some (mxh eS eI A m c hs ls I)) (hl : ls.length = m) (hJ : 0 <= J /\ J < (m : Nat)) (hn : J.toNat ≠ I.toNat) : Rd w.heap.size w 1 (hs J.toNat).1 (gl ls J).length (hs J.toNat).2 (is (gl ls J)) := by
  have h1 := (hS.rows.get hq).1.2.2
  have h2 : Rw.row eI 1 (hs J.toNat).1 (gl ls J).length (hs J.toNat).2 (is (gl ls J)) ∈ (inr eI hs ls).eraseIdx I.toNat := by
    rw [List.mem_eraseIdx_iff_getElem?]
    exact ⟨J.toNat, hn, Zb eI hs ls (by omega)⟩
  exact (h1.mem h2).1.rd
theorem St.mxhapt {p q e m' c' : Nat} {A' : Option Addr} {cs : List Value} {I J : Int} (hS : St X w0 mr w R) (hpq : p ≠ q) (hp : R[p]? = some (.row e 1 A' m' c' cs)) (hq : R[q]? = some (mxh eS eI A m c hs ls I)) (hl : ls.length = m) (hJ : 0 <= J /\ J < (m : Nat)) (hn : J.toNat ≠ I.toNat) :
  0 < (gl ls J).length -> ∀ g, bl A' = some g -> bl (hs J.toNat).1 ≠ some g := fun _ g h1 h2 => by
 have h3 : Rw.row eI 1 (hs J.toNat).1 (gl ls J).length (hs J.toNat).2 (is (gl ls J)) ∈ (inr eI hs ls).eraseIdx I.toNat := by
  rw [List.mem_eraseIdx_iff_getElem?]; exact ⟨J.toNat, hn, Zb eI hs ls (by omega)⟩
 exact hS.rows.apt hpq hp hq rfl g h1 ⟨_, List.mem_cons_of_mem _ h3, h2⟩
end
theorem Rl.nm {w : World} {A : Option Addr} {n k : Nat} {ls : LL} (h : Rl w A n k ls) : Rl w A ls.length k ls := by
 have := h.len; subst this; exact h
theorem Rm.nil (w : World) : Rm w none 0 0 [] := ⟨0, [], Rd.nil (by simp only [maxLen]; omega), trivial⟩
theorem Zp {w : World} {A : Option Addr} {n k : Nat} {ls : LL} (h : Rl w A n k ls) {J : Int} (hJ : 0 <= J /\ J <= (n : Nat)) : J.toNat = (ls.take J.toNat).length := by
 have := h.len; rw [List.length_take]; omega
theorem Al.take {w : World} : ∀ {vs : List Value} {ls : LL} (k : Nat), Al w vs ls -> Al w (vs.take k) (ls.take k)
 | [], [], k, _ => by simp [Al]
 | v :: vs, l :: ls, 0, _ => trivial
 | v :: vs, l :: ls, k + 1, h => ⟨h.1, Al.take k h.2⟩
 | [], _ :: _, _, h => h.elim
 | _ :: _, [], _, h => h.elim
theorem Rl.take {w : World} {A : Option Addr} {n k : Nat} {ls : LL} (h : Rl w A n k ls) {J : Int} (hJ : 0 <= J /\ J <= (n : Nat)) : Rl w A (ls.take J.toNat).length k (ls.take J.toNat) := by
 have hl := Zp h hJ; obtain ⟨B, cs, h1, h2⟩ := h.ex; have h3 := h1.take (k := J.toNat) (by omega); rw [Nat.mul_one] at h3; rw [<- hl]; exact ⟨B, _, h3, h2.take _⟩
theorem Jui {P : Program} {n : Nat} {ro : Option Nat} {df : List Deferred} {N : J0} {L : Fr} {w w0 : World} {ops : Array Oper} {rest : List Oper} {d : Nat} {ty : TypeId} {pos : String} {af : Array Edge} {X : World -> Prop} {mr : Option Nat} {R : List Rw}
    {t e : TypeId} {z by_ : Nat} {zero : Value} {k : Nat} {parts : List (Nat × Operand)} {cells : List Value} (hS : St X w0 mr w R) (ht : P.underlying t = some (.slice e)) (he : Elem P e z by_ zero) (hk : Nat.ble (k * z) 1000 = true)
    (hp : ∃ vs, evs L (parts.map (·.2)) = some vs /\ Instr.fill (fun i => some (i * z, z)) ((List.range (k * z)).map (zero.cells[· % zero.cells.size]!)).toArray ((parts.map (·.1)).zip vs) = some cells.toArray) (hl : cells.length = k * z) (hn : Nat.blt d n = true)
    (h : ∀ A w', St X w0 mr w' (.row e z A k k cells :: R) -> WL P n ro df ops rest N ((d, .slice A k k) :: L) w') :
    WL P n ro df ops (⟨some d, .buildSlice t k parts.toArray, ty, pos, af, none⟩ :: rest) N L w := by
  have hk' : k * z <= 1000 := by simpa [Nat.ble_eq] using hk
  have hr : (Array.range (k * z)).map (zero.cells[· % zero.cells.size]!) = ((List.range (k * z)).map (zero.cells[· % zero.cells.size]!)).toArray := by apply Array.ext'; simp
  rw [<- hr] at hp
  refine Jr5 (b := w.heap.size) ht he (by omega) hp hl (Nat.le_refl _) hn fun A w' hA hO hG => h A w' (hS.push hG ⟨hO.low (Nat.zero_le _), fun g hg => .inl ?_⟩ fun g hg => (hO.bl_ge g hg).1)
  have := (hO.bl_ge g hg).1; have := hS.size; omega
end Go.Proofs.Ytjgpkljepgcekaa
namespace Go.Proofs.Ytjgpkljepgcekaa
open Go.RowKit
/-! ### many plain steps as one -/
def opv (L : Fr) : Op -> Option Value
  | .move x => ev L x
  | .assign x => ev L x
  | .pick c x y => match ev L c with
    | some (.bool b) => ev L (bif b then x else y)
    | _ => none
  | .extract x i => match ev L x with
    | some (.tuple vs) => vs[i]?
    | _ => none
  | .unOp .not _ x => match ev L x with
    | some (.bool b) => some (.bool !b)
    | _ => none
  | .binOp .lss _ x y _ => match ev L x, ev L y with
    | some (.int .i64 a), some (.int .i64 b) => some (.bool (decide (a < b)))
    | _, _ => none
  | .binOp .leq _ x y _ => match ev L x, ev L y with
    | some (.int .i64 a), some (.int .i64 b) => some (.bool (decide (a <= b)))
    | _, _ => none
  | .binOp .gtr _ x y _ => match ev L x, ev L y with
    | some (.int .i64 a), some (.int .i64 b) => some (.bool (decide (b < a)))
    | _, _ => none
  | .binOp .geq _ x y _ => match ev L x, ev L y with
    | some (.int .i64 a), some (.int .i64 b) => some (.bool (decide (b <= a)))
    | _, _ => none
  | .binOp .eql _ x y _ => match ev L x, ev L y with
    | some (.int .i64 a), some (.int .i64 b) => some (.bool (decide (a = b)))
    | _, _ => none
  | .binOp .neq _ x y _ => match ev L x, ev L y with
    | some (.int .i64 a), some (.int .i64 b) => some (.bool (decide (a ≠ b)))
    | _, _ => none
  | .nilCheck x => match ev L x with
    | some (.pointer (some p)) => some (.pointer (some p))
    | _ => none
  | _ => none
inductive Stp
  | val (L : Fr)
  | opr (o : Oper)
  | no
def stp (all : Array Oper) (n : Nat) (L : Fr) : Oper -> Stp
  | ⟨some d, op, ty, ps, af, some (j, want)⟩ => match (all[j]?.bind (·.dst)).bind (lk L) with
    | some (.bool b) => bif b == want then .opr ⟨some d, op, ty, ps, af, none⟩ else bif Nat.blt d n then .val ((d, undef) :: L) else .no
    | _ => .no
  | ⟨some d, op, ty, ps, af, none⟩ => match opv L op with
    | some v => bif Nat.blt d n then .val ((d, v) :: L) else .no
    | none => .no
  | _ => .no
inductive Gs
  | C (c : Code)
  | R (all : Array Oper) (rest : List Oper)
section
variable (P : Program) (n : Nat) (ro : Option Nat) (df : List Deferred) (N : J0) (B : Qi)
def Ns : List Code -> J0
  | [] => N
  | c :: st => fun df L w => W P n ro df c (Ns st) B L w
def goS (w : World) : Nat -> List Code -> Gs -> Fr -> Prop
  | 0, st, .C c, L => W P n ro df c (Ns P n ro N B st) B L w
  | 0, st, .R all rest, L => WL P n ro df all rest (Ns P n ro N B st) L w
  | k + 1, st, .C (.seq a b), L => goS w k (b :: st) (.C a) L
  | k + 1, st, .C (.region _ ops false), L => goS w k st (.R ops ops.toList) L
  | k + 1, b :: st, .C .skip, L => goS w k st (.C b) L
  | _ + 1, [], .C .skip, L => N df L w
  | _ + 1, [], .R _ [], L => N df L w
  | k + 1, b :: st, .R _ [], L => goS w k st (.C b) L
  | k + 1, st, .R all (o :: rest), L => match stp all n L o with
    | .val L' => goS w k st (.R all rest) L'
    | .opr o' => goS w k st (.R all (o' :: rest)) L
    | .no => False
  | _, _, _, _ => False
end
section
variable {P : Program} {n : Nat} {ro : Option Nat} {df : List Deferred} {N : J0} {B : Qi} {L : Fr} {w : World} {all : Array Oper} {rest : List Oper}
theorem Jb0 {d : Nat} {op : Op} {ty : TypeId} {ps : String} {af : Array Edge} {v : Value} (hv : opv L op = some v) (hn : Nat.blt d n = true) (h : WL P n ro df all rest N ((d, v) :: L) w) :
  WL P n ro df all (⟨some d, op, ty, ps, af, none⟩ :: rest) N L w := by
 unfold opv at hv; split at hv
 .exact Jl hv hn h
 .exact JR hv hn h
 .split at hv
  .rename_i hc; exact WL.pick hc hv hn h
  .cases hv
 .split at hv
  .rename_i hc; exact Jk9 hc hv hn h
  .cases hv
 .split at hv
  .rename_i hc; cases hv; exact Jb1 hc hn h
  .cases hv
 .split at hv
  .rename_i h1 h2; cases hv; exact Ql h1 h2 hn h
  .cases hv
 .split at hv
  .rename_i h1 h2; cases hv; exact Jt7 h1 h2 hn h
  .cases hv
 .split at hv
  .rename_i h1 h2; cases hv; exact Jgs h1 h2 hn h
  .cases hv
 .split at hv
  .rename_i h1 h2; cases hv; exact Jgt h1 h2 hn h
  .cases hv
 .split at hv
  .rename_i h1 h2; cases hv; exact Jgu h1 h2 hn h
  .cases hv
 .split at hv
  .rename_i h1 h2; cases hv; exact Jgr h1 h2 hn h
  .cases hv
 .split at hv
  .rename_i h1; cases hv; exact QA h1 hn h
  .cases hv
 .cases hv
theorem stp_ok {o : Oper} : (∀ L', stp all n L o = .val L' -> WL P n ro df all rest N L' w -> WL P n ro df all (o :: rest) N L w) /\ (∀ o', stp all n L o = .opr o' -> WL P n ro df all (o' :: rest) N L w -> WL P n ro df all (o :: rest) N L w) := by
 obtain ⟨dst, op, ty, ps, af, g⟩ := o; cases dst with
 | none => exact ⟨fun _ h => by simp [stp] at h, fun _ h => by simp [stp] at h⟩
 | some d =>
  cases g with
  | none =>
   refine ⟨fun L' h hw => ?_, fun o' h => ?_⟩
   .simp only [stp] at h; split at h
    .rename_i v hv
     cases hn : Nat.blt d n <;> rw [hn] at h
     .cases h
     .cases h; exact Jb0 hv hn hw
    .cases h
   .simp only [stp] at h; split at h
    .cases hn : Nat.blt d n <;> rw [hn] at h <;> cases h
    .cases h
  | some jw =>
   obtain ⟨j, want⟩ := jw; refine ⟨fun L' h hw => ?_, fun o' h hw => ?_⟩
   .simp only [stp] at h; split at h
    .rename_i b hb
     cases hbw : (b == want) <;> rw [hbw] at h
     .cases hn : Nat.blt d n <;> rw [hn] at h
      .cases h
      .cases h; exact Jmu hb hbw hn hw
     .cases h
    .cases h
   .simp only [stp] at h; split at h
    .rename_i b hb
     cases hbw : (b == want) <;> rw [hbw] at h
     .cases hn : Nat.blt d n <;> rw [hn] at h <;> cases h
     .cases h; have e : b = want := by simpa using hbw
      subst e; exact WL.take hb hw
    .cases h
def Gs.prop (P : Program) (n : Nat) (ro : Option Nat) (df : List Deferred) (N : J0) (B : Qi) (L : Fr) (w : World) (st : List Code) : Gs -> Prop
  | .C c => W P n ro df c (Ns P n ro N B st) B L w
  | .R all rest => WL P n ro df all rest (Ns P n ro N B st) L w
theorem Zu : ∀ (k : Nat) (st : List Code) (s : Gs) (L : Fr), goS P n ro df N B w k st s L -> s.prop P n ro df N B L w st
 | 0, _, .C _, _, h => h
 | 0, _, .R _ _, _, h => h
 | k + 1, st, .C (.seq a b), L, h => Jr (Zu k (b :: st) (.C a) L h)
 | k + 1, st, .C (.region i ops false), L, h => by
  have := Zu k st (.R ops ops.toList) L h; have := Js (B := B) (id := i) (l := ops.toList) this; exact this
 | k + 1, b :: st, .C .skip, L, h => Ji (Zu k st (.C b) L h)
 | _ + 1, [], .C .skip, L, h => Ji h
 | _ + 1, [], .R _ [], L, h => Ja h
 | k + 1, b :: st, .R _ [], L, h => Ja (Zu k st (.C b) L h)
 | k + 1, st, .R all (o :: rest), L, h => by
  have hs := stp_ok (P := P) (ro := ro) (df := df) (N := Ns P n ro N B st) (w := w) (all := all) (n := n) (L := L) (o := o) (rest := rest); unfold goS at h; split at h
  .rename_i L' e; exact hs.1 L' e (Zu k st (.R all rest) L' h)
  .rename_i o' e; exact hs.2 o' e (Zu k st (.R all (o' :: rest)) L h)
  .exact h.elim
/-- k plain steps. -/
theorem Jc {c : Code} (k : Nat) (h : goS P n ro df N B w k [] (.C c) L) : W P n ro df c N B L w := Zu k [] (.C c) L h
theorem Jb (k : Nat) (h : goS P n ro df N (fun _ _ _ _ => False) w k [] (.R all rest) L) : WL P n ro df all rest N L w := Zu k [] (.R all rest) L h
end
end Go.Proofs.Ytjgpkljepgcekaa
namespace Go.Proofs.Ytjgpkljepgcekaa
open Go.RowKit
structure SInv (n : Nat) (df : List Deferred) (l : List Oper) (F : Fr) (q : Nat -> Option Nat) (T : Nat) (G : Nat -> World -> Prop) (L : Fr) (d : Nat -> Bool) (a : Act) (w : World) : Prop where
  nd : a.defers = df
  sz : a.tmps.size = n
  old : ∀ t v, lk L t = some v -> (∀ k, d k = true -> JW l k ≠ some t) -> a.tmps[t]? = some v
  new : ∀ k t, d k = true -> JW l k = some t -> a.tmps[t]? = some (F.getD k F0).2
  st : ∃ s, s <= T /\ G s w /\ ∀ i r, i < l.length -> q i = some r -> (d i = true ↔ r < s)
  cl : ∀ k, d k = true -> ∀ j ∈ Qf l k, d j = true
  lt : ∀ k, d k = true -> k < l.length
end Go.Proofs.Ytjgpkljepgcekaa
namespace Go.Proofs.Ytjgpkljepgcekaa
open Go.RowKit
section
variable {P : Program} {n : Nat} {ro : Option Nat} {df : List Deferred} {N : J0} {L : Fr} {w : World} {ops : Array Oper} {rest : List Oper}
variable {d : Nat} {ty : TypeId} {pos : String} {af : Array Edge}
/-- 'a[j:]' of a list that is only read. -/
theorem Jlc {x y : Operand} {t e : TypeId} {by_ B : Nat} {zero : Value} {A : Option Addr} {m c : Nat} {l : LI} {wR : World} {k : IntKind} {J : Int} (ht : P.underlying t = some (.slice e)) (he : Elem P e 1 by_ zero) (hR : Rd B wR 1 A m c (is l))
    (hx : ev L x = some (.slice A m c)) (hy : ev L y = some (.int k J)) (hJ : 0 <= J /\ J <= (m : Nat)) (hn : Nat.blt d n = true)
    (h : WL P n ro df ops rest N ((d, .slice (if c = J.toNat then A else A.map (·.add (J.toNat * 1))) (l.drop J.toNat).length (c - J.toNat)) :: L) w) : WL P n ro df ops (⟨some d, .slice t x (some y) none none, ty, pos, af, none⟩ :: rest) N L w := by
  refine Je4 ht he hR hx hy hJ hn ?_
  rw [List.length_drop, hR.ilen] at h; exact h
end
theorem Rd.win {B : Nat} {w : World} {A : Option Addr} {m c : Nat} {l : LI} (h : Rd B w 1 A m c (is l)) {J : Int} (hJ : 0 <= J /\ J <= (m : Nat)) : Rd B w 1 (if c = J.toNat then A else A.map (·.add (J.toNat * 1))) (l.drop J.toNat).length (c - J.toNat) (is (l.drop J.toNat)) := by
 have h2 := h.drop (k := J.toNat) (by omega); rw [show (is l).drop (J.toNat * 1) = is (l.drop J.toNat) by rw [Nat.mul_one]; simp [is, List.map_drop]] at h2; rw [List.length_drop, h.ilen]; exact h2
end Go.Proofs.Ytjgpkljepgcekaa
namespace Go.Proofs.Ytjgpkljepgcekaa
open Go.RowKit
/-! ### regions that draw their order: known values beside values with memory -/
/-- What an operation yields into its slot: a known value, or one that something is known of. -/
inductive Ent
  | k (d : Nat) (v : Value)
  | m (d : Nat) (Pr : Value -> World -> Prop) (h : ∀ v w1 w2, Pr v w1 -> w1.grownBy w2 none -> Pr v w2)
def Ent.d : Ent -> Nat
  | .k d _ => d
  | .m d _ _ => d
def Ent.V : Ent -> Value -> World -> Prop
  | .k _ v => fun u _ => u = v
  | .m _ Pr _ => Pr
def Ent.val : Ent -> Value -> Value
  | .k _ v, _ => v
  | .m _ _ _, u => u
def E0 : Ent := .k 0 (.int .i64 0)
def eV (F : List Ent) : Nat -> Value -> World -> Prop := fun i => (F.getD i E0).V
/-- A row of the call's own, in a value made of it. -/
def eO (w : World) (d e m : Nat) (f : Option Addr -> Nat -> Value) (cs : List Value) : Ent :=
  .m d (fun v wQ => ∃ A k, v = f A k /\ Own 0 wQ e 1 A m k cs /\ ∀ g, bl A = some g -> w.heap.size <= g) fun _ _ _ ⟨A, k, h1, h2, h3⟩ hg => ⟨A, k, h1, h2.ext hg, h3⟩
def eS (w : World) (d e m : Nat) (cs : List Value) : Ent := eO w d e m (fun A k => .slice A m k) cs
def Z4 (F : List Ent) (w : World) (K : Fr -> Prop) : List Nat -> Fr -> Prop
  | [], A => K A
  | j :: js, A => match F.getD j E0 with
    | .k d v => Z4 F w K js ((d, v) :: A)
    | .m d Pr _ => ∀ u, Pr u w -> Z4 F w K js ((d, u) :: A)
def Jei (L : Fr) : List Nat -> Fr
  | [] => []
  | t :: ts => (t, (lk L t).getD (.int .i64 0)) :: Jei L ts
def obY (P : Program) (n : Nat) (ro : Option Nat) (df : List Deferred) (l : List Oper) (al : Nat -> Bool) (cp : Nat -> Option Nat) (ph : Nat -> Value -> Value -> Prop) (F : List Ent) (D : Nat -> Value -> World -> Nat -> Prop) (w0 : World) (i : Nat) (o : Oper) (p : Plan) (base : Fr) : Prop :=
  ∀ w, (p.pure = false -> w0.grownBy w none) -> Z4 F w (fun A => ∀ R : Fr, WL P n ro df l.toArray [o]
    (fun _ L' w' => match F.getD i E0 with
      | .k d v => L' = (d, v) :: (A ++ R) /\ (if p.pure then w' = w else w.grownBy w' none)
      | .m d Pr _ => ∃ u, L' = (d, u) :: (A ++ R) /\ (if p.pure then w' = w else w.grownBy w' none) /\ Pr u w' /\ (al i = true -> ∀ g, D i u w' g -> w.heap.size <= g /\ g < w'.heap.size) /\ (∀ j, cp i = some j -> ∃ u', lk (A ++ R) (F.getD j E0).d = some u' /\ ph i u' u)) (A ++ R) w) p.on base
def obsY (P : Program) (n : Nat) (ro : Option Nat) (df : List Deferred) (l : List Oper) (al : Nat -> Bool) (cp : Nat -> Option Nat) (ph : Nat -> Value -> Value -> Prop) (F : List Ent) (D : Nat -> Value -> World -> Nat -> Prop) (w0 : World) (L : Fr) : Nat -> List Oper -> List Plan -> Prop
  | i, o :: os, p :: ps => obY P n ro df l al cp ph F D w0 i o p (Jei L p.slots) /\ obsY P n ro df l al cp ph F D w0 L (i + 1) os ps
  | _, [], [] => True
  | _, _, _ => False
def frY (X : List Nat) (vals : Nat -> Value) : Nat -> List Ent -> Fr
  | _, [] => []
  | i, e :: F => bif X.contains i then frY X vals (i + 1) F else (e.d, e.val (vals i)) :: frY X vals (i + 1) F
def kcB (al : Nat -> Bool) (cp : Nat -> Option Nat) : Nat -> List Ent -> Bool
  | _, [] => true
  | i, .k _ _ :: F => !al i && (cp i).isNone && kcB al cp (i + 1) F
  | i, .m _ _ _ :: F => kcB al cp (i + 1) F
theorem Jke {al : Nat -> Bool} {cp : Nat -> Option Nat} : ∀ (F : List Ent) (i k : Nat) {d : Nat} {v : Value}, kcB al cp i F = true -> F[k]? = some (.k d v) -> al (i + k) = false /\ cp (i + k) = none
 | [], _, _, _, _, _, h => by simp at h
 | .k d v :: F, i, 0, _, _, h, e => by
  simp only [kcB, Bool.and_eq_true, Bool.not_eq_true', Option.isNone_iff_eq_none] at h; exact h.1
 | .m d Pr hh :: F, i, 0, _, _, h, e => by simp at e
 | .k d v :: F, i, k + 1, _, _, h, e => by
  simp only [kcB, Bool.and_eq_true] at h; have := Jke F (i + 1) k h.2 (by simpa using e); rw [show i + (k + 1) = i + 1 + k by omega]; exact this
 | .m d Pr hh :: F, i, k + 1, _, _, h, e => by
  simp only [kcB] at h; have := Jke F (i + 1) k h (by simpa using e); rw [show i + (k + 1) = i + 1 + k by omega]; exact this
theorem Jah (L : Fr) : ∀ ts : List Nat, (Jei L ts).map (·.1) = ts
 | [] => rfl
 | t :: ts => by simp [Jei, Jah L ts]
theorem Jd0 (L : Fr) : ∀ ts : List Nat, (ts.all fun t => (lk L t).isSome) = true -> sub (Jei L ts) L
 | [], _ => trivial
 | t :: ts, h => by
  simp only [List.all_cons, Bool.and_eq_true] at h; refine ⟨?_, Jd0 L ts h.2⟩; cases e : lk L t with
  | none => rw [e] at h; exact absurd h.1 (by simp)
  | some v => rfl
theorem Jc9 {l : List Oper} {F : List Ent} {w : World} {K : Fr -> Prop} : ∀ (js : List Nat) (A : Fr), (∀ j ∈ js, (JW l j).getD 0 = (F.getD j E0).d) -> Z4 F w K js A -> Jnf l (eV F) w K js A
 | [], _, _, h => h
 | j :: js, A, hd, h => by
  intro u hu; unfold eV at hu; unfold Z4 at h; have hd1 := hd j List.mem_cons_self; rw [hd1]; cases e : F.getD j E0 with
  | k d v =>
   rw [e] at hu h; obtain rfl : u = v := hu; exact Jc9 js _ (fun q hq => hd q (List.mem_cons_of_mem _ hq)) h
  | m d Pr hh =>
   rw [e] at hu h; exact Jc9 js _ (fun q hq => hd q (List.mem_cons_of_mem _ hq)) (h u hu)
theorem Jab {F : List Ent} {w : World} {K K' : Fr -> Prop} (h : ∀ A, K A -> K' A) : ∀ (js : List Nat) (A : Fr), Z4 F w K js A -> Z4 F w K' js A
 | [], _, hk => h _ hk
 | j :: js, A, hk => by
  unfold Z4 at hk ⊢; cases e : F.getD j E0 with
  | k d v => rw [e] at hk; exact Jab h js _ hk
  | m d Pr hh => rw [e] at hk; exact fun u hu => Jab h js _ (hk u hu)
theorem Jhz {P : Program} {n : Nat} {ro : Option Nat} {df : List Deferred} {l : List Oper} {al : Nat -> Bool} {cp : Nat -> Option Nat} {ph : Nat -> Value -> Value -> Prop} {F : List Ent} {D : Nat -> Value -> World -> Nat -> Prop} {w0 : World} {L : Fr} {m : Nat}
  (hd : ∀ j, j < m -> (JW l j).getD 0 = (F.getD j E0).d) (hF : F.length = m) (hk : kcB al cp 0 F = true) (hcp : ∀ i j, i < m -> cp i = some j -> j < m) : ∀ (os : List Oper) (ps : List Plan) (i : Nat), i + os.length <= m -> (∀ p ∈ ps, ∀ j ∈ p.on, j < m) -> (∀ p ∈ ps, (p.slots.all fun t => (lk L t).isSome) = true) ->
  obsY P n ro df l al cp ph F D w0 L i os ps -> Jnt P n ro df l al cp ph (eV F) D w0 L i os ps (ps.map fun p => Jei L p.slots)
 | [], [], _, _, _, _, _ => trivial
 | [], _ :: _, _, _, _, _, h => h.elim
 | _ :: _, [], _, _, _, _, h => h.elim
 | o :: os, p :: ps, i, hi, hp, hs, h => by
  simp only [List.length_cons] at hi; refine ⟨⟨Jah _ _, Jd0 _ _ (hs p List.mem_cons_self), fun w hw => Jc9 _ _ (fun j hj => hd j (hp p List.mem_cons_self j hj)) (Jab (fun A hA R => Ji0 (fun df' L' w' hh => ?_) (hA R)) _ _ (h.1 w hw))⟩, Jhz hd hF hk hcp os ps (i + 1) (by omega) (fun q hq => hp q (List.mem_cons_of_mem _ hq)) (fun q hq => hs q (List.mem_cons_of_mem _ hq)) h.2⟩; have hgi : F[i]? = some (F.getD i E0) := by
   rw [List.getD_eq_getElem?_getD, List.getElem?_eq_getElem (by omega : i < F.length)]; rfl
  rw [hd i (by omega)]; unfold eV; cases e : F.getD i E0 with
  | k d v =>
   rw [e] at hh hgi; obtain ⟨h1, h2⟩ := Jke F 0 i hk hgi; rw [Nat.zero_add] at h1 h2; exact ⟨v, hh.1, hh.2, rfl, (fun h => by rw [h1] at h; cases h), (fun j h => by rw [h2] at h; cases h)⟩
  | m d Pr hm_ =>
   rw [e] at hh; obtain ⟨u, h1, h2, h3, h4, h5⟩ := hh; exact ⟨u, h1, h2, h3, h4, fun j hj => by rw [hd j (hcp i j (by omega) hj)]; exact h5 j hj⟩
theorem Jqu {X : List Nat} {vals : Nat -> Value} {w : World} (f : Nat -> Option Nat) : ∀ (F : List Ent) (i : Nat), (∀ k e, F[k]? = some e -> f (i + k) = some e.d /\ (X.contains (i + k) = false -> e.V (vals (i + k)) w)) ->
  ((List.range' i F.length).filterMap fun i => if X.contains i = true then none else (f i).map fun t => (t, vals i)) = frY X vals i F
 | [], _, _ => rfl
 | e :: F, i, h => by
  have ih := Jqu f F (i + 1) (fun k e' hk => by
   have := h (k + 1) e' (by simpa using hk); rw [show i + 1 + k = i + (k + 1) by omega]; exact this)
  obtain ⟨h1, h2⟩ := h 0 e rfl; rw [Nat.add_zero] at h1 h2; rw [List.length_cons, List.range'_succ, List.filterMap_cons]; unfold frY; cases hc : X.contains i with
  | true => simp only [if_true, cond_true]; exact ih
  | false =>
   have := h2 hc; simp only [Bool.false_eq_true, if_false, cond_false, h1, Option.map_some]; rw [ih]; cases e with
   | k d v => rw [show vals i = v from this]; rfl
   | m d Pr hh => rfl
theorem YE {P : Program} {n id : Nat} {ro : Option Nat} {df : List Deferred} {l : List Oper} {N : J0} {B : Qi} {L : Fr} {w0 : World} (m : Nat) (fs : List Nat) (al : Nat -> Bool) (cp : Nat -> Option Nat) (ph : Nat -> Value -> Value -> Prop) (ps : List Plan) (F : List Ent) (D : Nat -> Value -> World -> Nat -> Prop)
  (hm : P.follows .mixedOrders = true) (hB : (Jdc n l ps m fs && (List.range m).all (fun i => match cp i with | none => true | some j => Nat.blt j m && (Qf l i).contains j) && ps.all fun p => p.on.all (Nat.blt · m)) = true)
  (hds : (List.range m).map (JW l) = F.map (fun e => some e.d)) (hk : (kcB al cp 0 F && ps.all fun p => p.slots.all fun t => (lk L t).isSome) = true)
  (hD : ∀ j v w1 w2, eV F j v w1 -> w1.grownBy w2 none -> ∀ g, D j v w2 g -> D j v w1 g)
  (hobs : obsY P n ro df l al cp ph F D w0 L 0 (l.take m) ps)
  (hN2 : ∀ X ∈ Jfe fs, ∀ (vals : Nat -> Value) w', w0.grownBy w' none -> (∀ i, i < m -> X.contains i = false -> eV F i (vals i) w') -> (∀ j k, j ≠ k -> j < m -> k < m -> X.contains j = false -> X.contains k = false -> al j = true -> al k = true -> ∀ g, D j (vals j) w' g -> ¬ D k (vals k) w' g) -> (∀ i j, i < m -> X.contains i = false -> cp i = some j -> ph i (vals j) (vals i)) -> ∀ q, q = (((List.range l.length).map fun k => Nat.blt k m && !(X.contains k)).filter (!·)).length ->
   WA P n ro df l N q ((List.range l.length).map fun k => Nat.blt k m && !(X.contains k)) (frY X vals 0 F ++ L) w') : W P n ro df (.region id l.toArray true) N B L w0 := by
 simp only [Bool.and_eq_true] at hB hk; obtain ⟨⟨hB, hcp⟩, hp⟩ := hB; have hF : F.length = m := by have := congrArg List.length hds; simpa using this.symm
 have hd1 : ∀ k e, F[k]? = some e -> JW l k = some e.d := by
  intro k e he; have h := congrArg (fun x : List (Option Nat) => x[k]?) hds; have hk' : k < m := by rw [<- hF]; exact (List.getElem?_eq_some_iff.1 he).1
  simp only [List.getElem?_map, List.getElem?_range hk', Option.map_some, he, Option.some.injEq] at h; exact h
 have hd : ∀ j, j < m -> (JW l j).getD 0 = (F.getD j E0).d := by
  intro j hj; have e1 : F[j]? = some (F.getD j E0) := by
   rw [List.getD_eq_getElem?_getD, List.getElem?_eq_getElem (by omega : j < F.length)]; rfl
  rw [hd1 j _ e1]; rfl
 have hcp1 : ∀ i j, i < m -> cp i = some j -> j < m /\ (Qf l i).contains j = true := fun i j hi hj => by
  have := List.all_eq_true.1 hcp i (List.mem_range.2 hi); rw [hj] at this; simp only [Bool.and_eq_true] at this; exact ⟨by simpa [Nat.blt_eq] using this.1, this.2⟩
 have hV : ∀ j v w1 w2, eV F j v w1 -> w1.grownBy w2 none -> eV F j v w2 := by
  intro j v w1 w2 h1 hg; unfold eV at h1 ⊢; cases e : F.getD j E0 with
  | k d u => rw [e] at h1; exact h1
  | m d Pr hh => rw [e] at h1; exact hh v w1 w2 h1 hg
 refine Ji3 m fs al cp ph ps (ps.map fun p => Jei L p.slots) (eV F) D hm hB hV hD (List.all_eq_true.2 fun i hi => ?_) (Jhz hd hF hk.1 (fun i j hi hj => (hcp1 i j hi hj).1) _ _ _ (by simp [List.length_take]; omega) (fun p hp' j hj => ?_) (fun p hp' => List.all_eq_true.1 hk.2 p hp') hobs) ?_
 .cases hc : cp i with
  | none => rfl
  | some j => exact (hcp1 i j (List.mem_range.1 hi) hc).2
 .have := List.all_eq_true.1 hp p hp'
  simpa [Nat.blt_eq] using List.all_eq_true.1 this j hj
 .intro X hX vals w' hw h1 h2 h3 q hq; have h := hN2 X hX vals w' hw h1 h2 h3 q hq; have e : (List.range m).filterMap (fun i => if X.contains i = true then none else (JW l i).map fun t => (t, vals i)) = frY X vals 0 F := by
   rw [List.range_eq_range', <- hF]; refine Jqu (w := w') (JW l) F 0 fun k e he => ?_; rw [Nat.zero_add]; refine ⟨hd1 k e he, fun hc => ?_⟩; have hkm : k < m := by rw [<- hF]; exact (List.getElem?_eq_some_iff.1 he).1
   have := h1 k hkm hc; unfold eV at this; rw [List.getD_eq_getElem?_getD, he] at this; exact this
  rw [e]; exact h
def ovl : List (Nat × Value) -> Nat -> Value -> Value
  | [], _, u => u
  | p :: t, i, u => bif Nat.beq p.1 i then p.2 else ovl t i u
def ovs (vals : Nat -> Value) : List (Nat × Value) -> Prop
  | [] => True
  | p :: t => vals p.1 = p.2 /\ ovs vals t
theorem Jp6 {vals : Nat -> Value} {i : Nat} : ∀ {ov : List (Nat × Value)}, ovs vals ov -> ovl ov i (vals i) = vals i
 | [], _ => rfl
 | p :: t, h => by
  unfold ovl; cases e : Nat.beq p.1 i with
  | true => simp only [cond_true]; rw [<- h.1, Nat.eq_of_beq_eq_true e]
  | false => simp only [cond_false]; exact Jp6 h.2
theorem YV {P : Program} {n : Nat} {ro : Option Nat} {df : List Deferred} {l : List Oper} {N : J0} {q : Nat} {li : List Bool} {L : Fr} {w : World} {X : List Nat} {vals : Nat -> Value} {F : List Ent} (ov : List (Nat × Value)) (h : ovs vals ov) (h2 : WA P n ro df l N q li (frY X (fun i => ovl ov i (vals i)) 0 F ++ L) w) : WA P n ro df l N q li (frY X vals 0 F ++ L) w := by
 rwa [show (fun i => ovl ov i (vals i)) = vals from funext fun i => Jp6 h] at h2
theorem QD {P : Program} {n id : Nat} {ro : Option Nat} {df : List Deferred} {l : List Oper} {N : J0} {B : Qi} {L : Fr} {w0 : World} (m : Nat) (al : Nat -> Bool) (cp : Nat -> Option Nat) (ph : Nat -> Value -> Value -> Prop) (ps : List Plan) (F : List Ent) (D : Nat -> Value -> World -> Nat -> Prop)
  (hm : P.follows .mixedOrders = true) (hB : (Jdc n l ps m [] && (List.range m).all (fun i => match cp i with | none => true | some j => Nat.blt j m && (Qf l i).contains j) && ps.all fun p => p.on.all (Nat.blt · m)) = true)
  (hds : (List.range m).map (JW l) = F.map (fun e => some e.d)) (hk : (kcB al cp 0 F && ps.all fun p => p.slots.all fun t => (lk L t).isSome) = true)
  (hD : ∀ j v w1 w2, eV F j v w1 -> w1.grownBy w2 none -> ∀ g, D j v w2 g -> D j v w1 g)
  (hobs : obsY P n ro df l al cp ph F D w0 L 0 (l.take m) ps)
  (hN : ∀ (vals : Nat -> Value) w', w0.grownBy w' none -> (∀ i, i < m -> eV F i (vals i) w') -> (∀ j k, j ≠ k -> j < m -> k < m -> al j = true -> al k = true -> ∀ g, D j (vals j) w' g -> ¬ D k (vals k) w' g) -> (∀ i j, i < m -> cp i = some j -> ph i (vals j) (vals i)) ->
   WA P n ro df l N (l.length - m) (List.replicate m true ++ List.replicate (l.length - m) false) (frY [] vals 0 F ++ L) w') : W P n ro df (.region id l.toArray true) N B L w0 := by
 have hlm : m <= l.length := by
  simp only [Bool.and_eq_true] at hB; have h := hB.1.1; simp only [Jdc, Bool.and_eq_true] at h
  simpa [Nat.ble_eq] using h.1.1.1.2
 refine YE m [] al cp ph ps F D hm hB hds hk hD hobs fun X hX vals w' hw h1 h2 h3 q hq => ?_; obtain rfl : X = [] := by simpa [Jfe] using hX
 rw [Jew m l.length hlm] at hq ⊢; rw [Jdr] at hq; subst hq; exact hN vals w' hw (fun i hi => h1 i hi rfl) (fun j k hjk hj hk => h2 j k hjk hj hk rfl rfl) (fun i j hi => h3 i j hi rfl)
def obsW (P : Program) (n : Nat) (ro : Option Nat) (df : List Deferred) (l : List Oper) (F : Fr) (w0 : World) (L : Fr) : Nat -> List Oper -> List Plan -> Prop
  | i, o :: os, p :: ps => obV P n ro df l F w0 i o p (Jei L p.slots) /\ obsW P n ro df l F w0 L (i + 1) os ps
  | _, [], [] => True
  | _, _, _ => False
theorem Jl2 {P : Program} {n : Nat} {ro : Option Nat} {df : List Deferred} {l : List Oper} {F : Fr} {w0 : World} {L : Fr} : ∀ (os : List Oper) (ps : List Plan) (i : Nat), (∀ p ∈ ps, (p.slots.all fun t => (lk L t).isSome) = true) -> obsW P n ro df l F w0 L i os ps -> obsV P n ro df l F w0 L i os ps (ps.map fun p => Jei L p.slots)
 | [], [], _, _, _ => trivial
 | [], _ :: _, _, _, h => h.elim
 | _ :: _, [], _, _, h => h.elim
 | _ :: os, p :: ps, i, hs, h => ⟨⟨Jah _ _, Jd0 _ _ (hs p List.mem_cons_self), h.1⟩, Jl2 os ps (i + 1) (fun q hq => hs q (List.mem_cons_of_mem _ hq)) h.2⟩
theorem JQ {P : Program} {n id : Nat} {ro : Option Nat} {df : List Deferred} {l : List Oper} {N : J0} {B : Qi} {L : Fr} {w0 : World} (m : Nat) (ps : List Plan) (F : Fr)
  (hm : P.follows .mixedOrders = true) (hB : (Jha n l ps m && ps.all fun p => p.on.all (Nat.blt · m)) = true) (hds : (List.range m).map (JW l) = F.map (fun q => some q.1)) (hk : (ps.all fun p => p.slots.all fun t => (lk L t).isSome) = true)
  (hobs : obsW P n ro df l F w0 L 0 (l.take m) ps)
  (hN : ∀ w', w0.grownBy w' none -> WA P n ro df l N (l.length - m) (List.replicate m true ++ List.replicate (l.length - m) false) (F ++ L) w') : W P n ro df (.region id l.toArray true) N B L w0 :=
 Juf m ps (ps.map fun p => Jei L p.slots) F hm hB (by have := congrArg List.length hds; simpa using this.symm) hds (Jl2 _ _ 0 (fun p hp => List.all_eq_true.1 hk p hp) hobs) hN
end Go.Proofs.Ytjgpkljepgcekaa
