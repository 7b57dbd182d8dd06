/- Contracts of functions of the program, and what they lean on: So, Sp, Draw5, Sq, Fx, Jo, Sd, Draw6, Mx, Mx2, Draw8, Draw7, Mx3, Gk, Draw9, Sx, Draw10, Nt, Xl, Draw11, Xm, Bl2, Xo, Xp, Sg, Tb, Pr, Facts, Ab. -/
import Derived.Test.YtgcdbnpenhclfaaDlogOrdersG1
import Derived.ArgAppend
import Derived.Laws.OwnMore
import Derived.Deep.Slices
import Derived.JoinedOf
import Derived.ProofKit
import Derived.Test.YtgcdbnpenhclfaaProg
import Derived.Test.YtgcdbnpenhclfaaChecked
import Derived.Deep.MidRow
import Derived.Laws.StructEq
set_option linter.unusedSimpArgs false
set_option linter.unusedVariables false
namespace Go.Proofs.Ytgcdbnpenhclfaa
open Go.RowKit
theorem QX {a b : Nat} (h : Nat.ble (a + 1) b = true) : a < b := Nat.le_of_ble_eq_true h
theorem Jh2 {α : Type} (C D : List α) {o n m : Nat} (hD : D.length = n) (h : o + n <= m) (hm : m <= C.length) : (C.take o ++ D ++ C.drop (o + n)).take m = (C.take m).take o ++ D ++ (C.take m).drop (o + n) := by
 have h1 : (C.take o ++ D).length = o + n := by simp; omega
 rw [List.take_append, List.take_of_length_le (by omega), h1, List.take_take, Nat.min_eq_left (by omega), List.drop_take]
theorem Zo {P : Program} {f : FuncId} {args : Array Value} {w : World} {K : Value -> List Value -> World -> Prop} (h : Calls P f args w fun e w' => ∃ v, e = .returned v /\ ∃ Q, K v Q w') :
 Calls P f args w fun e w' => ∃ v Q, e = .returned v /\ K v Q w' := h.mono fun e w' ⟨v, h1, Q, h2⟩ => ⟨v, Q, h1, h2⟩
theorem blk.ret {id : Nat} {N : JD} {B : JN} {df : List Deferred} {L : Fr} {w : World} (h : B .ret df L w) : blk id N B .ret df L w := h
theorem exits.retI {B : JN} {df : List Deferred} {L : Fr} {w : World} (h : B .ret df L w) : exits B df L w .ret := h
theorem endC.mk {P : Program} {res : List ResultVar} {R : Value -> World -> Prop} {L : Fr} {w : World} (h : ∃ vs, Jdx P L w res vs /\ R (Jdw vs) w) : endC P res R .ret [] L w := h
theorem JI {P : Program} {f : FuncId} {args : Array Value} {w : World} {K : Value -> List Rw -> Prop} (h : Calls P f args w fun e w' => ∃ v Q, e = .returned v /\ w.grownBy w' none /\ Rows w.heap.size none w' Q /\ News w.heap.size Q /\ K v Q) :
 Calls P f args w fun e w' => ∃ v, e = .returned v /\ ∃ Q, w.grownBy w' none /\ Rows w.heap.size none w' Q /\ News w.heap.size Q /\ K v Q := h.mono fun e w' ⟨v, Q, h1, h2⟩ => ⟨v, h1, Q, h2⟩
section
variable {X : World -> Prop} {w0 w w' wS : World} {mr : Option Nat} {R R0 : List Rw}
theorem Yn {e z m c : Nat} {A : Option Addr} {cs : List Value} (Q : List Rw) (h0 : St X w0 mr wS R0) (h : St X w0 mr w (Q ++ R0)) (hO : Own 0 w e z A m c cs) (hn : ∀ g, bl A = some g -> wS.heap.size <= g) (hq : ∀ s ∈ Q, ∀ g, bl A = some g -> ¬ s.at_ g) :
  St X w0 mr w (.row e z A m c cs :: (Q ++ R0)) := by
 refine ⟨h.ext, ⟨⟨hO, fun g hg => .inl (by have := hn g hg; have := h0.size; omega)⟩, fun s hs _ g hg hs2 => ?_, h.rows⟩, h.x, h.cl, h.lt⟩; rcases List.mem_append.1 hs with hs | hs
 .exact hq s hs g hg hs2
 .have := h0.rows.lt hs g hs2; have := hn g hg; omega
/-- A row of the caller's that the call may turn. -/
theorem Ja0 {e z m c : Nat} {A : Option Addr} {cs : List Value} (h : Own 0 w e z A m c cs) : St TT w (bl A) w [.row e z A m c cs] :=
  ⟨World.grownBy.refl w _, ⟨⟨h, fun g hg => .inr hg⟩, fun s hs => by simp at hs, trivial⟩, trivial, QA, fun g hg => (h.bl_ge g hg).2⟩
theorem St.rom' {B z m c : Nat} {A : Option Addr} {cs : List Value} (h : St X w0 mr w R) (hr : Rd B w0 z A m c cs) (ha : 0 < m -> ∀ g, mr = some g -> bl A ≠ some g) : Rd B w z A m c cs :=
 ⟨hr.len, hr.cap, hr.max, fun hm => by
  obtain ⟨ad, e1, e2, e3⟩ := hr.cells hm; exact ⟨ad, e1, e2, fun j u hu => h.ext.cell (e3 j u hu) (fun e => by rw [JV] at e; exact ha hm _ e.symm (by rw [e1]; rfl))⟩⟩
theorem St.aptRow {i j e z m c e' z' m' c' : Nat} {A A' : Option Addr} {cs cs' : List Value} (h : St X w0 mr w R) (hij : i ≠ j) (hi : R[i]? = some (.row e z A m c cs)) (hj : R[j]? = some (.row e' z' A' m' c' cs')) : 0 < m' -> ∀ g, bl A = some g -> bl A' ≠ some g :=
 fun _ g h1 h2 => h.rows.apt hij hi hj rfl g h1 h2
theorem St.aptRo {i e z m c z' m' c' B : Nat} {A A' : Option Addr} {cs cs' : List Value} (h : St X w0 none w R) (hi : R[i]? = some (.row e z A m c cs)) (hr : Rd B w0 z' A' m' c' cs') (hz : 0 < z' := by decide) : 0 < m' -> ∀ g, bl A = some g -> bl A' ≠ some g := fun hm g h1 h2 => by
 have h3 := ((h.rows.get hi).2 g h1).resolve_right (by simp); obtain ⟨ad, e1, e2, _⟩ := (hr.norm hz).cells hm; rw [e1] at h2; cases h2; exact absurd e2 (Nat.not_lt.2 h3)
theorem St.aptRoM {i e z m c z' m' c' B : Nat} {A A' : Option Addr} {cs cs' : List Value} (h : St X w0 mr w R) (hi : R[i]? = some (.row e z A m c cs)) (hr : Rd B w0 z' A' m' c' cs') (ha : 0 < m' -> ∀ g, mr = some g -> bl A' ≠ some g) (hz : 0 < z' := by decide) : 0 < m' -> ∀ g, bl A = some g -> bl A' ≠ some g := fun hm g h1 h2 => by
 rcases (h.rows.get hi).2 g h1 with h3 | h3
 .obtain ⟨ad, e1, e2, _⟩ := (hr.norm hz).cells hm; rw [e1] at h2; cases h2; exact absurd e2 (Nat.not_lt.2 h3)
 .exact ha hm g h3 h2
/-- A call that turns a row. -/
theorem St.callm {i e z m c : Nat} {A : Option Addr} {cs cs' : List Value} {Q : List Rw} (h : St X w0 mr w R) (hi : R[i]? = some (.row e z A m c cs)) (hg : w.grownBy w' (bl A)) (hO : Own 0 w' e z A m c cs') : St X w0 mr w' (R.set i (.row e z A m c cs')) :=
  h.put hi hg hO (.inl rfl)
end
section
variable {P : Program} {n : Nat} {ro : Option Nat} {df : List Deferred} {N : JD} {L : Fr} {w w0 : World} {ops : Array Oper} {rest : List Oper}
variable {d : Nat} {ty : TypeId} {pos : String} {af : Array Edge} {X : World -> Prop} {mr : Option Nat} {R : List Rw}
/-- A call that turns a row; its value is of no use, or plain. -/
theorem SL.callm {f : FuncId} {fn : Func} {c : Code} {xs : List Operand} {ts : Array TypeId} {vs : List Value} {K : Value -> List Value -> Prop} {e z m k : Nat} {A : Option Addr} {cs : List Value} (i : Nat) (hS : St X w0 mr w R) (hi : R[i]? = some (.row e z A m k cs))
    (hc : Calls P f vs.toArray w fun en w' => ∃ v cs', en = .returned v /\ w.grownBy w' (bl A) /\ Own 0 w' e z A m k cs' /\ K v cs')
    (hf : P.funcs[f]? = some fn) (hb : fn.body = some c) (hnm : (fn.name == "runtime.NumGoroutine") = false) (hx : evs L xs = some vs) (hn : Nat.blt d n = true)
    (h : ∀ v cs' w', K v cs' -> St X w0 mr w' (R.set i (.row e z A m k cs')) -> WL P n ro df ops rest N ((d, v) :: L) w') :
    WL P n ro df ops (⟨some d, .call ⟨.value (.func f), xs.toArray, ts⟩, ty, pos, af, none⟩ :: rest) N L w :=
  WL.call hf hb hnm hx hn (R := fun v w' => ∃ cs', w.grownBy w' (bl A) /\ Own 0 w' e z A m k cs' /\ K v cs') (hc.mono fun e w' ⟨v, Q, h1, h2⟩ => ⟨v, h1, Q, h2⟩) fun v w' ⟨cs', h1, h2, h3⟩ => h v cs' w' h3 (hS.callm (Q := []) hi h1 h2)
/-- A builtin that yields no slot. -/
theorem Jfz {o : Oper} {v : Value} {w' : World} (hg : o.guard = none) (hd : o.dst = none)
    (hr : ∀ a, Has n df a L -> (execOp a.eval o).run P w = .ok (.value v) w') (h : WL P n ro df ops rest N L w') : WL P n ro df ops (o :: rest) N L w := by
  refine ⟨fun a ha B => wpListIn_plain hg fun K hK => ?_⟩
  unfold Oper.wpIn
  refine ⟨fun _ _ => trivial, ?_⟩
  rw [Oper.semAt_eq _ _ _ (J9 (hr a ha) (fun _ h => by cases h)), hr a ha, Oper.uponIn_value, hd]
  exact hK _ _ (h.out _ ha B)
theorem Jbb {b : Nat} {w : World} {e z : Nat} {A : Option Addr} {m c : Nat} {cs : List Value} (h : Own b w e z A m c cs) (hm : 0 < m) : ∃ g cur, A = some ⟨g, 0, none⟩ /\ b <= g /\ w.heap[g]? = some (.cells cur e (0, 0)) /\ m <= c /\ c <= maxLen /\ cur.size = c * z /\ cur.toList.take (m * z) = cs := by
 rcases h.2 with ⟨h1, h2⟩ | ⟨g, cap, cur, h1, h2, h3, h4, h5, h6, h7⟩
 .omega
 .cases h1; exact ⟨g, cur, rfl, h2, h3, h4, h5, h6, h7⟩
/-- Turning some cells of a row of one-cell elements. -/
theorem Yq {w : World} {e g : Nat} {m c : Nat} {cs : List Value} {cur cur' : Array Value} (hg : w.heap[g]? = some (.cells cur e (0, 0))) (hs : cur'.size = cur.size) (hmc : m <= c) (hc : c <= maxLen) (hcs : cur.size = c * 1) (ht : cur'.toList.take (m * 1) = cs) :
    Own 0 (w.setRow g cur') e 1 (some ⟨g, 0, none⟩) m c cs /\ w.grownBy (w.setRow g cur') (bl (some ⟨g, 0, none⟩)) := by
  refine ⟨⟨?_, .inr ⟨g, c, cur', rfl, Nat.zero_le _, setRow_heap w g cur cur' e _ hg, hmc, hc, by rw [hs, hcs], ht⟩⟩, ⟨rfl, rfl, rfl, Nat.le_of_eq (setRow_size w g cur').symm, fun k hk hr => setRow_other w g k cur' (fun e => hr (by rw [e]; rfl))⟩⟩
  rw [<- ht, List.length_take, Array.length_toList, hs, hcs]; omega
/-- 'copy' into a window of a row. -/
theorem Jla {x y : Operand} {tx ty_ e m c ms cs' B by_ : Nat} {zero : Value} {A As Aw : Option Addr} {xs ys : LI} (i o : Nat) (hS : St X w0 mr w R) (hi : R[i]? = some (.row e 1 A m c (is xs))) (ht : P.underlying tx = some (.slice e)) (he : Elem P e 1 by_ zero)
    (hR : Rd B w 1 As ms cs' (is ys)) (hw : Aw = if c = o then A else A.map (·.add (o * 1))) (ho : o <= m) (hx : ev L x = some (.slice Aw (m - o) (c - o))) (hy : ev L y = some (.slice As ms cs')) (hn : Nat.blt d n = true)
    (h : ∀ w', St X w0 mr w' (R.set i (.row e 1 A m c (is (xs.take o ++ ys.take (min ms (m - o)) ++ xs.drop (o + min ms (m - o)))))) -> WL P n ro df ops rest N ((d, .int .i64 ((min ms (m - o) : Nat) : Int)) :: L) w') :
    WL P n ro df ops (⟨some d, .call ⟨.builtin .copy, #[x, y], #[tx, ty_]⟩, ty, pos, af, none⟩ :: rest) N L w := by
  obtain ⟨inf, i1, i2, i3, i4⟩ := he.ex
  have hO := hS.own hi
  have hxl := hO.rd.ilen
  have hyl := hR.ilen
  rcases Nat.eq_zero_or_pos (min ms (m - o)) with h0 | h0
  . have e1 : xs.take o ++ ys.take (min ms (m - o)) ++ xs.drop (o + min ms (m - o)) = xs := by rw [h0]; simp
    rw [e1, h0] at h
    have h1 : R.set i (.row e 1 A m c (is xs)) = R := List.set_getElem?_self hi
    rw [h1] at h
    refine WL.val rfl rfl hn (fun a ha => ?_) (h w hS)
    have hz : ms.min (m - o) = 0 := h0
    have := run_copy_none (P := P) w tx ty_ ty e Aw As (m - o) (c - o) ms cs' ht (by simp [i1, i3]) hz
    simp [execOp, resolve, invoke, builtin, ha.ev hx, ha.ev hy, this, goInt]
  . obtain ⟨g, cur, rfl, _, hg, hmc, hcm, hcs, htake⟩ := Jbb hO (by omega)
    obtain ⟨ad, rfl, _, hcell⟩ := hR.cells (by omega)
    rw [if_neg (by omega)] at hw
    have hAw : Aw = some ⟨g, o, none⟩ := by rw [hw]; simp [Addr.add]; intro h; exact h.symm
    subst hAw
    have hlen : ((is ys).take (min ms (m - o))).length = min ms (m - o) := by rw [List.length_take, Jbj]; omega
    have hrun := run_copy_row (P := P) w tx ty_ ty e g o (m - o) (c - o) ad ms cs' cur e ((is ys).take (min ms (m - o))) ht (by simp [i1, i3]) hg hlen
      (fun j v hv => hcell j v (by rw [List.getElem?_take] at hv; split at hv; exact hv; cases hv)) (by rw [hlen, hcs]; omega) (fun v hv => JX ys v (List.mem_of_mem_take hv))
    have hp := Yq (m := m) (c := c) (cs := is (xs.take o ++ ys.take (min ms (m - o)) ++ xs.drop (o + min ms (m - o)))) hg (cur' := (cur.toList.take o ++ (is ys).take (min ms (m - o)) ++ cur.toList.drop (o + ((is ys).take (min ms (m - o))).length)).toArray)
      (by rw [hlen]; simp [Jbj]; omega) hmc hcm hcs (by
        have h2 : cur.toList.take m = is xs := by rw [<- htake, Nat.mul_one]
        rw [hlen]
        have e1 : is (xs.take o ++ ys.take (min ms (m - o)) ++ xs.drop (o + min ms (m - o))) = (cur.toList.take m).take o ++ (is ys).take (min ms (m - o)) ++ (cur.toList.take m).drop (o + min ms (m - o)) := by
          rw [<- JU, <- JU, <- Jbi, <- Jbi, <- Jkf, h2]
        rw [e1]
        simp only [Nat.mul_one]
        exact Jh2 _ _ hlen (by omega) (by simp; omega))
    refine WL.val rfl rfl hn (fun a ha => ?_) (h _ (hS.put hi hp.2 hp.1 (.inl rfl)))
    simp [execOp, resolve, invoke, builtin, ha.ev hx, ha.ev hy, hrun, hlen, goInt]
/-- 'clear' of a row. -/
theorem Jjq {x : Operand} {tx e m c by_ : Nat} {A : Option Addr} {xs : LI} (i : Nat) (hS : St X w0 mr w R) (hi : R[i]? = some (.row e 1 A m c (is xs))) (ht : P.underlying tx = some (.slice e)) (he : Elem P e 1 by_ (.int .i64 0)) (hx : ev L x = some (.slice A m c))
    (h : ∀ w', St X w0 mr w' (R.set i (.row e 1 A m c (is (List.replicate m 0)))) -> WL P n ro df ops rest N L w') :
    WL P n ro df ops (⟨none, .call ⟨.builtin .clear, #[x], #[tx]⟩, ty, pos, af, none⟩ :: rest) N L w := by
  obtain ⟨inf, i1, i2, i3, i4⟩ := he.ex
  have hO := hS.own hi
  have hxl := hO.rd.ilen
  rcases Nat.eq_zero_or_pos m with h0 | h0
  . subst h0
    have e0 : xs = [] := List.eq_nil_of_length_eq_zero hxl
    subst e0
    have h1 : R.set i (.row e 1 A 0 c (is [])) = R := List.set_getElem?_self hi
    rw [show List.replicate 0 (0 : Int) = [] from rfl, h1] at h
    refine Jfz (v := .tuple #[]) rfl rfl (fun a ha => ?_) (h w hS)
    have : (Builtin.clear_ #[tx] ty #[.slice A 0 c]).run P w = .ok (.tuple #[]) w := by
      cases A <;> simp [Builtin.clear_, run_underlying ht]
    simp [execOp, resolve, invoke, builtin, ha.ev hx, this]
  . obtain ⟨g, cur, rfl, _, hg, hmc, hcm, hcs, htake⟩ := Jbb hO h0
    have hst := run_storeCells_at P g 0 e (List.replicate m (Value.int .i64 0)) 0 cur w hg (by simp; omega) (fun v hv => by rw [List.eq_of_mem_replicate hv]; rfl)
    have hzc : (Builtin.zeroCells (Value.int .i64 0).cells m).toList = List.replicate m (Value.int .i64 0) := by
      show (Builtin.zeroCells #[Value.int .i64 0] m).toList = _
      simp [Builtin.zeroCells]
      apply List.ext_getElem
      . simp
      . intro i h1 h2
        simp [Nat.mod_one]
    have hrun : (Builtin.clear_ #[tx] ty #[.slice (some ⟨g, 0, none⟩) m c]).run P w = .ok (.tuple #[]) (w.setRow g (cur.toList.take (0 + 0) ++ List.replicate m (Value.int .i64 0) ++ cur.toList.drop (0 + 0 + (List.replicate m (Value.int .i64 0)).length)).toArray) := by
      obtain ⟨k, rfl⟩ : ∃ k, m = k + 1 := ⟨m - 1, by omega⟩
      have hz0 : (zeroValue e).run P w = .ok (.int .i64 0) w := by simp [zeroValue, typeInfo, i1, i2]
      simp only [Builtin.clear_]
      simp [run_underlying ht, hz0, hzc, hst]
    have hp := Yq (m := m) (c := c) (cs := is (List.replicate m 0)) hg (cur' := (cur.toList.take (0 + 0) ++ List.replicate m (Value.int .i64 0) ++ cur.toList.drop (0 + 0 + (List.replicate m (Value.int .i64 0)).length)).toArray)
      (by simp; omega) hmc hcm hcs (by simp [is])
    refine Jfz (v := .tuple #[]) rfl rfl (fun a ha => ?_) (h _ (hS.put hi hp.2 hp.1 (.inl rfl)))
    simp [execOp, resolve, invoke, builtin, ha.ev hx, hrun]
theorem Jjo {x y : Operand} {t e : TypeId} {z by_ : Nat} {zero : Value} {k k' : IntKind} {J : Int} {cs : List Value} (ht : P.underlying t = some (.slice e)) (he : Elem P e z by_ zero)
  (hx : ev L x = some (.int k J)) (hy : ev L y = some (.int k' J)) (hJ : 0 <= J /\ J * (by_ : Int) <= 281474976710656 /\ J <= 281474976710656) (hcs : (madeCells zero.cells (J.toNat * z)).toList = cs) (hn : Nat.blt d n = true)
  (h : ∀ A c w', Own 0 w' e z A J.toNat c cs -> (∀ g, bl A = some g -> w.heap.size <= g) -> w.grownBy w' none -> WL P n ro df ops rest N ((d, .slice A J.toNat c) :: L) w') :
  WL P n ro df ops (⟨some d, .makeSlice t x y, ty, pos, af, none⟩ :: rest) N L w := by
 subst hcs; have h1 : J = ((J.toNat : Nat) : Int) := by omega
 refine Jfx w.heap.size J.toNat ht he hx hy h1 ?_ (by simp only [maxLen]; omega) (Nat.le_refl _) hn fun A w' hA hO hG => h A J.toNat w' (hO.low (Nat.zero_le _)) (fun g hg => (hO.bl_ge g hg).1) hG; have := hJ.2.1; rw [h1, <- Int.natCast_mul] at this; rw [Nat.mul_comm]; exact Int.ofNat_le.1 this
/-- 'make', without a length. -/
theorem Jjp {x y : Operand} {t e : TypeId} {z by_ : Nat} {zero : Value} {k k' : IntKind} {J : Int} {cs : List Value} (hS : St X w0 mr w R) (ht : P.underlying t = some (.slice e)) (he : Elem P e z by_ zero)
    (hx : ev L x = some (.int k 0)) (hy : ev L y = some (.int k' J)) (hJ : 0 <= J /\ J * (by_ : Int) <= 281474976710656 /\ J <= 281474976710656) (hcs : [] = cs) (hn : Nat.blt d n = true)
    (h : ∀ A w', St X w0 mr w' (.row e z A 0 J.toNat cs :: R) -> WL P n ro df ops rest N ((d, .slice A 0 J.toNat) :: L) w') :
    WL P n ro df ops (⟨some d, .makeSlice t x y, ty, pos, af, none⟩ :: rest) N L w := by
  subst hcs
  obtain ⟨inf, i1, i2, i3, i4⟩ := he.ex
  have h1 : J = ((J.toNat : Nat) : Int) := by omega
  have hb : inf.bytes * J.toNat <= 281474976710656 := by
    have := hJ.2.1; rw [h1, <- Int.natCast_mul] at this; rw [i4, Nat.mul_comm]; exact Int.ofNat_le.1 this
  obtain ⟨w', hr, hO, hG⟩ := run_make_own (P := P) w w.heap.size t e inf zero z ht i1 i2 i3 k k' J.toNat hb (by simp only [maxLen]; omega) (Nat.le_refl _)
  rw [<- h1] at hr
  refine WL.val rfl rfl hn (fun a ha => by simp [execOp, ha.ev hx, ha.ev hy, hr]) (h _ w' (hS.push hG ⟨Own.low (b' := 0) hO (Nat.zero_le _), fun g hg => .inl ?_⟩ fun g hg => ?_))
  . cases hg; exact hS.size
  . cases hg; exact Nat.le_refl _
theorem St.castOwn {i e z m c m' c' : Nat} {A A' : Option Addr} {cs cs' : List Value} {w' : World} (h : St X w0 mr w R) (hi : R[i]? = some (.row e z A m c cs)) (hg : w.grownBy w' (bl A)) (hR : Rd w'.heap.size w' z A m c cs) (hR2 : Rd w'.heap.size w' z A' m' c' cs') (hz : 0 < z) (hA : 0 < m' -> bl A' = bl A ∨ bl A' = some w.heap.size) :
  St X w0 mr w' (.ro z A' m' c' cs' :: R.set i (.ro z A m c cs)) := by
 have hr := h.rows.get hi; have h1 : Rows w0.heap.size mr w' (R.set i (.ro z A m c cs)) := h.rows.put hi rfl hg (fun g e => e) ⟨hz, hR⟩ (fun g e => .inl e.1); refine ⟨Qq h.ext hg hr.2, ⟨⟨hz, hR2⟩, fun s hs hm g hg1 hg2 => ?_, h1⟩, h.cl _ _ _ h.x hg (Yb hr.1), h.cl, h.lt⟩; have hsm : s.mut = true := by simpa [Rw.mut] using hm
 obtain ⟨j, hj⟩ := List.getElem?_of_mem hs; rw [List.getElem?_set] at hj; split at hj
 .split at hj
  .cases hj; cases hsm
  .cases hj
 .rename_i hij
  have hs0 := h.rows.get hj; rcases hA hg1.2 with h2 | h2
  .exact h.rows.apt (i := i) (j := j) hij hi hj (by simp [Rw.mut]) g (show bl A = some g from h2 ▸ hg1.1) hg2
  .have h3 := hg1.1; rw [h2] at h3; cases h3; exact absurd (hs0.lt hg2) (Nat.lt_irrefl _)
/-- 'append' onto a row that is only read from here on, as is what it yields. -/
theorem Jdj {x y : Operand} {t e : TypeId} {z by_ : Nat} {zero : Value} {A A' : Option Addr} {m c m' c' B : Nat} {cs cs' : List Value} (i mm : Nat) (ls : List Value) (hS : St X w0 mr w R) (hi : R[i]? = some (.row e z A m c cs)) (ht : P.underlying t = some (.slice e)) (he : Elem P e z by_ zero)
    (hR : Rd B w z A' m' c' cs') (h1 : ∀ u ∈ cs', u.oneCell' = true) (hx : ev L x = some (.slice A m c)) (hy : ev L y = some (.slice A' m' c')) (hm0 : 0 < m /\ 0 < m')
    (hmax : m + m' <= maxLen) (hby : (m + m') * by_ <= 140737488355328) (hmm : m + m' = mm) (hls : cs ++ cs' = ls) (hn : Nat.blt d n = true)
    (h : ∀ A2 c2 w', St X w0 mr w' (.ro z A2 mm c2 ls :: R.set i (.ro z A m c cs)) -> (∀ g, bl A2 = some g -> w0.heap.size <= g ∨ mr = some g) -> WL P n ro df ops rest N ((d, .slice A2 mm c2) :: L) w') :
    WL P n ro df ops (⟨some d, .call ⟨.builtin .append, #[x, y], #[t, t]⟩, ty, pos, af, none⟩ :: rest) N L w := by
  subst hmm; subst hls
  obtain ⟨inf, i1, i2, i3, i4⟩ := he.ex
  have hO := hS.own hi
  obtain ⟨g, cur, rfl, hg0, hg, hmc, hcm, hcs, htake⟩ := Jbb hO hm0.1
  obtain ⟨ad, rfl, _, hcell⟩ := hR.cells hm0.2
  have hgl : g < w.heap.size := (Array.getElem?_eq_some_iff.1 hg).1
  by_cases hroom : m + m' <= c
  . obtain ⟨w', hr, o1, o2⟩ := run_append_fits (P := P) w 0 t ty e inf z ht i1 i3 g m c cs hO ad m' c' cs' hR.len hcell h1 hroom
    have h2 : Rd w'.heap.size w' z (some ⟨g, 0, none⟩) (m + m') c (cs ++ cs') := Own.rd (e := e) (b := 0) o1
    have h3 : Rd w'.heap.size w' z (some ⟨g, 0, none⟩) m c cs := by
      have h4 := h2.take (k := m) (by omega)
      rwa [<- hO.len, List.take_left] at h4
    refine WL.val rfl rfl hn (fun a ha => by simp [execOp, resolve, invoke, builtin, ha.ev hx, ha.ev hy, hr]) (h _ c w' (hS.castOwn hi o2 h3 h2 he.pos (fun _ => .inl rfl)) (hS.rows.get hi).2)
  . obtain ⟨v', w', hr, o1, o2⟩ := run_append_arg_grows (P := P) w t ty e inf zero z by_ ht i1 i2 i3 i4 he.zs he.pos ⟨g, 0, none⟩ m c cs hO.len (fun j u hu => hO.rd.at_ hu) ad m' c' cs' hR.len hcell (by omega) hmax hby
    have hv : ∃ A2 c2, v' = .slice A2 (m + m') c2 := by
      rcases o1.2 with ⟨rfl, h3⟩ | ⟨g, cap, cur, rfl, _⟩
      . omega
      . exact ⟨_, _, rfl⟩
    obtain ⟨A2, c2, rfl⟩ := hv
    have hO2 : Own w.heap.size w' e z A2 (m + m') c2 (cs ++ cs') := o1
    have hS2 : St X w0 mr w' (.row e z A2 (m + m') c2 (cs ++ cs') :: R) := hS.push o2 ⟨hO2.low (Nat.zero_le _), fun g hg => .inl (by have := (hO2.bl_ge g hg).1; have := hS.size; omega)⟩ (fun g hg => (hO2.bl_ge g hg).1)
    have hS3 := (hS2.freeze (i := 0) rfl he.pos).freeze (i := i + 1) (e := e) (z := z) (A := some ⟨g, 0, none⟩) (m := m) (c := c) (cs := cs) (by simpa using hi) he.pos
    exact WL.val rfl rfl hn (fun a ha => by simp [execOp, resolve, invoke, builtin, ha.ev hx, ha.ev hy, hr]) (h A2 c2 w' (by simpa using hS3) (fun g hg => .inl (by have := (hO2.bl_ge g hg).1; have := hS.size; omega)))
/-- 'a[j:]' -/
theorem Jhj {x y : Operand} {t e : TypeId} {by_ B : Nat} {zero : Value} {A : Option Addr} {m c : Nat} {cs : List Value} {wR : World} {k : IntKind} {J : Int} (ht : P.underlying t = some (.slice e)) (he : Elem P e 1 by_ zero) (hR : Rd B wR 1 A m c cs)
    (hx : ev L x = some (.slice A m c)) (hy : ev L y = some (.int k J)) (hJ : 0 <= J /\ J <= (m : Nat)) (hn : Nat.blt d n = true)
    (h : WL P n ro df ops rest N ((d, .slice (if c = J.toNat then A else A.map (·.add (J.toNat * 1))) (m - J.toNat) (c - J.toNat)) :: L) w) : WL P n ro df ops (⟨some d, .slice t x (some y) none none, ty, pos, af, none⟩ :: rest) N L w :=
  Jhg J.toNat ht he hx hy (by omega) (by omega) hn h
end
end Go.Proofs.Ytgcdbnpenhclfaa
namespace Go.Proofs.Ytgcdbnpenhclfaa
open Go.RowKit
/-! ### pointers and functions beside nil; entries of an array that lies in memory -/
section
variable {P : Program} {n : Nat} {ro : Option Nat} {df : List Deferred} {N : JD} {L : Fr} {w : World} {rest : List Oper} {ops : Array Oper}
variable {d : Nat} {ty : TypeId} {pos : String} {af : Array Edge}
theorem Jh7 {t e : TypeId} {a : Option Addr} (hu : P.underlying t = some (.pointer e)) : (Op.equal t (.pointer a) (.pointer none)).run P w = .ok a.isNone w := by
 have : ∀ k, (Op.equalIn (k + 1) t (.pointer a) (.pointer none)).run P w = .ok a.isNone w := fun k => by
  rw [Op.equalIn]; cases a <;> simp [run_underlying hu]
 exact this 9999
theorem Jdd {x y : Operand} {tx tb e : TypeId} {a : Option Addr} {b : Bool} (hu : P.underlying tx = some (.pointer e)) (hx : ev L x = some (.pointer a)) (hy : ev L y = some (.pointer none)) (hb : a.isNone = b) (hn : Nat.blt d n = true)
  (h : WL P n ro df ops rest N ((d, .bool b) :: L) w) : WL P n ro df ops (⟨some d, .binOp .eql tx x y tb, ty, pos, af, none⟩ :: rest) N L w :=
 WL.val rfl rfl hn (fun q ha => by subst hb; simp [execOp, eqGuard, binOp, ha.ev hx, ha.ev hy, Jh7 hu]) h
end
end Go.Proofs.Ytgcdbnpenhclfaa
namespace Go.Proofs.Ytgcdbnpenhclfaa
open Go.RowKit
/-! ### regions that draw their order, where one operation may come late -/
end Go.Proofs.Ytgcdbnpenhclfaa
namespace Go.Proofs.Ytgcdbnpenhclfaa
open Go.RowKit
theorem Own.take {b : Nat} {w : World} {e z : Nat} {A : Option Addr} {m c : Nat} {cs : List Value} (h : Own b w e z A m c cs) {k : Nat} (hk : k <= m) : Own b w e z A k c (cs.take (k * z)) := by
 obtain ⟨h1, h2⟩ := h; have hkz : k * z <= m * z := Nat.mul_le_mul_right z hk; refine ⟨by rw [List.length_take, h1]; omega, ?_⟩; rcases h2 with ⟨h3, h4⟩ | ⟨g, cap, cur, h3, h4, h5, h6, h7, h8, h9⟩
 .have : k = 0 := by omega
  subst this; cases h3; exact .inl ⟨rfl, rfl⟩
 .cases h3; refine .inr ⟨g, c, cur, rfl, h4, h5, by omega, h7, h8, ?_⟩; rw [<- h9, List.take_take, Nat.min_eq_left hkz]
section
variable {X : World -> Prop} {w0 w w' : World} {mr : Option Nat} {R : List Rw}
end
/-- a readable slice of readable slices of ints -/
def Al (w : World) : List Value -> LL -> Prop
  | [], [] => True
  | v :: vs, l :: ls => (∃ A k B, v = .slice A l.length k /\ Rd B w 1 A l.length k (is l)) /\ Al w vs ls
  | _, _ => False
theorem Al.len {w : World} : ∀ {vs : List Value} {ls : LL}, Al w vs ls -> vs.length = ls.length
 | [], [], _ => rfl
 | v :: vs, l :: ls, h => by rw [List.length_cons, List.length_cons, Al.len h.2]
 | [], _ :: _, h => h.elim
 | _ :: _, [], h => h.elim
theorem Al.ext {w w' : World} (hg : w.grownBy w' none) : ∀ {vs : List Value} {ls : LL}, Al w vs ls -> Al w' vs ls
 | [], [], _ => trivial
 | v :: vs, l :: ls, ⟨⟨A, k, B, h1, h2⟩, h3⟩ => ⟨⟨A, k, B, h1, h2.ext hg⟩, Al.ext hg h3⟩
 | [], _ :: _, h => h.elim
 | _ :: _, [], h => h.elim
def gl (l : LL) (i : Int) : LI := l.getD i.toNat []
theorem Al.at_ {w : World} : ∀ {vs : List Value} {ls : LL} {i : Nat}, Al w vs ls -> i < ls.length -> ∃ A k B, vs[i]? = some (.slice A (ls.getD i []).length k) /\ Rd B w 1 A (ls.getD i []).length k (is (ls.getD i []))
 | v :: vs, l :: ls, 0, ⟨⟨A, k, B, h1, h2⟩, h3⟩, _ => ⟨A, k, B, by rw [h1]; rfl, h2⟩
 | v :: vs, l :: ls, i + 1, ⟨_, h3⟩, hi => Al.at_ (i := i) h3 (by simpa using hi)
 | [], [], i, _, hi => absurd hi (Nat.not_lt_zero i)
 | [], _ :: _, _, h, _ => h.elim
 | _ :: _, [], _, h, _ => h.elim
structure Rl (w : World) (A : Option Addr) (n k : Nat) (ls : LL) : Prop where
  ex : ∃ B cs, Rd B w 1 A n k cs /\ Al w cs ls
theorem Rl.len {w : World} {A : Option Addr} {n k : Nat} {ls : LL} (h : Rl w A n k ls) : ls.length = n := by
 obtain ⟨B, cs, h1, h2⟩ := h.ex; rw [<- h2.len, h1.len, Nat.mul_one]
theorem Rl.ext {w w' : World} {A : Option Addr} {n k : Nat} {ls : LL} (h : Rl w A n k ls) (hg : w.grownBy w' none) : Rl w' A n k ls := by
 obtain ⟨B, cs, h1, h2⟩ := h.ex; exact ⟨B, cs, h1.ext hg, h2.ext hg⟩
theorem Rl.nil (w : World) : Rl w none 0 0 [] := ⟨0, [], Rd.nil (by simp only [maxLen]; omega), trivial⟩
theorem Rl.at_ {w : World} {A : Option Addr} {n k : Nat} {ls : LL} (h : Rl w A n k ls) {I : Int} (hI : 0 <= I /\ I < (n : Nat)) :
  ∃ A2 k2 B2, w.cell? ((JL A).add I.toNat) = some (.slice A2 (gl ls I).length k2) /\ Rd B2 w 1 A2 (gl ls I).length k2 (is (gl ls I)) := by
 obtain ⟨B, cs, h1, h2⟩ := h.ex; have hl := h.len; obtain ⟨A2, k2, B2, e1, e2⟩ := h2.at_ (i := I.toNat) (by omega); exact ⟨A2, k2, B2, h1.at_ e1, e2⟩
theorem Rl.m64 {w : World} {A : Option Addr} {n k : Nat} {ls : LL} (h : Rl w A n k ls) : n <= 9223372036854775807 := by
 obtain ⟨B, cs, h1, h2⟩ := h.ex; exact h1.m64
section
variable {P : Program} {n : Nat} {ro : Option Nat} {df : List Deferred} {N : JD} {L : Fr} {w w0 : World} {ops : Array Oper} {rest : List Oper}
variable {d : Nat} {ty : TypeId} {pos : String} {af : Array Edge} {X : World -> Prop} {mr : Option Nat} {R : List Rw}
end
theorem St.cell {X : World -> Prop} {w0 w : World} {R : List Rw} (h : St X w0 none w R) {p : Addr} {u : Value} (hc : w0.cell? p = some u) : w.cell? p = some u := Jet h.ext hc (by simp)
end Go.Proofs.Ytgcdbnpenhclfaa
namespace Go.Proofs.Ytgcdbnpenhclfaa
open Go.ChangeShapes Go.WideShapes Go.ChangeAt Go.RowKit
section
variable {H : Type} {enc : TypeId × Value -> H} {P : Program} {W : World} {base : Nat} {spare : Nat -> Bool} {held : Bool}
end
end Go.Proofs.Ytgcdbnpenhclfaa
namespace Go.Proofs.Ytgcdbnpenhclfaa
open Go
/-! ### the head of a program's list of roots, without walking the list -/
theorem Ja1 {c : Char} (h : c ≠ Char.ofNat 32) (r : List Char) : wordsSigns (c :: r) = match wordsSigns r with | w :: ws => (c :: w) :: ws | [] => [[c]] := by
  rw [wordsSigns.eq_def]
  split
  . rename_i he; cases he
  . rename_i he; cases he; exact absurd rfl h
  . rename_i he; cases he; rfl
theorem ws_ne : ∀ a : List Char, wordsSigns a ≠ []
 | [] => fun h => by cases h
 | c :: a => by
  by_cases h : c = Char.ofNat 32
  .subst h; show [] :: wordsSigns a ≠ []; exact List.cons_ne_nil _ _
  .rw [Ja1 h]; cases wordsSigns a with
   | nil => exact List.cons_ne_nil _ _
   | cons w ws => exact List.cons_ne_nil _ _
theorem Jdl : ∀ a b : List Char, wordsSigns (a ++ Char.ofNat 32 :: b) = wordsSigns a ++ wordsSigns b
 | [], b => rfl
 | c :: a, b => by
  by_cases h : c = Char.ofNat 32
  .subst h; show [] :: wordsSigns (a ++ Char.ofNat 32 :: b) = ([] :: wordsSigns a) ++ wordsSigns b; rw [Jdl a b]; rfl
  .rw [List.cons_append, Ja1 h, Ja1 h, Jdl a b]; cases hw : wordsSigns a with
   | nil => exact absurd hw (ws_ne a)
   | cons w ws => rfl
/-- a program whose list of roots begins with 'harness', a sum, 'cut' -/
theorem Jh8 {P : Program} {A B : String} {hs : List (List Char)} (h : P.initOrder = A ++ (String.singleton (Char.ofNat 32)) ++ B) (hA : wordsSigns A.toList = hs) : ∃ rest, wordsSigns P.initOrder.toList = hs ++ rest :=
  ⟨wordsSigns B.toList, by rw [h, String.toList_append, String.toList_append, <- hA]; exact (congrArg wordsSigns (by simp)).trans (Jdl A.toList B.toList)⟩
theorem ZU (rest : List (List Char)) : stripLifts liftWords ("cut".toList :: rest) = ([], "cut".toList :: rest) := by kernel_rfl
theorem Jgs {P : Program} {rest : List (List Char)} (h : behindMainWord (wordsSigns P.initOrder.toList) = "cut".toList :: rest) : P.liftsFinal = false := by
 unfold Program.liftsFinal Program.headLifts; simp only [h, ZU]
 kernel_rfl
theorem Jkb {P : Program} {rest : List (List Char)} (h : behindMainWord (wordsSigns P.initOrder.toList) = "cut".toList :: rest) : P.make = some .cut := by
 unfold Program.make; rw [h]; exact (if_neg (Bool.eq_false_iff.1 (by kernel_rfl))).trans (if_pos (by kernel_rfl))
theorem Ji0 {P : Program} {rest : List (List Char)} (h : behindMainWord (wordsSigns P.initOrder.toList) = "cut".toList :: rest) (h1 : P.laysLater = false) (h2 : P.bearsReflect = false) (h3 : P.doorFits [] = true) : P.mayEnter = true := by
 unfold Program.mayEnter; rw [h]; refine (Bool.or_eq_true _ _).mpr (Or.inr ?_); rw [ZU, h1, h2, h3]
 kernel_rfl
theorem Yy {a b : Bool} (h1 : a = true) (h2 : b = true) : (a && b) = true := by rw [h1, h2]; rfl
end Go.Proofs.Ytgcdbnpenhclfaa
namespace Go.Proofs.Ytgcdbnpenhclfaa
open Go Go.Proofs
/-! ### the head of the seat's list of roots -/
def headA : String := "harness daa96aa9561825de103b4d8ef29f4055170fa06061a84cf07349d419a921bdfc cut"
def tailC : String := "at codewright/codewrightlaw08.DlogOrders codewright/codewrightlaw08.DlogAccepts codewright/codewrightlaw08.DlogSound"
theorem Jdt : Try.checked.prog.initOrder = headA ++ String.singleton (Char.ofNat 32) ++ tailC := by kernel_rfl
theorem Jea : wordsSigns headA.toList = ["harness".toList, "daa96aa9561825de103b4d8ef29f4055170fa06061a84cf07349d419a921bdfc".toList, "cut".toList] := by kernel_rfl
theorem Jcp (rest : List (List Char)) : behindMainWord (["harness".toList, "daa96aa9561825de103b4d8ef29f4055170fa06061a84cf07349d419a921bdfc".toList, "cut".toList] ++ rest) = "cut".toList :: rest := by kernel_rfl
theorem Yv : ∃ rest, behindMainWord (wordsSigns Try.checked.prog.initOrder.toList) = "cut".toList :: rest := by
 obtain ⟨rest, h⟩ := Jh8 Jdt Jea; exact ⟨rest, by rw [h]; exact Jcp rest⟩
theorem Jdu : Try.checked.prog.mayEnter = true := by
 obtain ⟨rest, h⟩ := Yv; exact Ji0 h (by kernel_rfl) (by kernel_rfl) (by kernel_rfl)
theorem Jcb : Try.checked.prog.liftsFinal = false := by
 obtain ⟨rest, h⟩ := Yv; exact Jgs h
theorem Jgc : Try.checked.prog.make = some .cut := by
 obtain ⟨rest, h⟩ := Yv; exact Jkb h
end Go.Proofs.Ytgcdbnpenhclfaa
namespace Go.Proofs.Ytgcdbnpenhclfaa
open Go.RowKit
/-! ### regions that draw their order, where some operations may come late -/
def Ja7 : List Nat -> List (List Nat)
  | [] => [[]]
  | x :: l => Ja7 l ++ (Ja7 l).map (x :: ·)
theorem Zj (p : Nat -> Bool) : ∀ l : List Nat, l.filter p ∈ Ja7 l
 | [] => by simp [Ja7]
 | x :: l => by
  have ih := Zj p l; rw [List.filter_cons]; cases h : p x
  .simp only [Bool.false_eq_true, if_false]; exact List.mem_append_left _ ih
  .simp only [if_true]; exact List.mem_append_right _ (List.mem_map.2 ⟨_, ih, rfl⟩)
def ZH (n : Nat) (l : List Oper) (ps : List Plan) (m : Nat) (fs : List Nat) : Bool :=
  ps.length == m && Nat.ble m l.length && (List.range l.length).all (fun i => (JJ l i).all (fun j => Nat.blt j i)) &&
    (List.range l.length).all (fun i => Nat.blt i m || (List.range m).all (fun j => fs.contains j || (Jcd l 9 (JJ l i)).contains j)) && (List.range m).all fun i =>
    (match ps[i]? with
     | none => false
     | some p => p.on.all (fun j => (JJ l i).contains j) && p.slots.all (fun t => (List.range m).all fun k => k == i || Jz l k != some t || (JJ l k).contains i)) &&
    (match Jz l i with
     | none => false
     | some d => Nat.blt d n && (List.range m).all fun k => k == i || Jz l k != some d)
def Je9 (n : Nat) (l : List Oper) (ps : List Plan) (m : Nat) (fs : List Nat) (o9 : Nat) : Bool :=
  ps.length == m && Nat.ble m l.length && (List.range l.length).all (fun i => (JJ l i).all (fun j => Nat.blt j i)) &&
    (List.range l.length).all (fun i => (Nat.blt i m && i != o9) || (List.range m).all (fun j => fs.contains j || (Jcd l 9 (JJ l i)).contains j)) && (List.range m).all fun i =>
    (match ps[i]? with
     | none => false
     | some p => p.on.all (fun j => (JJ l i).contains j) && p.slots.all (fun t => (List.range m).all fun k => k == i || Jz l k != some t || (JJ l k).contains i)) &&
    (match Jz l i with
     | none => false
     | some d => Nat.blt d n && (List.range m).all fun k => k == i || Jz l k != some d)
def obsH (P : Program) (n : Nat) (ro : Option Nat) (df : List Deferred) (l : List Oper) (al : Nat -> Bool) (cp : Nat -> Option Nat) (ph : Nat -> Value -> Value -> Prop) (V : Nat -> Value -> World -> Prop) (D : Nat -> Value -> World -> Nat -> Prop) (w0 : World) (L : Fr) (o9 : Nat) : Nat -> List Oper -> List Plan -> List Fr -> Prop
  | i, o :: os, p :: ps, b :: bs => (b.map (·.1) = p.slots /\ sub b L /\ (i ≠ o9 -> obA P n ro df l al cp ph V D w0 i o p b)) /\ obsH P n ro df l al cp ph V D w0 L o9 (i + 1) os ps bs
  | _, [], [], [] => True
  | _, _, _, _ => False
theorem Jfm {P : Program} {n : Nat} {ro : Option Nat} {df : List Deferred} {l : List Oper} {al : Nat -> Bool} {cp : Nat -> Option Nat} {ph : Nat -> Value -> Value -> Prop} {V : Nat -> Value -> World -> Prop} {D : Nat -> Value -> World -> Nat -> Prop} {w0 : World} {L : Fr} {o9 : Nat} : ∀ (os : List Oper) (ps : List Plan) (bs : List Fr) (i : Nat),
  obsH P n ro df l al cp ph V D w0 L o9 i os ps bs -> ∀ k o p, os[k]? = some o -> ps[k]? = some p -> ∃ b, b.map (·.1) = p.slots /\ sub b L /\ (i + k ≠ o9 -> obA P n ro df l al cp ph V D w0 (i + k) o p b)
 | [], _, _, _, _, k, _, _, ho, _ => by simp at ho
 | o :: os, [], _, _, h, _, _, _, _, hp => by simp at hp
 | o :: os, p :: ps, [], _, h, _, _, _, _, _ => by exact h.elim
 | o :: os, p :: ps, b :: bs, i, h, 0, _, _, ho, hp => by cases ho; cases hp; exact ⟨b, h.1⟩
 | o :: os, p :: ps, b :: bs, i, h, k + 1, o', p', ho, hp => by
  obtain ⟨b', h'⟩ := Jfm os ps bs (i + 1) h.2 k o' p' (by simpa using ho) (by simpa using hp); exact ⟨b', by rw [show i + (k + 1) = i + 1 + k by omega]; exact h'⟩
theorem Jjl {P : Program} {n id : Nat} {ro : Option Nat} {df : List Deferred} {l : List Oper} {N : JD} {B : JN} {L : Fr} {w0 : World} (m : Nat) (fs : List Nat) (o9 : Nat) (al : Nat -> Bool) (cp : Nat -> Option Nat) (ph : Nat -> Value -> Value -> Prop) (ps : List Plan) (bs : List Fr) (V : Nat -> Value -> World -> Prop) (D : Nat -> Value -> World -> Nat -> Prop)
  (hm : P.follows .mixedOrders = true) (hB : Je9 n l ps m fs o9 = true)
  (hV : ∀ j v w1 w2, V j v w1 -> w1.grownBy w2 none -> V j v w2)
  (hD : ∀ j v w1 w2, V j v w1 -> w1.grownBy w2 none -> ∀ g, D j v w2 g -> D j v w1 g)
  (hcp : (List.range m).all (fun i => match cp i with | none => true | some j => (JJ l i).contains j) = true)
  (hobs : obsH P n ro df l al cp ph V D w0 L o9 0 (l.take m) ps bs)
  (hN2 : ∀ X ∈ Ja7 fs, (o9 < m -> X.contains o9 = true) -> ∀ (vals : Nat -> Value) w', w0.grownBy w' none -> (∀ i, i < m -> X.contains i = false -> V i (vals i) w') -> (∀ j k, j ≠ k -> j < m -> k < m -> X.contains j = false -> X.contains k = false -> al j = true -> al k = true -> ∀ g, D j (vals j) w' g -> ¬ D k (vals k) w' g) -> (∀ i j, i < m -> X.contains i = false -> cp i = some j -> ph i (vals j) (vals i)) -> ∀ q, q = (((List.range l.length).map fun k => Nat.blt k m && !(X.contains k)).filter (!·)).length ->
   WA P n ro df l N q ((List.range l.length).map fun k => Nat.blt k m && !(X.contains k)) ((((List.range m).filterMap fun i => if X.contains i = true then none else (Jz l i).map fun t => (t, vals i))) ++ L) w') : W P n ro df (.region id l.toArray true) N B L w0 := by
 simp only [Je9, Bool.and_eq_true, Bool.or_eq_true, List.all_eq_true, List.mem_range, beq_iff_eq, List.contains_iff_mem] at hB; obtain ⟨⟨⟨⟨hlen, hlm0⟩, hlt0⟩, htail⟩, hB⟩ := hB; have hlm : m <= l.length := by simpa [Nat.ble_eq] using hlm0
 refine ⟨fun a ha => wpIn_mono (Q := Y9 n df N B) (wpIn_region_any hm ?_) QZ⟩; have hon_lt : ∀ k, k < l.length -> ∀ j ∈ JJ l k, j < k := fun k hk j hj => by simpa [Nat.blt_eq] using hlt0 k hk j hj
 have fin0 : ∀ (c : Nat) (listed : Array Bool) (vals : Nat -> Value) (a : Act) (w : World), listed.size = l.length -> (listed.toList.filter (!·)).length = c -> (∀ k, listed.getD k false = true -> k < m /\ k ≠ o9) ->
   DInv n df l ps V (fun _ => True) w0 L (l.length + 1) (fun k => listed.getD k false) vals a w -> Ap al cp ph D (fun k => listed.getD k false) vals w -> (∀ k, k < m -> k ∉ fs -> listed.getD k false = true) -> wpAnyIn (Qh ro) 0 P .any l.toArray (Y9 n df N B) c listed a w := by
  intro c listed vals a w hsz hf hnm I hap hcase; have hXm : ∀ k, k < m -> (fs.filter fun k => !listed.getD k false).contains k = !listed.getD k false := fun k hk => by
   cases hb : listed.getD k false with
   | true =>
    cases hc : (fs.filter fun k => !listed.getD k false).contains k with
    | false => rfl
    | true => rw [List.contains_iff_mem, List.mem_filter, hb] at hc; exact absurd hc.2 (by decide)
   | false =>
    show _ = true; rw [List.contains_iff_mem, List.mem_filter, hb]; refine ⟨Classical.byContradiction fun h => ?_, rfl⟩; have := hcase k hk h; rw [hb] at this; cases this
  have hXs := Zj (fun k => !listed.getD k false) fs; generalize hXe : (fs.filter fun k => !listed.getD k false) = X at hXm hXs; have hX : listed = ((List.range l.length).map fun k => Nat.blt k m && !(X.contains k)).toArray := by
   apply Array.ext
   .simp [hsz]
   .intro k h1 h2; have hk : k < l.length := by omega
    have hv : listed.getD k false = listed[k] := by simp [Array.getD_eq_getD_getElem?, h1]
    rw [<- hv]; simp only [List.getElem_toArray, List.getElem_map, List.getElem_range]; rcases Nat.lt_or_ge k m with h | h
    .rw [hXm k h, Bool.not_not]; have : Nat.blt k m = true := by rw [Nat.blt_eq]; exact h
     rw [this]; rfl
    .have hb : listed.getD k false = false := by
      cases hb : listed.getD k false with
      | false => rfl
      | true => have := hnm k hb; omega
     have : Nat.blt k m = false := by
      cases hc : Nat.blt k m with
      | false => rfl
      | true => rw [Nat.blt_eq] at hc; omega
     rw [hb, this]; rfl
  have hlk : ∀ k, k < m -> X.contains k = false -> listed.getD k false = true := fun k hk h => by
   have := hXm k hk; rw [h] at this; cases hb : listed.getD k false with
   | true => rfl
   | false => rw [hb] at this; cases this
  have hw := I.wd (by simp [Array.getD_eq_getD_getElem?, show ¬ l.length + 1 < listed.size by omega]); have hvs : ∀ j, j < m -> X.contains j = false -> V j (vals j) w := fun j hj hne => I.vs j (hlk j hj hne) (by omega); have hX9 : o9 < m -> X.contains o9 = true := fun ho9 => by
   rw [hXm o9 ho9]; cases hb : listed.getD o9 false with
   | false => rfl
   | true => exact absurd rfl (hnm o9 hb).2
  have hW := hN2 X hXs hX9 vals w hw hvs (fun j k hjk hj hk hjf hkf h1 h2 => hap.ap j k hjk (hlk j hj hjf) (hlk k hk hkf) h1 h2) (fun i j hi hif h => hap.cp_ i j (hlk i hi hif) h) c (by rw [<- @List.toList_toArray _ ((List.range l.length).map fun k => Nat.blt k m && !(X.contains k)), <- hX]; omega); have hHas : Has n df a ((((List.range m).filterMap fun i => if X.contains i = true then none else (Jz l i).map fun t => (t, vals i))) ++ L) := by
   refine ⟨I.nd, I.sz, fun t v hv => ?_⟩; rw [Yd] at hv; cases hc : lk ((List.range m).filterMap fun i => if X.contains i = true then none else (Jz l i).map fun t => (t, vals i)) t with
   | some u =>
    rw [hc] at hv; cases hv; have := Jbh hc; simp only [List.mem_filterMap, List.mem_range] at this; obtain ⟨k, hk, he⟩ := this; cases hkf : X.contains k with
    | true => rw [if_pos hkf] at he; cases he
    | false =>
     rw [if_neg (by rw [hkf]; decide)] at he; simp only [Option.map_eq_some_iff] at he; obtain ⟨t', ht', he⟩ := he; cases he; exact I.new k t (hlk k hk hkf) ht'
   | none =>
    rw [hc] at hv; refine I.old t v hv fun k hk hd => ?_; have hkm := (hnm k hk).1; have hkf : X.contains k = false := by rw [hXm k hkm, hk]; rfl
    have hm2 : (t, vals k) ∈ (List.range m).filterMap fun i => if X.contains i = true then none else (Jz l i).map fun t => (t, vals i) := by
     simp only [List.mem_filterMap, List.mem_range]; exact ⟨k, hkm, by rw [if_neg (by rw [hkf]; decide)]; simp [hd]⟩
    obtain ⟨u, hu⟩ := Jgo hm2; rw [hc] at hu; cases hu
  rw [hX]; exact hW.out a hHas B
 have key : ∀ (fuel : Nat) (listed : Array Bool) (vals : Nat -> Value) (a : Act) (w : World), listed.size = l.length -> (listed.toList.filter (!·)).length = fuel + (l.length - m) -> (∀ k, listed.getD k false = true -> k < m /\ k ≠ o9) ->
   DInv n df l ps V (fun _ => True) w0 L (l.length + 1) (fun k => listed.getD k false) vals a w -> Ap al cp ph D (fun k => listed.getD k false) vals w -> wpAnyIn (Qh ro) 0 P .any l.toArray (Y9 n df N B) (fuel + (l.length - m)) listed a w := by
  intro fuel
  induction fuel with
  | zero =>
   intro listed vals a w hsz hf hnm I hap; have hall : ∀ k, k < m -> listed.getD k false = true := fun k hk => by
    cases hb : listed.getD k false with
    | true => rfl
    | false =>
     exfalso; have hcnt : ∀ (x : List Bool) (m : Nat), m <= x.length -> (∀ j, m <= j -> j < x.length -> x[j]? = some false) -> (x.length - m) + ((x.take m).filter (!·)).length = (x.filter (!·)).length := by
      intro x m hmx hfalse; have h1 : x = x.take m ++ x.drop m := (List.take_append_drop m x).symm; have h2 : (x.drop m).filter (!·) = x.drop m := by
       rw [List.filter_eq_self]; intro b hb; obtain ⟨j, hj, rfl⟩ := List.mem_iff_getElem.1 hb; have := hfalse (m + j) (by omega) (by simp at hj; omega); rw [List.getElem_drop]; rw [List.getElem?_eq_getElem (by simp at hj; omega)] at this
       simpa using this
      conv => rhs; rw [h1]
      rw [List.filter_append, List.length_append, h2, List.length_drop]; omega
     have hx := hcnt listed.toList m (by simp; omega) (fun j h1 h2 => by
      have hj : j < listed.size := by simpa using h2
      cases hbj : listed.getD j false with
      | true => have := hnm j hbj; omega
      | false =>
       simp [Array.getD_eq_getD_getElem?, hj] at hbj; simp [hj, hbj])
     have hsz2 : listed.toList.length = l.length := by simpa using hsz
     have hzero : ((listed.toList.take m).filter (!·)).length = 0 := by omega
     have hz := Jcs hzero k (by simp; omega); rw [List.getElem?_take, if_pos hk] at hz; have hk2 : k < listed.size := by omega
     simp [Array.getD_eq_getD_getElem?, hk2] at hb; simp [hk2, hb] at hz
   exact fin0 _ listed vals a w hsz hf hnm I hap (fun k hk _ => hall k hk)
  | succ fuel ih =>
   intro listed vals a w hsz hf hnm I hap; rw [show fuel + 1 + (l.length - m) = (fuel + (l.length - m)) + 1 by omega] at hf ⊢; have hlist : ∀ k, listed.getD k true = false -> k < l.length /\ listed.getD k false = false := fun k hk => by
    rcases Nat.lt_or_ge k listed.size with h | h
    .simp [Array.getD_eq_getD_getElem?, h] at hk ⊢; exact ⟨by omega, hk⟩
    .simp [Array.getD_eq_getD_getElem?, Array.getElem?_eq_none h] at hk
   by_cases hcase : ∀ k, k < m -> k ∉ fs -> listed.getD k false = true
   .exact fin0 _ listed vals a w hsz hf hnm I hap hcase
   .refine ⟨?_, ?_⟩
    .intro hr
     -- the first that has not come up yet is ready
     exfalso; have hex : ∃ k, k < l.length /\ listed.getD k false = false := by
      by_cases hc : ∃ k, k < l.length /\ listed.getD k false = false
      .exact hc
      .have hfe : listed.toList.filter (!·) = [] := by
        rw [List.filter_eq_nil_iff]; intro b hb; obtain ⟨k, hk, rfl⟩ := List.mem_iff_getElem.1 hb; have hk' : k < listed.size := by simpa using hk
        have : ¬ listed.getD k false = false := fun h => hc ⟨k, by omega, h⟩; simp [Array.getD_eq_getD_getElem?, hk'] at this; simp [this]
       rw [hfe] at hf; simp at hf
     have hmin : ∀ m, (∃ k, k <= m /\ k < l.length /\ listed.getD k false = false) -> ∃ k, k < l.length /\ listed.getD k false = false /\ ∀ j, j < k -> listed.getD j false = true := by
      intro m
      induction m with
      | zero => rintro ⟨k, hk, h1, h2⟩; exact ⟨k, h1, h2, fun j hj => by omega⟩
      | succ m ihm =>
       rintro ⟨k, hk, h1, h2⟩; by_cases hc : ∃ j, j <= m /\ j < l.length /\ listed.getD j false = false
       .exact ihm hc
       .refine ⟨k, h1, h2, fun j hj => ?_⟩; cases hb : listed.getD j false with
        | true => rfl
        | false => exact absurd ⟨j, by omega, by omega, hb⟩ hc
     obtain ⟨k0, hk0, hk0'⟩ := hex; obtain ⟨k, h1, h2, h3⟩ := hmin k0 ⟨k0, Nat.le_refl _, hk0, hk0'⟩; have hin : k ∈ Region.ready .any l.toArray listed := by
      refine mem_ready.2 ⟨?_, l[k], by simp [h1], fun e he hb => ?_⟩
      .have : k < listed.size := by omega
       simp [Array.getD_eq_getD_getElem?, this] at h2 ⊢; exact h2
      .have hon : e.on ∈ JJ l k := by
        simp only [JJ, List.getElem?_eq_getElem h1, List.mem_map, List.mem_filter]; exact ⟨e, ⟨by simpa using he, hb⟩, rfl⟩
       exact h3 e.on (hon_lt k h1 _ hon)
     rw [hr] at hin; cases hin
    .intro i hi; obtain ⟨h1, o, ho, hpre⟩ := mem_ready.1 hi; obtain ⟨hil0, hun⟩ := hlist i h1; have ho' : l[i]? = some o := by simpa using ho
     have hpre' : ∀ j ∈ JJ l i, listed.getD j false = true := fun j hj => by
      simp only [JJ, ho', List.mem_map, List.mem_filter] at hj; obtain ⟨e, ⟨he, hb⟩, rfl⟩ := hj; exact hpre e (by simpa using he) hb
     have hil : i < m /\ i ≠ o9 := by
      by_cases h : i < m /\ i ≠ o9
      .exact h
      .exfalso; refine hcase fun k hk hkf => ?_; rcases htail i hil0 with h2 | h2
       .simp [Nat.blt_eq] at h2; omega
       .rcases h2 k hk with h3 | h3
        .exact absurd h3 hkf
        .exact Jam (p := fun k => listed.getD k false = true) I.cl 9 (JJ l i) hpre' k h3
     have hi9 := hil.2; have hil := hil.1; obtain ⟨hp, hd⟩ := hB i hil; have hpi : i < ps.length := by omega
     rw [List.getElem?_eq_getElem hpi] at hp; generalize hpe : ps[i] = p at hp; simp only [Bool.and_eq_true, List.all_eq_true, Bool.or_eq_true, List.mem_range, beq_iff_eq, bne_iff_ne, ne_eq, List.contains_iff_mem] at hp; obtain ⟨hon, hsl⟩ := hp; obtain ⟨b, hbs, hsub, hob⟩ := Jfm (l.take m) ps bs 0 hobs i o p (by rw [List.getElem?_take, if_pos hil]; exact ho') (by rw [List.getElem?_eq_getElem hpi, hpe]); rw [Nat.zero_add] at hob; have hw0 : p.pure = false -> w0.grownBy w none := fun _ => I.wd (by
      cases hb : listed.getD (l.length + 1) false with
      | false => rfl
      | true => have := I.lt _ hb; omega)
     have hT := Je6 vals p.on b (hob hi9 w hw0) (fun j hj => I.vs j (hpre' j (hon j hj)) (by have := hon_lt i hil0 j (hon j hj); omega)); generalize hF : (List.map (fun j => ((Jz l j).getD 0, vals j)) p.on).reverse ++ b = F at hT; have hdst : ∀ j, j < m -> ∃ d, Jz l j = some d /\ d < n := fun j hj => by
      have := (hB j hj).2; cases hd : Jz l j with
      | none => rw [hd] at this; simp at this
      | some d => rw [hd] at this; simp only [Bool.and_eq_true] at this; exact ⟨d, rfl, by simpa [Nat.blt_eq] using this.1⟩
     have hHF : Has n df a (F ++ (List.range n).map fun t => (t, a.tmps.getD t undef)) := by
      refine ⟨I.nd, I.sz, fun t v hv => ?_⟩; rw [Yd] at hv; cases hc : lk F t with
      | some u =>
       rw [hc] at hv; cases hv; have hm := Jbh hc; rw [<- hF] at hm; rcases List.mem_append.1 hm with hm | hm
       .simp only [List.mem_reverse, List.mem_map] at hm; obtain ⟨j, hj, he⟩ := hm; cases he; obtain ⟨d, hd', _⟩ := hdst j (hnm j (hpre' j (hon j hj))).1; rw [hd']; exact I.new j d (hpre' j (hon j hj)) hd'
       .have hL := sub_at hsub hm; have hts : t ∈ p.slots := by rw [<- hbs]; exact List.mem_map.2 ⟨_, hm, rfl⟩
        refine I.old t v hL fun k hk hdk => ?_; rcases hsl t hts k (hnm k hk).1 with (h | h) | h
        .subst h; rw [hun] at hk; cases hk
        .exact h hdk
        .have := I.cl k hk i h; rw [hun] at this; cases this
      | none =>
       rw [hc] at hv; have hm := Jbh hv; simp only [List.mem_map, List.mem_range] at hm; obtain ⟨t', ht', he⟩ := hm; cases he; have : t < a.tmps.size := by rw [I.sz]; exact ht'
       simp [Array.getD_eq_getD_getElem?, this]
     have hW := (hT ((List.range n).map fun t => (t, a.tmps.getD t undef))).out a hHF (fun _ _ _ _ => False); have fin' : ∀ a' w', wpListIn (Qh ro) 0 P l.toArray (Y9 n df (fun _ L' w' => ∃ u, L' = ((Jz l i).getD 0, u) :: (F ++ (List.range n).map fun t => (t, a.tmps.getD t undef)) /\ (if p.pure then w' = w else w.grownBy w' none) /\ V i u w' /\ (al i = true -> ∀ g, D i u w' g -> w.heap.size <= g /\ g < w'.heap.size) /\ (∀ j, cp i = some j -> ∃ u', lk (F ++ (List.range n).map fun t => (t, a.tmps.getD t undef)) ((Jz l j).getD 0) = some u' /\ ph i u' u)) (fun _ _ _ _ => False)) [] a' w' ->
       wpAnyIn (Qh ro) 0 P .any l.toArray (Y9 n df N B) (fuel + (l.length - m)) (listed.setIfInBounds i true) a' w' := by
      intro a' w' hq; obtain ⟨L', hL', hq⟩ := hq; have hisz : i < listed.size := by omega
      have hset : ∀ k, (listed.setIfInBounds i true).getD k false = true -> k = i ∨ listed.getD k false = true := fun k hk => by
       rw [Jcq _ _ _ hisz] at hk; simp only [Bool.or_eq_true, decide_eq_true_eq] at hk; exact hk.imp Eq.symm (fun h => h)
      have hset' : ∀ k, k = i ∨ listed.getD k false = true -> (listed.setIfInBounds i true).getD k false = true := fun k hk => by
       rw [Jcq _ _ _ hisz]; simp only [Bool.or_eq_true, decide_eq_true_eq]; exact hk.imp Eq.symm (fun h => h)
      have hcount : ((listed.setIfInBounds i true).toList.filter (!·)).length = fuel + (l.length - m) := by
       have hg : listed.toList[i]? = some false := by
        simp [Array.getD_eq_getD_getElem?, hisz] at hun; simp [hisz, hun]
       have := Jee listed.toList i hg; rw [Array.toList_setIfInBounds]; omega
      have hm0' : ∀ k, (listed.setIfInBounds i true).getD k false = true -> k < m /\ k ≠ o9 := fun k hk => by
       rcases hset k hk with rfl | h
       .exact ⟨hil, hi9⟩
       .exact hnm k h
      have hcl : ∀ k, (listed.setIfInBounds i true).getD k false = true -> ∀ j ∈ JJ l k, (listed.setIfInBounds i true).getD j false = true := fun k hk j hj => by
       rcases hset k hk with rfl | h
       .exact hset' j (.inr (hpre' j hj))
       .exact hset' j (.inr (I.cl k h j hj))
      have hlt : ∀ k, (listed.setIfInBounds i true).getD k false = true -> k < l.length := fun k hk => by
       rcases hset k hk with rfl | h
       .exact hil0
       .exact I.lt k h
      have hsome : ∀ t, t < n -> ∃ v, lk (F ++ (List.range n).map fun t => (t, a.tmps.getD t undef)) t = some v := fun t ht => by
       rw [Yd]; cases lk F t with
       | some u => exact ⟨u, rfl⟩
       | none => exact ⟨_, Jkd a n t ht⟩
      obtain ⟨u, rfl, hww, hVu, hfr, hcu⟩ := hq; obtain ⟨d, hdd, hdn⟩ := hdst i hil; rw [hdd] at hL' hd; simp only [Option.getD_some] at hL'; simp only [Bool.and_eq_true, List.all_eq_true, List.mem_range, Bool.or_eq_true, beq_iff_eq, bne_iff_ne, ne_eq] at hd; have hsame' : ∀ t v, t ≠ d -> a.tmps[t]? = some v -> a'.tmps[t]? = some v := fun t v hne hv => by
       have ht : t < n := by have := (Array.getElem?_eq_some_iff.1 hv).1; rw [I.sz] at this; exact this
       obtain ⟨v', hv'⟩ := hsome t ht; have h2 := hHF.at_ t v' hv'; rw [hv] at h2; cases h2; exact hL'.at_ t v (by rw [ZR (Ne.symm hne)]; exact hv')
      have hnew : a'.tmps[d]? = some u := hL'.at_ d u (QL _ _ _); have hgw : w.grownBy w' none := by
       by_cases hp' : p.pure = true
       .rw [if_pos hp'] at hww; subst hww; exact Jf _
       .rw [if_neg hp'] at hww; exact hww
      have hVk : ∀ k, listed.getD k false = true -> k ≠ l.length + 1 -> V k (vals k) w' := fun k h hne => hV k _ w w' (I.vs k h hne) hgw; have hDk : ∀ k, listed.getD k false = true -> ∀ g, D k (vals k) w' g -> D k (vals k) w g := fun k h => hD k _ w w' (I.vs k h (by have := hnm k h; omega)) hgw; refine ih _ (fun k => if k = i then u else vals k) a' w' (by simpa using hsz) hcount hm0' ⟨hL'.nd, hL'.sz, fun t v ht hk => ?_, fun k t hk ht => ?_, fun h => ?_, fun h => trivial, fun k hk hne => ?_, hcl, hlt⟩ ⟨fun k hk ha g hg => ?_, fun j k hjk hj hk ha1 ha2 g hg => ?_, fun x y hx hc => ?_⟩
      .exact hsame' t v (fun e' => hk i (hset' i (.inl rfl)) (by rw [hdd, e'])) (I.old t v ht fun k h => hk k (hset' k (.inr h)))
      .by_cases ek : k = i
       .subst ek; rw [hdd] at ht; cases ht; simpa using hnew
       .rw [if_neg ek]; rcases hset k hk with h | h
        .exact absurd h ek
        .refine hsame' t _ (fun e' => ?_) (I.new k t h ht); rcases hd.2 k (hnm k h).1 with h' | h'
         .exact ek h'
         .exact h' (by rw [ht, e'])
      .refine Za (I.wd ?_) hgw; cases hb : listed.getD (l.length + 1) false with
       | false => rfl
       | true => have := I.lt _ hb; omega
      .by_cases ek : k = i
       .subst ek; simpa using hVu
       .rw [if_neg ek]; rcases hset k hk with h | h
        .exact absurd h ek
        .exact hVk k h hne
      .by_cases ek : k = i
       .subst ek; rw [if_pos rfl] at hg; exact (hfr ha g hg).2
       .rw [if_neg ek] at hg; exact Nat.lt_of_lt_of_le (hap.lt k ((hset k hk).resolve_left ek) ha g (hDk k ((hset k hk).resolve_left ek) g hg)) hgw.size
      .by_cases ej : j = i
       .subst ej; rw [if_pos rfl] at hg; rw [if_neg (Ne.symm hjk)]; have h3 := (hfr ha1 g hg).1; intro h4; have := hap.lt k ((hset k hk).resolve_left (Ne.symm hjk)) ha2 g (hDk k ((hset k hk).resolve_left (Ne.symm hjk)) g h4); omega
       .rw [if_neg ej] at hg; have hj' := (hset j hj).resolve_left ej; by_cases ek : k = i
        .subst ek; rw [if_pos rfl]; intro h4; have h3 := (hfr ha2 g h4).1; have := hap.lt j hj' ha1 g (hDk j hj' g hg); omega
        .rw [if_neg ek]; exact fun h4 => hap.ap j k hjk hj' ((hset k hk).resolve_left ek) ha1 ha2 g (hDk j hj' g hg) (hDk k ((hset k hk).resolve_left ek) g h4)
      .by_cases ex : x = i
       .subst ex; obtain ⟨uy, h1, huy⟩ := hcu y hc; have hym : y ∈ JJ l x := by
         have := List.all_eq_true.1 hcp x (List.mem_range.2 hil); rw [hc] at this
         simpa using this
        have hyd := hpre' y hym; obtain ⟨dy, hdy, _⟩ := hdst y (hnm y hyd).1; rw [hdy] at h1; have h2 := hHF.at_ _ _ h1; have h3 := I.new y dy hyd hdy; simp only [Option.getD_some] at h2; rw [h3] at h2; have hyx : y ≠ x := fun e => by rw [e, hun] at hyd; cases hyd
        rw [if_pos rfl, if_neg hyx]
        first | (rw [Option.some.inj h2] at huy ⊢; exact huy) | (rw [Option.some.inj h2]; exact huy) | (rw [<- Option.some.inj h2]; exact huy)
       .have hx' := (hset x hx).resolve_left ex; have h1 := hap.cp_ x y hx' hc; have hym : y ∈ JJ l x := by
         have := List.all_eq_true.1 hcp x (List.mem_range.2 (hnm x hx').1); rw [hc] at this
         simpa using this
        have hyd := I.cl x hx' y hym; have hyi : y ≠ i := fun e => by rw [e, hun] at hyd; cases hyd
        rw [if_neg ex, if_neg hyi]; exact h1
     unfold wpOpIn; rw [ho]; simp only [wpListIn] at hW; by_cases hwant : Region.wanted o (yielded l.toArray a.tmps) = true
     .rw [if_pos hwant] at hW; simp only [hwant, if_true]; exact (QH fin' (fun e a w hne h => by cases e <;> first | exact absurd rfl hne | (obtain ⟨_, _, _, h⟩ := h; exact h.elim)) hW)
     .rw [if_neg hwant] at hW; simp only [hwant, if_false, Bool.false_eq_true]; exact ⟨fun _ _ => trivial, fin' _ _ hW.2⟩
 have hsz0 : ((Array.replicate l.toArray.size false).toList.filter (!·)).length = m + (l.length - m) := by simp; omega
 have := key m (Array.replicate l.toArray.size false) (fun _ => undef) a { w0 with drawn := w0.drawn + 1 } (by simp) hsz0 (fun k h => by rw [Qk] at h; cases h) {
  nd := ha.nd, sz := ha.sz
  old := fun t v h _ => ha.at_ t v h
  new := fun k t h => by rw [Qk] at h; cases h
  wd := fun _ => ⟨rfl, rfl, rfl, Nat.le_refl _, fun _ _ _ => rfl⟩
  ws := fun h => trivial
  vs := fun k h => by rw [Qk] at h; cases h
  cl := fun k h => by rw [Qk] at h; cases h
  lt := fun k h => by rw [Qk] at h; cases h } (Ap.mk (fun k h => by rw [Qk] at h; cases h) (fun j k _ h => by rw [Qk] at h; cases h) (fun i j h => by rw [Qk] at h; cases h))
 rw [show m + (l.length - m) = l.toArray.size by simp; omega] at this; exact this
theorem Jhz {n m : Nat} {l : List Oper} {ps : List Plan} {fs : List Nat} (h : ZH n l ps m fs = true) : Je9 n l ps m fs m = true := by
 have e : ∀ i, (Nat.blt i m && i != m) = Nat.blt i m := fun i => by
  cases hb : Nat.blt i m with
  | false => rfl
  | true =>
   have h1 : i < m := by rw [Nat.blt_eq] at hb; exact hb
   simp only [Bool.true_and, bne_iff_ne, ne_eq]; omega
 unfold Je9; simp only [e]; exact h
theorem Jfl {P : Program} {n : Nat} {ro : Option Nat} {df : List Deferred} {l : List Oper} {al : Nat -> Bool} {cp : Nat -> Option Nat} {ph : Nat -> Value -> Value -> Prop} {V : Nat -> Value -> World -> Prop} {D : Nat -> Value -> World -> Nat -> Prop} {w0 : World} {L : Fr} {o9 : Nat} : ∀ (os : List Oper) (ps : List Plan) (bs : List Fr) (i : Nat),
  Jgl P n ro df l al cp ph V D w0 L i os ps bs -> obsH P n ro df l al cp ph V D w0 L o9 i os ps bs
 | [], [], [], _, _ => trivial
 | [], _ :: _, _, _, h => h.elim
 | [], [], _ :: _, _, h => h.elim
 | _ :: _, [], _, _, h => h.elim
 | _ :: _, _ :: _, [], _, h => h.elim
 | o :: os, p :: ps, b :: bs, i, h => ⟨⟨h.1.1, h.1.2.1, fun _ => h.1.2.2⟩, Jfl os ps bs (i + 1) h.2⟩
theorem Jdf {P : Program} {n id : Nat} {ro : Option Nat} {df : List Deferred} {l : List Oper} {N : JD} {B : JN} {L : Fr} {w0 : World} (m : Nat) (fs : List Nat) (al : Nat -> Bool) (cp : Nat -> Option Nat) (ph : Nat -> Value -> Value -> Prop) (ps : List Plan) (bs : List Fr) (V : Nat -> Value -> World -> Prop) (D : Nat -> Value -> World -> Nat -> Prop)
  (hm : P.follows .mixedOrders = true) (hB : ZH n l ps m fs = true)
  (hV : ∀ j v w1 w2, V j v w1 -> w1.grownBy w2 none -> V j v w2)
  (hD : ∀ j v w1 w2, V j v w1 -> w1.grownBy w2 none -> ∀ g, D j v w2 g -> D j v w1 g)
  (hcp : (List.range m).all (fun i => match cp i with | none => true | some j => (JJ l i).contains j) = true)
  (hobs : Jgl P n ro df l al cp ph V D w0 L 0 (l.take m) ps bs)
  (hN2 : ∀ X ∈ Ja7 fs, ∀ (vals : Nat -> Value) w', w0.grownBy w' none -> (∀ i, i < m -> X.contains i = false -> V i (vals i) w') -> (∀ j k, j ≠ k -> j < m -> k < m -> X.contains j = false -> X.contains k = false -> al j = true -> al k = true -> ∀ g, D j (vals j) w' g -> ¬ D k (vals k) w' g) -> (∀ i j, i < m -> X.contains i = false -> cp i = some j -> ph i (vals j) (vals i)) -> ∀ q, q = (((List.range l.length).map fun k => Nat.blt k m && !(X.contains k)).filter (!·)).length ->
   WA P n ro df l N q ((List.range l.length).map fun k => Nat.blt k m && !(X.contains k)) ((((List.range m).filterMap fun i => if X.contains i = true then none else (Jz l i).map fun t => (t, vals i))) ++ L) w') : W P n ro df (.region id l.toArray true) N B L w0 :=
 Jjl m fs m al cp ph ps bs V D hm (Jhz hB) hV hD hcp (Jfl _ _ _ _ hobs) (fun X hX _ => hN2 X hX)
end Go.Proofs.Ytgcdbnpenhclfaa
namespace Go.Proofs.Ytgcdbnpenhclfaa
open Go.RowKit
section
variable {b : Nat} {mr : Option Nat} {w w' : World} {R L : List Rw}
theorem Rows.perm {L L' : List Rw} (hp : L.Perm L') : Rows b mr w L -> Rows b mr w L' := by
 induction hp with
 | nil => exact id
 | cons x hp ih => exact fun h => ⟨h.1, fun s hs => h.2.1 s (hp.mem_iff.2 hs), ih h.2.2⟩
 | swap x y l =>
  exact fun h => ⟨h.2.2.1, fun s hs => by
   rcases List.mem_cons.1 hs with rfl | hs
   .exact (h.2.1 _ (List.mem_cons_self ..)).symm
   .exact h.2.2.2.1 s hs, h.1, fun s hs => h.2.1 s (List.mem_cons_of_mem _ hs), h.2.2.2.2⟩
 | trans _ _ ih1 ih2 => exact fun h => ih2 (ih1 h)
theorem Jjs : ∀ {L : List Rw}, Rows b mr w (L ++ R) -> Rows b mr w L /\ (∀ r ∈ L, ∀ s ∈ R, r.Apt s) /\ Rows b mr w R
 | [], h => ⟨trivial, fun _ h => by simp at h, h⟩
 | r :: L, h => by
  obtain ⟨h1, h2, h3⟩ := Jjs (L := L) h.2.2; refine ⟨⟨h.1, fun s hs => h.2.1 s (List.mem_append_left _ hs), h1⟩, fun q hq s hs => ?_, h3⟩; rcases List.mem_cons.1 hq with rfl | hq
  .exact h.2.1 s (List.mem_append_right _ hs)
  .exact h2 q hq s hs
def Rw.isRow : Rw -> Bool
  | .row .. => true
  | _ => false
def grp (L : List Rw) : Rw := .mu (fun g => ∃ r ∈ L, r.at_ g) (fun w => Rows 0 none w L)
theorem Own.block {w w' : World} {b e z m c : Nat} {A : Option Addr} {cs : List Value} (h : Own b w e z A m c cs) (hk : ∀ g, bl A = some g -> w'.heap[g]? = w.heap[g]?) : Own b w' e z A m c cs :=
 ⟨h.1, h.2.imp id fun ⟨g, cap, cur, h1, h2, h3, h4⟩ => ⟨g, cap, cur, h1, h2, (hk g (by cases h1; rfl)).trans h3, h4⟩⟩
theorem Rows.steady : ∀ {L : List Rw}, (∀ r ∈ L, r.isRow = true) -> (∀ g, (∃ r ∈ L, r.at_ g) -> w'.heap[g]? = w.heap[g]?) -> Rows b mr w L -> Rows b mr w' L
 | [], _, _, _ => trivial
 | r :: L, hr, hk, h => by
  refine ⟨?_, h.2.1, Rows.steady (fun q hq => hr q (List.mem_cons_of_mem _ hq)) (fun g ⟨q, hq, hg⟩ => hk g ⟨q, List.mem_cons_of_mem _ hq, hg⟩) h.2.2⟩; have h1 := hr r (List.mem_cons_self ..); have h2 := h.1; cases r with
  | row e z A m c cs => exact ⟨h2.1.block fun g hg => hk g ⟨_, List.mem_cons_self .., hg⟩, h2.2⟩
  | _ => cases h1
theorem Rows.low : ∀ {L : List Rw}, (∀ r ∈ L, r.isRow = true) -> Rows b mr w L -> Rows 0 none w L
 | [], _, _ => trivial
 | r :: L, hr, h => by
  refine ⟨?_, h.2.1, Rows.low (fun q hq => hr q (List.mem_cons_of_mem _ hq)) h.2.2⟩; have h1 := hr r (List.mem_cons_self ..); have h2 := h.1; cases r with
  | row e z A m c cs => exact ⟨h2.1, fun g _ => .inl (Nat.zero_le _)⟩
  | _ => cases h1
end
section
variable {X : World -> Prop} {w0 w w' : World} {mr : Option Nat} {R L : List Rw}
theorem St.perm {L' : List Rw} (h : St X w0 mr w L) (hp : L.Perm L') : St X w0 mr w L' := ⟨h.ext, h.rows.perm hp, h.x, h.cl, h.lt⟩
end
abbrev Hs := Nat -> Option Addr × Nat
def J5 (hs : Hs) (ls : LL) : List Value := ls.mapIdx fun i l => .slice (hs i).1 l.length (hs i).2
def inr (eI : Nat) (hs : Hs) (ls : LL) : List Rw := ls.mapIdx fun i l => .row eI 1 (hs i).1 l.length (hs i).2 (is l)
def mx (eS eI : Nat) (A : Option Addr) (m c : Nat) (hs : Hs) (ls : LL) : Rw := grp (.row eS 1 A m c (J5 hs ls) :: inr eI hs ls)
theorem Jeb (hs : Hs) (ls : LL) : (J5 hs ls).length = ls.length := by simp [J5]
theorem Jfq {α : Type} {ls : List α} {i : Nat} {d : α} (h : i < ls.length) : ls[i]? = some (ls.getD i d) := by
 rw [List.getElem?_eq_getElem h, List.getD_eq_getElem?_getD, List.getElem?_eq_getElem h]; rfl
theorem inr_at (eI : Nat) (hs : Hs) (ls : LL) {i : Nat} (hi : i < ls.length) : (inr eI hs ls)[i]? = some (.row eI 1 (hs i).1 (ls.getD i []).length (hs i).2 (is (ls.getD i []))) := by
 simp only [inr, List.getElem?_mapIdx, Jfq (d := []) hi, Option.map_some]
theorem Jgq (hs : Hs) (ls : LL) {i : Nat} (hi : i < ls.length) : (J5 hs ls)[i]? = some (.slice (hs i).1 (ls.getD i []).length (hs i).2) := by
 simp only [J5, List.getElem?_mapIdx, Jfq (d := []) hi, Option.map_some]
theorem Jff {α : Type} : ∀ {l : List α} {i : Nat} {a : α}, l[i]? = some a -> l.Perm (a :: l.eraseIdx i)
 | [], _, _, h => by simp at h
 | x :: l, 0, a, h => by cases h; exact List.Perm.refl _
 | x :: l, i + 1, a, h => ((Jff (l := l) (i := i) (by simpa using h)).cons x).trans (List.Perm.swap _ _ _)
section
variable {X : World -> Prop} {w0 w w' : World} {mr : Option Nat} {R : List Rw} {eS eI m c : Nat} {A : Option Addr} {hs : Hs} {ls : LL}
theorem St.mxrows {i : Nat} (h : St X w0 mr w R) (hi : R[i]? = some (mx eS eI A m c hs ls)) : Rows 0 none w (.row eS 1 A m c (J5 hs ls) :: inr eI hs ls) := (h.rows.get hi).1
theorem St.mxout {i : Nat} (h : St X w0 mr w R) (hi : R[i]? = some (mx eS eI A m c hs ls)) : Rd w.heap.size w 1 A m c (J5 hs ls) := (h.mxrows hi).1.1.rd
theorem Al.mk {w : World} (eI : Nat) (f : Nat -> Nat) : ∀ (ls : LL) (hs : Hs), Rows 0 none w (inr eI hs ls) -> Al w (J5 hs ls) ls
 | [], _, _ => trivial
 | l :: ls, hs, h => by
  simp only [inr, List.mapIdx_cons] at h; simp only [J5, List.mapIdx_cons]; exact ⟨⟨_, _, _, rfl, h.1.1.rd⟩, Al.mk eI f ls (fun i => hs (i + 1)) h.2.2⟩
theorem St.rl {i : Nat} (h : St X w0 mr w R) (hi : R[i]? = some (mx eS eI A m c hs ls)) : Rl w A m c ls := ⟨_, _, h.mxout hi, Al.mk eI id ls hs (h.mxrows hi).2.2⟩
end
end Go.Proofs.Ytgcdbnpenhclfaa
namespace Go.Proofs.Ytgcdbnpenhclfaa
open Go.RowKit
def apHs (m : Nat) (hs hs' : Hs) : Hs := fun i => if i < m then hs i else hs' (i - m)
section
variable {X : World -> Prop} {w0 w w' : World} {mr : Option Nat} {R : List Rw} {eS eI m c : Nat} {A : Option Addr} {hs : Hs} {ls : LL}
theorem St.at_ {i : Nat} {r : Rw} (h : St X w0 mr w R) (hi : R[i]? = some r) : St X w0 mr w (r :: R.eraseIdx i) := h.perm (Jff hi)
end
section
variable {P : Program} {n : Nat} {ro : Option Nat} {df : List Deferred} {N : JD} {L : Fr} {w w0 : World} {ops : Array Oper} {rest : List Oper}
variable {d : Nat} {ty : TypeId} {pos : String} {af : Array Edge} {X : World -> Prop} {mr : Option Nat} {R : List Rw} {eS eI m c : Nat} {A : Option Addr} {hs : Hs} {ls : LL}
end
end Go.Proofs.Ytgcdbnpenhclfaa
namespace Go.Proofs.Ytgcdbnpenhclfaa
open Go.RowKit
theorem Jau (m n : Nat) (h : m <= n) : (List.range n).map (fun k => Nat.blt k m && !(([] : List Nat).contains k)) = List.replicate m true ++ List.replicate (n - m) false := by
 apply List.ext_getElem
 .simp; omega
 intro k h1 h2; simp only [List.getElem_map, List.getElem_range, List.getElem_append, List.length_replicate, List.getElem_replicate, List.contains_nil, Bool.not_false, Bool.and_true]; split
 .simpa [Nat.blt_eq] using ‹k < m›
 .rw [Bool.eq_false_iff]; intro hh; exact absurd (Nat.blt_eq.mp hh) ‹_›
theorem ZS (m n : Nat) : ((List.replicate m true ++ List.replicate (n - m) false).filter (!·)).length = n - m := by simp
theorem Jk5 {P : Program} {n id : Nat} {ro : Option Nat} {df : List Deferred} {l : List Oper} {N : JD} {B : JN} {L : Fr} {w0 : World} (m : Nat) (al : Nat -> Bool) (cp : Nat -> Option Nat) (ph : Nat -> Value -> Value -> Prop) (ps : List Plan) (bs : List Fr) (V : Nat -> Value -> World -> Prop) (D : Nat -> Value -> World -> Nat -> Prop)
  (hm : P.follows .mixedOrders = true) (hB : Jb6 n l ps m = true)
  (hV : ∀ j v w1 w2, V j v w1 -> w1.grownBy w2 none -> V j v w2)
  (hD : ∀ j v w1 w2, V j v w1 -> w1.grownBy w2 none -> ∀ g, D j v w2 g -> D j v w1 g)
  (hcp : (List.range m).all (fun i => match cp i with | none => true | some j => (JJ l i).contains j) = true)
  (hobs : Jgl P n ro df l al cp ph V D w0 L 0 (l.take m) ps bs)
  (hN : ∀ (vals : Nat -> Value) w', w0.grownBy w' none -> (∀ i, i < m -> V i (vals i) w') -> (∀ j k, j ≠ k -> j < m -> k < m -> al j = true -> al k = true -> ∀ g, D j (vals j) w' g -> ¬ D k (vals k) w' g) -> (∀ i j, i < m -> cp i = some j -> ph i (vals j) (vals i)) ->
   WA P n ro df l N (l.length - m) (List.replicate m true ++ List.replicate (l.length - m) false) ((((List.range m).filterMap fun i => (Jz l i).map fun t => (t, vals i))) ++ L) w') : W P n ro df (.region id l.toArray true) N B L w0 := by
 have hG : ZH n l ps m [] = true := by
  unfold ZH; unfold Jb6 at hB; simp only [List.contains_nil, Bool.false_or]; exact hB
 have hlm : m <= l.length := by simp only [Jb6, Bool.and_eq_true] at hB; simpa [Nat.ble_eq] using hB.1.1.1.2
 refine Jdf m [] al cp ph ps bs V D hm hG hV hD hcp hobs fun X hX vals w' hw h1 h2 h3 q hq => ?_; obtain rfl : X = [] := by simpa [Ja7] using hX
 rw [Jau m l.length hlm] at hq ⊢; rw [ZS] at hq; subst hq; have := hN vals w' hw (fun i hi => h1 i hi rfl) (fun j k hjk hj hk => h2 j k hjk hj hk rfl rfl) (fun i j hi => h3 i j hi rfl)
 simpa using this
end Go.Proofs.Ytgcdbnpenhclfaa
namespace Go.Proofs.Ytgcdbnpenhclfaa
open Go.RowKit
/-! ### regions that draw their order, all of whose values are known -/
theorem Jdb {P : Program} {n : Nat} {ro : Option Nat} {df : List Deferred} {ops : Array Oper} {o : Oper} {N N' : JD} {L : Fr} {w : World} (h : ∀ df L w, N df L w -> N' df L w) (hw : WL P n ro df ops [o] N L w) : WL P n ro df ops [o] N' L w :=
  ⟨fun a ha B => by
    have hW := hw.out a ha B
    have f : ∀ e a w, Y9 n df N B e a w -> Y9 n df N' B e a w := by
      intro e a w hh
      cases e <;> first | exact hh | (obtain ⟨L, h1, h2⟩ := hh; exact ⟨L, h1, h _ _ _ h2⟩)
    simp only [wpListIn] at hW ⊢
    by_cases hwant : Region.wanted o (yielded ops a.tmps) = true
    . rw [if_pos hwant] at hW ⊢
      exact QH (fun a w hh => f _ _ _ hh) (fun e a w _ hh => f _ _ _ hh) hW
    . rw [if_neg hwant] at hW ⊢
      exact ⟨hW.1, f _ _ _ hW.2⟩⟩
def F0 : Nat × Value := (0, .int .i64 0)
def Jal (F : Fr) : List Nat -> Fr -> Fr
  | [], A => A
  | j :: js, A => Jal F js (F.getD j F0 :: A)
def obV (P : Program) (n : Nat) (ro : Option Nat) (df : List Deferred) (l : List Oper) (F : Fr) (w0 : World) (i : Nat) (o : Oper) (p : Plan) (b : Fr) : Prop :=
  ∀ w, (p.pure = false -> w0.grownBy w none) -> ∀ R : Fr, WL P n ro df l.toArray [o] (fun _ L' w' => L' = F.getD i F0 :: (Jal F p.on b ++ R) /\ (if p.pure then w' = w else w.grownBy w' none)) (Jal F p.on b ++ R) w
def obsV (P : Program) (n : Nat) (ro : Option Nat) (df : List Deferred) (l : List Oper) (F : Fr) (w0 : World) (L : Fr) : Nat -> List Oper -> List Plan -> List Fr -> Prop
  | i, o :: os, p :: ps, b :: bs => (b.map (·.1) = p.slots /\ sub b L /\ obV P n ro df l F w0 i o p b) /\ obsV P n ro df l F w0 L (i + 1) os ps bs
  | _, [], [], [] => True
  | _, _, _, _ => False
def eqV (F : Fr) : Nat -> Value -> World -> Prop := fun i v _ => v = (F.getD i F0).2
theorem Je5 {l : List Oper} {F : Fr} {w : World} {K : Fr -> Prop} : ∀ (js : List Nat) (A : Fr), (∀ j ∈ js, (Jz l j).getD 0 = (F.getD j F0).1) -> K (Jal F js A) -> Jga l (eqV F) w K js A
 | [], _, _, h => h
 | j :: js, A, hd, h => by
  intro u hu; have hu : u = (F.getD j F0).2 := hu; have e : ((Jz l j).getD 0, u) = F.getD j F0 := by rw [hd j List.mem_cons_self, hu]
  rw [e]; exact Je5 js _ (fun k hk => hd k (List.mem_cons_of_mem _ hk)) h
theorem Jfn {P : Program} {n : Nat} {ro : Option Nat} {df : List Deferred} {l : List Oper} {F : Fr} {w0 : World} {L : Fr} {m : Nat} (hd : ∀ j, j < m -> (Jz l j).getD 0 = (F.getD j F0).1) : ∀ (os : List Oper) (ps : List Plan) (bs : List Fr) (i : Nat), i + os.length <= m -> (∀ p ∈ ps, ∀ j ∈ p.on, j < m) ->
  obsV P n ro df l F w0 L i os ps bs -> Jgl P n ro df l (fun _ => false) (fun _ => none) (fun _ v u => u = v) (eqV F) (fun _ _ _ _ => False) w0 L i os ps bs
 | [], [], [], _, _, _, _ => trivial
 | [], [], _ :: _, _, _, _, h => h.elim
 | [], _ :: _, _, _, _, _, h => h.elim
 | _ :: _, [], _, _, _, _, h => h.elim
 | _ :: _, _ :: _, [], _, _, _, h => h.elim
 | o :: os, p :: ps, b :: bs, i, hi, hp, h => by
  simp only [List.length_cons] at hi; refine ⟨⟨h.1.1, h.1.2.1, fun w hw => Je5 _ _ (fun j hj => hd j (hp p List.mem_cons_self j hj)) fun R => Jdb (fun df' L' w' ⟨h1, h2⟩ => ?_) (h.1.2.2 w hw R)⟩, Jfn hd os ps bs (i + 1) (by omega) (fun q hq => hp q (List.mem_cons_of_mem _ hq)) h.2⟩; refine ⟨(F.getD i F0).2, ?_, h2, rfl, (fun h => Bool.noConfusion h), (fun j h => by cases h)⟩; rw [h1, hd i (by omega)]
theorem Jcr {l : List Oper} {vals : Nat -> Value} : ∀ (is : List Nat) (F : Fr), is.map (Jz l) = F.map (fun q => some q.1) -> is.map vals = F.map (·.2) -> (is.filterMap fun i => (Jz l i).map fun t => (t, vals i)) = F
 | [], [], _, _ => rfl
 | [], _ :: _, h, _ => by simp at h
 | _ :: _, [], h, _ => by simp at h
 | i :: is, (t, v) :: F, h, h' => by
  simp only [List.map_cons, List.cons.injEq] at h h'; rw [List.filterMap_cons, h.1]; simp only [Option.map_some]; rw [Jcr is F h.2 h'.2, h'.1]
theorem Jk6 {P : Program} {n id : Nat} {ro : Option Nat} {df : List Deferred} {l : List Oper} {N : JD} {B : JN} {L : Fr} {w0 : World} (m : Nat) (ps : List Plan) (bs : List Fr) (F : Fr)
  (hm : P.follows .mixedOrders = true) (hB : (Jb6 n l ps m && ps.all fun p => p.on.all (Nat.blt · m)) = true) (hlen : F.length = m) (hds : (List.range m).map (Jz l) = F.map (fun q => some q.1))
  (hobs : obsV P n ro df l F w0 L 0 (l.take m) ps bs)
  (hN : ∀ w', w0.grownBy w' none -> WA P n ro df l N (l.length - m) (List.replicate m true ++ List.replicate (l.length - m) false) (F ++ L) w') : W P n ro df (.region id l.toArray true) N B L w0 := by
 rw [Bool.and_eq_true] at hB; obtain ⟨hB, hp⟩ := hB; have hd : ∀ j, j < m -> (Jz l j).getD 0 = (F.getD j F0).1 := by
  intro j hj; have h := congrArg (fun x : List (Option Nat) => x[j]?) hds; simp only [List.getElem?_map, List.getElem?_range hj, Option.map_some] at h; rw [List.getElem?_eq_getElem (by omega : j < F.length)] at h; simp only [Option.map_some, Option.some.injEq] at h; rw [List.getD_eq_getElem?_getD, List.getElem?_eq_getElem (by omega : j < F.length), h]; rfl
 refine Jk5 m (fun _ => false) (fun _ => none) (fun _ v u => u = v) ps bs (eqV F) (fun _ _ _ _ => False) hm hB (fun _ _ _ _ h _ => h) (fun _ _ _ _ _ _ _ h => h) (by simp) (Jfn hd _ _ _ _ (by simp [List.length_take]; omega) (fun p hp' j hj => ?_) hobs) ?_
 .have := List.all_eq_true.1 hp p hp'
  simpa [Nat.blt_eq] using List.all_eq_true.1 this j hj
 .intro vals w' hw hV _ _; rw [Jcr (List.range m) F hds ?_]
  .exact hN w' hw
  .refine List.ext_getElem (by simp [hlen]) fun k h1 h2 => ?_; simp only [List.getElem_map, List.getElem_range]; simp only [List.length_map, List.length_range] at h1 h2; rw [show vals k = (F.getD k F0).2 from hV k h1, List.getD_eq_getElem?_getD, List.getElem?_eq_getElem h2]; rfl
end Go.Proofs.Ytgcdbnpenhclfaa
namespace Go.Proofs.Ytgcdbnpenhclfaa
open Go.RowKit
theorem Jjk {P : Program} {n : Nat} {ro : Option Nat} {df : List Deferred} {l : List Oper} {N : JD} {fuel : Nat} {listed : List Bool} {L : Fr} {w : World} {o : Oper} (i : Nat) (hr : Region.ready .any l.toArray listed.toArray = [i]) (ho : l[i]? = some o)
  (h : WL P n ro df l.toArray [o] (fun _ L' w' => WA P n ro df l N fuel (listed.set i true) L' w') L w) : WA P n ro df l N (fuel + 1) listed L w :=
 WA.step [i] hr rfl fun j hj => by simp only [List.mem_cons, List.not_mem_nil, or_false] at hj; subst hj; exact ⟨_, ho, h⟩
theorem JM {P : Program} {n : Nat} {ro : Option Nat} {df : List Deferred} {l : List Oper} {N : JD} {fuel : Nat} {listed : List Bool} {L : Fr} {w : World} {o : Oper} (i : Nat) (ho : l[i]? = some o)
 (h : WL P n ro df l.toArray [o] (fun _ L' w' => WA P n ro df l N fuel (listed.set i true) L' w') L w) (hr : Region.ready .any l.toArray listed.toArray = [i] := by decide +kernel) : WA P n ro df l N (fuel + 1) listed L w := Jjk i hr ho h
theorem WA.s2 {P : Program} {n : Nat} {ro : Option Nat} {df : List Deferred} {l : List Oper} {N : JD} {fuel : Nat} {listed : List Bool} {L : Fr} {w : World} {o p : Oper} (i j : Nat) (ho : l[i]? = some o) (hp : l[j]? = some p)
  (h : WL P n ro df l.toArray [o] (fun _ L' w' => WA P n ro df l N fuel (listed.set i true) L' w') L w) (h2 : WL P n ro df l.toArray [p] (fun _ L' w' => WA P n ro df l N fuel (listed.set j true) L' w') L w) (hr : Region.ready .any l.toArray listed.toArray = [i, j] := by decide +kernel) : WA P n ro df l N (fuel + 1) listed L w :=
 WA.step [i, j] hr rfl fun k hk => by
  simp only [List.mem_cons, List.not_mem_nil, or_false] at hk; rcases hk with rfl | rfl
  .exact ⟨_, ho, h⟩
  .exact ⟨_, hp, h2⟩
theorem Qf {P : Program} {n : Nat} {ro : Option Nat} {df : List Deferred} {l : List Oper} {N : JD} {listed : List Bool} {L : Fr} {w : World} (h : N df L w) (hr : Region.ready .any l.toArray listed.toArray = [] := by decide +kernel) : WA P n ro df l N 0 listed L w := Jkz hr h
structure RlH (w : World) (A : Option Addr) (n k : Nat) (hs : Hs) (ls : LL) : Prop where
  out : ∃ B, Rd B w 1 A n k (J5 hs ls)
  at__ : ∀ i, i < ls.length -> ∃ B, Rd B w 1 (hs i).1 (ls.getD i []).length (hs i).2 (is (ls.getD i []))
theorem Al.heads {w : World} : ∀ {vs : List Value} {ls : LL}, Al w vs ls -> ∃ hs : Hs, vs = J5 hs ls /\ ∀ i, i < ls.length -> ∃ B, Rd B w 1 (hs i).1 (ls.getD i []).length (hs i).2 (is (ls.getD i []))
 | [], [], _ => ⟨fun _ => (none, 0), rfl, fun i hi => absurd hi (Nat.not_lt_zero i)⟩
 | v :: vs, l :: ls, ⟨⟨A, k, B, h1, h2⟩, h3⟩ => by
  obtain ⟨hs, e, h⟩ := Al.heads h3; refine ⟨fun i => match i with | 0 => (A, k) | i + 1 => hs i, ?_, ?_⟩
  .rw [J5, List.mapIdx_cons, h1, e]; rfl
  .intro i hi; cases i with
   | zero => exact ⟨B, h2⟩
   | succ i => exact h i (by simpa using hi)
 | [], _ :: _, h => h.elim
 | _ :: _, [], h => h.elim
theorem Rl.heads {w : World} {A : Option Addr} {n k : Nat} {ls : LL} (h : Rl w A n k ls) : ∃ hs : Hs, RlH w A n k hs ls := by
 obtain ⟨B, cs, h1, h2⟩ := h.ex; obtain ⟨hs, e, h3⟩ := h2.heads; subst e; exact ⟨hs, ⟨B, h1⟩, h3⟩
section
variable {w w' : World} {A : Option Addr} {n k : Nat} {hs : Hs} {ls : LL}
theorem RlH.len (h : RlH w A n k hs ls) : ls.length = n := by
 obtain ⟨B, h1⟩ := h.out; have := h1.len; rw [Jeb] at this; omega
theorem Jjc : ∀ {ls : LL} {hs : Hs}, (∀ i, i < ls.length -> ∃ B, Rd B w 1 (hs i).1 (ls.getD i []).length (hs i).2 (is (ls.getD i []))) -> Al w (J5 hs ls) ls
 | [], _, _ => trivial
 | l :: ls, hs, h => by
  simp only [J5, List.mapIdx_cons]; obtain ⟨B, h0⟩ := h 0 (by simp); exact ⟨⟨_, _, B, rfl, h0⟩, Jjc (ls := ls) (hs := fun i => hs (i + 1)) (fun i hi => h (i + 1) (by simpa using hi))⟩
theorem RlH.rl (h : RlH w A n k hs ls) : Rl w A n k ls := by
 obtain ⟨B, h1⟩ := h.out; exact ⟨B, _, h1, Jjc h.at__⟩
theorem RlH.ext (h : RlH w A n k hs ls) (hg : w.grownBy w' none) : RlH w' A n k hs ls := by
 obtain ⟨B, h1⟩ := h.out; exact ⟨⟨B, h1.ext hg⟩, fun i hi => by obtain ⟨B, h2⟩ := h.at__ i hi; exact ⟨B, h2.ext hg⟩⟩
theorem RlH.cell (h : RlH w A n k hs ls) {I : Int} (hI : 0 <= I /\ I < (n : Nat)) : w.cell? ((JL A).add I.toNat) = some (.slice (hs I.toNat).1 (gl ls I).length (hs I.toNat).2) := by
 have hl := h.len; obtain ⟨B, h1⟩ := h.out; exact h1.at_ (Jgq hs ls (by omega))
theorem RlH.row (h : RlH w A n k hs ls) {I : Int} (hI : 0 <= I /\ I < (n : Nat)) : Rd w.heap.size w 1 (hs I.toNat).1 (gl ls I).length (hs I.toNat).2 (is (gl ls I)) := by
  have hl := h.len
  obtain ⟨B, h1⟩ := h.at__ I.toNat (by omega)
  exact h1.norm
theorem RlH.nil (w : World) : RlH w none 0 0 (fun _ => (none, 0)) [] := ⟨⟨0, Rd.nil (by simp only [maxLen]; omega)⟩, fun i hi => absurd hi (Nat.not_lt_zero i)⟩
end
abbrev Mt := Int × LL
def gm (ms : List Mt) (i : Int) : Mt := ms.getD i.toNat (0, [])
def Am (w : World) : List Value -> List Mt -> Prop
  | [], [] => True
  | u :: v :: vs, (c, l) :: ls => u = .int .i64 c /\ (∃ A k, v = .slice A l.length k /\ Rl w A l.length k l) /\ Am w vs ls
  | _, _ => False
structure Rm (w : World) (A : Option Addr) (n k : Nat) (ms : List Mt) : Prop where
  ex : ∃ B cs, Rd B w 2 A n k cs /\ Am w cs ms
abbrev HM := Nat -> (Option Addr × Nat) × Hs
def QJ (H : HM) (ms : List Mt) : List Value := (ms.mapIdx fun i m => [Value.int .i64 m.1, .slice (H i).1.1 m.2.length (H i).1.2]).flatten
structure RmH (w : World) (A : Option Addr) (n k : Nat) (H : HM) (ms : List Mt) : Prop where
  out : ∃ B, Rd B w 2 A n k (QJ H ms)
  at__ : ∀ i, i < ms.length -> RlH w (H i).1.1 (ms.getD i (0, [])).2.length (H i).1.2 (H i).2 (ms.getD i (0, [])).2
theorem Qj (H : HM) (m : Mt) (ms : List Mt) : QJ H (m :: ms) = .int .i64 m.1 :: .slice (H 0).1.1 m.2.length (H 0).1.2 :: QJ (fun i => H (i + 1)) ms := by
 simp [QJ, List.mapIdx_cons]
theorem ZQ : ∀ (ms : List Mt) (H : HM), (QJ H ms).length = ms.length * 2
 | [], _ => rfl
 | m :: ms, H => by rw [Qj, List.length_cons, List.length_cons, ZQ ms, List.length_cons]; omega
theorem Jat : ∀ (ms : List Mt) (H : HM) (i : Nat), i < ms.length -> (QJ H ms)[i * 2]? = some (.int .i64 (ms.getD i (0, [])).1) /\ (QJ H ms)[i * 2 + 1]? = some (.slice (H i).1.1 (ms.getD i (0, [])).2.length (H i).1.2)
 | [], _, i, h => absurd h (Nat.not_lt_zero i)
 | m :: ms, H, 0, _ => by rw [Qj]; exact ⟨rfl, rfl⟩
 | m :: ms, H, i + 1, h => by
  rw [Qj, show (i + 1) * 2 = i * 2 + 1 + 1 by omega]; exact Jat ms (fun i => H (i + 1)) i (by simpa using h)
theorem Am.heads {w : World} : ∀ {ms : List Mt} {vs : List Value}, Am w vs ms -> ∃ H : HM, vs = QJ H ms /\ ∀ i, i < ms.length -> RlH w (H i).1.1 (ms.getD i (0, [])).2.length (H i).1.2 (H i).2 (ms.getD i (0, [])).2
 | [], [], _ => ⟨fun _ => ((none, 0), fun _ => (none, 0)), rfl, fun i hi => absurd hi (Nat.not_lt_zero i)⟩
 | (c, l) :: ms, u :: v :: vs, ⟨h1, ⟨A, k, h2, h3⟩, h4⟩ => by
  obtain ⟨H, e, h⟩ := Am.heads h4; obtain ⟨hs, h5⟩ := h3.heads; refine ⟨fun i => match i with | 0 => ((A, k), hs) | i + 1 => H i, ?_, ?_⟩
  .rw [Qj, h1, h2, e]
  .intro i hi; cases i with
   | zero => exact h5
   | succ i => exact h i (by simpa using hi)
 | (_, _) :: _, [], h => absurd h (by simp [Am])
 | (_, _) :: _, [_], h => absurd h (by simp [Am])
 | [], _ :: _, h => absurd h (by simp [Am])
theorem Rm.heads {w : World} {A : Option Addr} {n k : Nat} {ms : List Mt} (h : Rm w A n k ms) : ∃ H, RmH w A n k H ms := by
 obtain ⟨B, cs, h1, h2⟩ := h.ex; obtain ⟨H, e, h3⟩ := h2.heads; subst e; exact ⟨H, ⟨B, h1⟩, h3⟩
section
variable {w w' : World} {A : Option Addr} {n k : Nat} {H : HM} {ms : List Mt}
theorem RmH.len (h : RmH w A n k H ms) : ms.length = n := by
 obtain ⟨B, h1⟩ := h.out; have := h1.len; rw [ZQ] at this; omega
theorem RmH.ext (h : RmH w A n k H ms) (hg : w.grownBy w' none) : RmH w' A n k H ms := by
 obtain ⟨B, h1⟩ := h.out; exact ⟨⟨B, h1.ext hg⟩, fun i hi => (h.at__ i hi).ext hg⟩
theorem am_of : ∀ {ms : List Mt} {H : HM}, (∀ i, i < ms.length -> RlH w (H i).1.1 (ms.getD i (0, [])).2.length (H i).1.2 (H i).2 (ms.getD i (0, [])).2) -> Am w (QJ H ms) ms
 | [], _, _ => trivial
 | (c, l) :: ms, H, h => by
  rw [Qj]; exact ⟨rfl, ⟨_, _, rfl, (h 0 (by simp)).rl⟩, am_of (ms := ms) (H := fun i => H (i + 1)) (fun i hi => h (i + 1) (by simpa using hi))⟩
theorem RmH.rm (h : RmH w A n k H ms) : Rm w A n k ms := by
 obtain ⟨B, h1⟩ := h.out; exact ⟨B, _, h1, am_of h.at__⟩
theorem Rm.ext (h : Rm w A n k ms) (hg : w.grownBy w' none) : Rm w' A n k ms := by
 obtain ⟨H, h⟩ := h.heads; exact (h.ext hg).rm
theorem Rm.len (h : Rm w A n k ms) : ms.length = n := by
 obtain ⟨H, h⟩ := h.heads; exact h.len
theorem RmH.row (h : RmH w A n k H ms) {I : Int} (hI : 0 <= I /\ I < (n : Nat)) : RlH w (H I.toNat).1.1 (gm ms I).2.length (H I.toNat).1.2 (H I.toNat).2 (gm ms I).2 := h.at__ _ (by have := h.len; omega)
theorem RmH.cells (h : RmH w A n k H ms) {I : Int} (hI : 0 <= I /\ I < (n : Nat)) : Rd w.heap.size w 2 (some ((JL A).add (I.toNat * 2))) 1 1 [.int .i64 (gm ms I).1, .slice (H I.toNat).1.1 (gm ms I).2.length (H I.toNat).1.2] := by
  have hl := h.len
  obtain ⟨B, h1⟩ := h.out
  obtain ⟨ad, e, h2, h3⟩ := (h1.norm).cells (by omega)
  subst e
  obtain ⟨c1, c2⟩ := Jat ms H I.toNat (by omega)
  refine ⟨rfl, Nat.le_refl _, by simp [maxLen], fun _ => ⟨_, rfl, by rw [JV]; exact h2, fun j u hj => ?_⟩⟩
  rw [YN]
  match j with
  | 0 => cases hj; exact h3 _ _ c1
  | 1 => cases hj; exact h3 _ _ c2
  | j + 2 => simp at hj
end
def vbD : Value -> World -> Nat -> Prop := fun v _ g => vb v = some g
section
variable {w w' : World} {A : Option Addr} {eS eI m c : Nat} {hs : Hs} {ls : LL} {b : Nat} {mr : Option Nat}
end
section
variable {X : World -> Prop} {w0 w w' wS : World} {mr : Option Nat} {R R0 : List Rw} {eS eI m c : Nat} {A : Option Addr} {hs : Hs} {ls : LL}
theorem St.n0 (h : St X w0 mr w ([] ++ R)) : St X w0 mr w R := h
theorem St.n1 {a : Rw} (h : St X w0 mr w ([a] ++ R)) : St X w0 mr w (a :: R) := h
def Tl (R0 R : List Rw) : Prop := ∃ L, R = L ++ R0
theorem Tl.mem (h : Tl R0 R) {r : Rw} (hr : r ∈ R0) : r ∈ R := by obtain ⟨L, rfl⟩ := h; exact List.mem_append_right _ hr
end
section
variable {P : Program} {n : Nat} {ro : Option Nat} {df : List Deferred} {N : JD} {L : Fr} {w w0 : World} {ops : Array Oper} {rest : List Oper}
variable {d : Nat} {ty : TypeId} {pos : String} {af : Array Edge} {X : World -> Prop} {mr : Option Nat} {R : List Rw} {eS eI m c : Nat} {A : Option Addr} {hs : Hs} {ls : LL}
end
theorem Rm.nil (w : World) : Rm w none 0 0 [] := ⟨0, [], Rd.nil (by simp only [maxLen]; omega), trivial⟩
theorem Jib {w : World} {A : Option Addr} {n k : Nat} {ls : LL} (h : Rl w A n k ls) {J : Int} (hJ : 0 <= J /\ J <= (n : Nat)) : J.toNat = (ls.take J.toNat).length := by
 have := h.len; rw [List.length_take]; omega
theorem Al.take {w : World} : ∀ {vs : List Value} {ls : LL} (k : Nat), Al w vs ls -> Al w (vs.take k) (ls.take k)
 | [], [], k, _ => by simp [Al]
 | v :: vs, l :: ls, 0, _ => trivial
 | v :: vs, l :: ls, k + 1, h => ⟨h.1, Al.take k h.2⟩
 | [], _ :: _, _, h => h.elim
 | _ :: _, [], _, h => h.elim
theorem Rl.take {w : World} {A : Option Addr} {n k : Nat} {ls : LL} (h : Rl w A n k ls) {J : Int} (hJ : 0 <= J /\ J <= (n : Nat)) : Rl w A (ls.take J.toNat).length k (ls.take J.toNat) := by
 have hl := Jib h hJ; obtain ⟨B, cs, h1, h2⟩ := h.ex; have h3 := h1.take (k := J.toNat) (by omega); rw [Nat.mul_one] at h3; rw [<- hl]; exact ⟨B, _, h3, h2.take _⟩
theorem Jk9 {P : Program} {n : Nat} {ro : Option Nat} {df : List Deferred} {N : JD} {L : Fr} {w w0 : World} {ops : Array Oper} {rest : List Oper} {d : Nat} {ty : TypeId} {pos : String} {af : Array Edge} {X : World -> Prop} {mr : Option Nat} {R : List Rw}
    {t e : TypeId} {z by_ : Nat} {zero : Value} {k : Nat} {parts : List (Nat × Operand)} {cells : List Value} (hS : St X w0 mr w R) (ht : P.underlying t = some (.slice e)) (he : Elem P e z by_ zero) (hk : Nat.ble (k * z) 1000 = true)
    (hp : ∃ vs, evs L (parts.map (·.2)) = some vs /\ Instr.fill (fun i => some (i * z, z)) ((List.range (k * z)).map (zero.cells[· % zero.cells.size]!)).toArray ((parts.map (·.1)).zip vs) = some cells.toArray) (hl : cells.length = k * z) (hn : Nat.blt d n = true)
    (h : ∀ A w', St X w0 mr w' (.row e z A k k cells :: R) -> WL P n ro df ops rest N ((d, .slice A k k) :: L) w') :
    WL P n ro df ops (⟨some d, .buildSlice t k parts.toArray, ty, pos, af, none⟩ :: rest) N L w := by
  have hk' : k * z <= 1000 := by simpa [Nat.ble_eq] using hk
  have hr : (Array.range (k * z)).map (zero.cells[· % zero.cells.size]!) = ((List.range (k * z)).map (zero.cells[· % zero.cells.size]!)).toArray := by apply Array.ext'; simp
  rw [<- hr] at hp
  refine Jji (b := w.heap.size) ht he (by omega) hp hl (Nat.le_refl _) hn fun A w' hA hO hG => h A w' (hS.push hG ⟨hO.low (Nat.zero_le _), fun g hg => .inl ?_⟩ fun g hg => (hO.bl_ge g hg).1)
  have := (hO.bl_ge g hg).1; have := hS.size; omega
end Go.Proofs.Ytgcdbnpenhclfaa
namespace Go.Proofs.Ytgcdbnpenhclfaa
open Go.RowKit
/-! ### many plain steps as one -/
def opv (L : Fr) : Op -> Option Value
  | .move x => ev L x
  | .assign x => ev L x
  | .pick c x y => match ev L c with
    | some (.bool b) => ev L (bif b then x else y)
    | _ => none
  | .extract x i => match ev L x with
    | some (.tuple vs) => vs[i]?
    | _ => none
  | .unOp .not _ x => match ev L x with
    | some (.bool b) => some (.bool !b)
    | _ => none
  | .binOp .lss _ x y _ => match ev L x, ev L y with
    | some (.int .i64 a), some (.int .i64 b) => some (.bool (decide (a < b)))
    | _, _ => none
  | .binOp .leq _ x y _ => match ev L x, ev L y with
    | some (.int .i64 a), some (.int .i64 b) => some (.bool (decide (a <= b)))
    | _, _ => none
  | .binOp .gtr _ x y _ => match ev L x, ev L y with
    | some (.int .i64 a), some (.int .i64 b) => some (.bool (decide (b < a)))
    | _, _ => none
  | .binOp .geq _ x y _ => match ev L x, ev L y with
    | some (.int .i64 a), some (.int .i64 b) => some (.bool (decide (b <= a)))
    | _, _ => none
  | .binOp .eql _ x y _ => match ev L x, ev L y with
    | some (.int .i64 a), some (.int .i64 b) => some (.bool (decide (a = b)))
    | _, _ => none
  | .binOp .neq _ x y _ => match ev L x, ev L y with
    | some (.int .i64 a), some (.int .i64 b) => some (.bool (decide (a ≠ b)))
    | _, _ => none
  | .nilCheck x => match ev L x with
    | some (.pointer (some p)) => some (.pointer (some p))
    | _ => none
  | _ => none
inductive Stp
  | val (L : Fr)
  | opr (o : Oper)
  | no
def stp (all : Array Oper) (n : Nat) (L : Fr) : Oper -> Stp
  | ⟨some d, op, ty, ps, af, some (j, want)⟩ => match (all[j]?.bind (·.dst)).bind (lk L) with
    | some (.bool b) => bif b == want then .opr ⟨some d, op, ty, ps, af, none⟩ else bif Nat.blt d n then .val ((d, undef) :: L) else .no
    | _ => .no
  | ⟨some d, op, ty, ps, af, none⟩ => match opv L op with
    | some v => bif Nat.blt d n then .val ((d, v) :: L) else .no
    | none => .no
  | _ => .no
inductive Gs
  | C (c : Code)
  | R (all : Array Oper) (rest : List Oper)
section
variable (P : Program) (n : Nat) (ro : Option Nat) (df : List Deferred) (N : JD) (B : JN)
def Ns : List Code -> JD
  | [] => N
  | c :: st => fun df L w => W P n ro df c (Ns st) B L w
def goS (w : World) : Nat -> List Code -> Gs -> Fr -> Prop
  | 0, st, .C c, L => W P n ro df c (Ns P n ro N B st) B L w
  | 0, st, .R all rest, L => WL P n ro df all rest (Ns P n ro N B st) L w
  | k + 1, st, .C (.seq a b), L => goS w k (b :: st) (.C a) L
  | k + 1, st, .C (.region _ ops false), L => goS w k st (.R ops ops.toList) L
  | k + 1, b :: st, .C .skip, L => goS w k st (.C b) L
  | _ + 1, [], .C .skip, L => N df L w
  | _ + 1, [], .R _ [], L => N df L w
  | k + 1, b :: st, .R _ [], L => goS w k st (.C b) L
  | k + 1, st, .R all (o :: rest), L => match stp all n L o with
    | .val L' => goS w k st (.R all rest) L'
    | .opr o' => goS w k st (.R all (o' :: rest)) L
    | .no => False
  | _, _, _, _ => False
end
section
variable {P : Program} {n : Nat} {ro : Option Nat} {df : List Deferred} {N : JD} {B : JN} {L : Fr} {w : World} {all : Array Oper} {rest : List Oper}
theorem Zg {d : Nat} {op : Op} {ty : TypeId} {ps : String} {af : Array Edge} {v : Value} (hv : opv L op = some v) (hn : Nat.blt d n = true) (h : WL P n ro df all rest N ((d, v) :: L) w) :
  WL P n ro df all (⟨some d, op, ty, ps, af, none⟩ :: rest) N L w := by
 unfold opv at hv; split at hv
 .exact Jp hv hn h
 .exact JZ hv hn h
 .split at hv
  .rename_i hc; exact WL.pick hc hv hn h
  .cases hv
 .split at hv
  .rename_i hc; exact Jew hc hv hn h
  .cases hv
 .split at hv
  .rename_i hc; cases hv; exact Z1 hc hn h
  .cases hv
 .split at hv
  .rename_i h1 h2; cases hv; exact QP h1 h2 hn h
  .cases hv
 .split at hv
  .rename_i h1 h2; cases hv; exact Jkx h1 h2 hn h
  .cases hv
 .split at hv
  .rename_i h1 h2; cases hv; exact Jfy h1 h2 hn h
  .cases hv
 .split at hv
  .rename_i h1 h2; cases hv; exact Jbu h1 h2 hn h
  .cases hv
 .split at hv
  .rename_i h1 h2; cases hv; exact Jbv h1 h2 hn h
  .cases hv
 .split at hv
  .rename_i h1 h2; cases hv; exact Zw h1 h2 hn h
  .cases hv
 .split at hv
  .rename_i h1; cases hv; exact JY h1 hn h
  .cases hv
 .cases hv
theorem stp_ok {o : Oper} : (∀ L', stp all n L o = .val L' -> WL P n ro df all rest N L' w -> WL P n ro df all (o :: rest) N L w) /\ (∀ o', stp all n L o = .opr o' -> WL P n ro df all (o' :: rest) N L w -> WL P n ro df all (o :: rest) N L w) := by
 obtain ⟨dst, op, ty, ps, af, g⟩ := o; cases dst with
 | none => exact ⟨fun _ h => by simp [stp] at h, fun _ h => by simp [stp] at h⟩
 | some d =>
  cases g with
  | none =>
   refine ⟨fun L' h hw => ?_, fun o' h => ?_⟩
   .simp only [stp] at h; split at h
    .rename_i v hv
     cases hn : Nat.blt d n <;> rw [hn] at h
     .cases h
     .cases h; exact Zg hv hn hw
    .cases h
   .simp only [stp] at h; split at h
    .cases hn : Nat.blt d n <;> rw [hn] at h <;> cases h
    .cases h
  | some jw =>
   obtain ⟨j, want⟩ := jw; refine ⟨fun L' h hw => ?_, fun o' h hw => ?_⟩
   .simp only [stp] at h; split at h
    .rename_i b hb
     cases hbw : (b == want) <;> rw [hbw] at h
     .cases hn : Nat.blt d n <;> rw [hn] at h
      .cases h
      .cases h; exact Jfw hb hbw hn hw
     .cases h
    .cases h
   .simp only [stp] at h; split at h
    .rename_i b hb
     cases hbw : (b == want) <;> rw [hbw] at h
     .cases hn : Nat.blt d n <;> rw [hn] at h <;> cases h
     .cases h; have e : b = want := by simpa using hbw
      subst e; exact WL.take hb hw
    .cases h
def Gs.prop (P : Program) (n : Nat) (ro : Option Nat) (df : List Deferred) (N : JD) (B : JN) (L : Fr) (w : World) (st : List Code) : Gs -> Prop
  | .C c => W P n ro df c (Ns P n ro N B st) B L w
  | .R all rest => WL P n ro df all rest (Ns P n ro N B st) L w
theorem QY : ∀ (k : Nat) (st : List Code) (s : Gs) (L : Fr), goS P n ro df N B w k st s L -> s.prop P n ro df N B L w st
 | 0, _, .C _, _, h => h
 | 0, _, .R _ _, _, h => h
 | k + 1, st, .C (.seq a b), L, h => Jr (QY k (b :: st) (.C a) L h)
 | k + 1, st, .C (.region i ops false), L, h => by
  have := QY k st (.R ops ops.toList) L h; have := Jv (B := B) (id := i) (l := ops.toList) this; exact this
 | k + 1, b :: st, .C .skip, L, h => Ji (QY k st (.C b) L h)
 | _ + 1, [], .C .skip, L, h => Ji h
 | _ + 1, [], .R _ [], L, h => Ja h
 | k + 1, b :: st, .R _ [], L, h => Ja (QY k st (.C b) L h)
 | k + 1, st, .R all (o :: rest), L, h => by
  have hs := stp_ok (P := P) (ro := ro) (df := df) (N := Ns P n ro N B st) (w := w) (all := all) (n := n) (L := L) (o := o) (rest := rest); unfold goS at h; split at h
  .rename_i L' e; exact hs.1 L' e (QY k st (.R all rest) L' h)
  .rename_i o' e; exact hs.2 o' e (QY k st (.R all (o' :: rest)) L h)
  .exact h.elim
/-- k plain steps. -/
theorem Jb {c : Code} (k : Nat) (h : goS P n ro df N B w k [] (.C c) L) : W P n ro df c N B L w := QY k [] (.C c) L h
theorem Jd (k : Nat) (h : goS P n ro df N (fun _ _ _ _ => False) w k [] (.R all rest) L) : WL P n ro df all rest N L w := QY k [] (.R all rest) L h
end
end Go.Proofs.Ytgcdbnpenhclfaa
namespace Go.Proofs.Ytgcdbnpenhclfaa
open Go.RowKit
structure SInv (n : Nat) (df : List Deferred) (l : List Oper) (F : Fr) (q : Nat -> Option Nat) (T : Nat) (G : Nat -> World -> Prop) (L : Fr) (d : Nat -> Bool) (a : Act) (w : World) : Prop where
  nd : a.defers = df
  sz : a.tmps.size = n
  old : ∀ t v, lk L t = some v -> (∀ k, d k = true -> Jz l k ≠ some t) -> a.tmps[t]? = some v
  new : ∀ k t, d k = true -> Jz l k = some t -> a.tmps[t]? = some (F.getD k F0).2
  st : ∃ s, s <= T /\ G s w /\ ∀ i r, i < l.length -> q i = some r -> (d i = true ↔ r < s)
  cl : ∀ k, d k = true -> ∀ j ∈ JJ l k, d j = true
  lt : ∀ k, d k = true -> k < l.length
end Go.Proofs.Ytgcdbnpenhclfaa
namespace Go.Proofs.Ytgcdbnpenhclfaa
open Go.RowKit
section
variable {P : Program} {n : Nat} {ro : Option Nat} {df : List Deferred} {N : JD} {L : Fr} {w : World} {ops : Array Oper} {rest : List Oper}
variable {d : Nat} {ty : TypeId} {pos : String} {af : Array Edge}
end
end Go.Proofs.Ytgcdbnpenhclfaa
namespace Go.Proofs.Ytgcdbnpenhclfaa
open Go.RowKit
/-! ### regions that draw their order: known values beside values with memory -/
/-- What an operation yields into its slot: a known value, or one that something is known of. -/
inductive Ent
  | k (d : Nat) (v : Value)
  | m (d : Nat) (Pr : Value -> World -> Prop) (h : ∀ v w1 w2, Pr v w1 -> w1.grownBy w2 none -> Pr v w2)
def Ent.d : Ent -> Nat
  | .k d _ => d
  | .m d _ _ => d
def Ent.V : Ent -> Value -> World -> Prop
  | .k _ v => fun u _ => u = v
  | .m _ Pr _ => Pr
def Ent.val : Ent -> Value -> Value
  | .k _ v, _ => v
  | .m _ _ _, u => u
def E0 : Ent := .k 0 (.int .i64 0)
def eV (F : List Ent) : Nat -> Value -> World -> Prop := fun i => (F.getD i E0).V
/-- A row of the call's own, in a value made of it. -/
def eO (w : World) (d e m : Nat) (f : Option Addr -> Nat -> Value) (cs : List Value) : Ent :=
  .m d (fun v wQ => ∃ A k, v = f A k /\ Own 0 wQ e 1 A m k cs /\ ∀ g, bl A = some g -> w.heap.size <= g) fun _ _ _ ⟨A, k, h1, h2, h3⟩ hg => ⟨A, k, h1, h2.ext hg, h3⟩
def eS (w : World) (d e m : Nat) (cs : List Value) : Ent := eO w d e m (fun A k => .slice A m k) cs
def Yo (F : List Ent) (w : World) (K : Fr -> Prop) : List Nat -> Fr -> Prop
  | [], A => K A
  | j :: js, A => match F.getD j E0 with
    | .k d v => Yo F w K js ((d, v) :: A)
    | .m d Pr _ => ∀ u, Pr u w -> Yo F w K js ((d, u) :: A)
def Jad (L : Fr) : List Nat -> Fr
  | [] => []
  | t :: ts => (t, (lk L t).getD (.int .i64 0)) :: Jad L ts
def obY (P : Program) (n : Nat) (ro : Option Nat) (df : List Deferred) (l : List Oper) (al : Nat -> Bool) (cp : Nat -> Option Nat) (ph : Nat -> Value -> Value -> Prop) (F : List Ent) (D : Nat -> Value -> World -> Nat -> Prop) (w0 : World) (i : Nat) (o : Oper) (p : Plan) (base : Fr) : Prop :=
  ∀ w, (p.pure = false -> w0.grownBy w none) -> Yo F w (fun A => ∀ R : Fr, WL P n ro df l.toArray [o]
    (fun _ L' w' => match F.getD i E0 with
      | .k d v => L' = (d, v) :: (A ++ R) /\ (if p.pure then w' = w else w.grownBy w' none)
      | .m d Pr _ => ∃ u, L' = (d, u) :: (A ++ R) /\ (if p.pure then w' = w else w.grownBy w' none) /\ Pr u w' /\ (al i = true -> ∀ g, D i u w' g -> w.heap.size <= g /\ g < w'.heap.size) /\ (∀ j, cp i = some j -> ∃ u', lk (A ++ R) (F.getD j E0).d = some u' /\ ph i u' u)) (A ++ R) w) p.on base
def obsY (P : Program) (n : Nat) (ro : Option Nat) (df : List Deferred) (l : List Oper) (al : Nat -> Bool) (cp : Nat -> Option Nat) (ph : Nat -> Value -> Value -> Prop) (F : List Ent) (D : Nat -> Value -> World -> Nat -> Prop) (w0 : World) (L : Fr) : Nat -> List Oper -> List Plan -> Prop
  | i, o :: os, p :: ps => obY P n ro df l al cp ph F D w0 i o p (Jad L p.slots) /\ obsY P n ro df l al cp ph F D w0 L (i + 1) os ps
  | _, [], [] => True
  | _, _, _ => False
def frY (X : List Nat) (vals : Nat -> Value) : Nat -> List Ent -> Fr
  | _, [] => []
  | i, e :: F => bif X.contains i then frY X vals (i + 1) F else (e.d, e.val (vals i)) :: frY X vals (i + 1) F
def kcB (al : Nat -> Bool) (cp : Nat -> Option Nat) : Nat -> List Ent -> Bool
  | _, [] => true
  | i, .k _ _ :: F => !al i && (cp i).isNone && kcB al cp (i + 1) F
  | i, .m _ _ _ :: F => kcB al cp (i + 1) F
theorem Jd8 {al : Nat -> Bool} {cp : Nat -> Option Nat} : ∀ (F : List Ent) (i k : Nat) {d : Nat} {v : Value}, kcB al cp i F = true -> F[k]? = some (.k d v) -> al (i + k) = false /\ cp (i + k) = none
 | [], _, _, _, _, _, h => by simp at h
 | .k d v :: F, i, 0, _, _, h, e => by
  simp only [kcB, Bool.and_eq_true, Bool.not_eq_true', Option.isNone_iff_eq_none] at h; exact h.1
 | .m d Pr hh :: F, i, 0, _, _, h, e => by simp at e
 | .k d v :: F, i, k + 1, _, _, h, e => by
  simp only [kcB, Bool.and_eq_true] at h; have := Jd8 F (i + 1) k h.2 (by simpa using e); rw [show i + (k + 1) = i + 1 + k by omega]; exact this
 | .m d Pr hh :: F, i, k + 1, _, _, h, e => by
  simp only [kcB] at h; have := Jd8 F (i + 1) k h (by simpa using e); rw [show i + (k + 1) = i + 1 + k by omega]; exact this
theorem Yx (L : Fr) : ∀ ts : List Nat, (Jad L ts).map (·.1) = ts
 | [] => rfl
 | t :: ts => by simp [Jad, Yx L ts]
theorem ZZ (L : Fr) : ∀ ts : List Nat, (ts.all fun t => (lk L t).isSome) = true -> sub (Jad L ts) L
 | [], _ => trivial
 | t :: ts, h => by
  simp only [List.all_cons, Bool.and_eq_true] at h; refine ⟨?_, ZZ L ts h.2⟩; cases e : lk L t with
  | none => rw [e] at h; exact absurd h.1 (by simp)
  | some v => rfl
theorem ZF {l : List Oper} {F : List Ent} {w : World} {K : Fr -> Prop} : ∀ (js : List Nat) (A : Fr), (∀ j ∈ js, (Jz l j).getD 0 = (F.getD j E0).d) -> Yo F w K js A -> Jga l (eV F) w K js A
 | [], _, _, h => h
 | j :: js, A, hd, h => by
  intro u hu; unfold eV at hu; unfold Yo at h; have hd1 := hd j List.mem_cons_self; rw [hd1]; cases e : F.getD j E0 with
  | k d v =>
   rw [e] at hu h; obtain rfl : u = v := hu; exact ZF js _ (fun q hq => hd q (List.mem_cons_of_mem _ hq)) h
  | m d Pr hh =>
   rw [e] at hu h; exact ZF js _ (fun q hq => hd q (List.mem_cons_of_mem _ hq)) (h u hu)
theorem Yu {F : List Ent} {w : World} {K K' : Fr -> Prop} (h : ∀ A, K A -> K' A) : ∀ (js : List Nat) (A : Fr), Yo F w K js A -> Yo F w K' js A
 | [], _, hk => h _ hk
 | j :: js, A, hk => by
  unfold Yo at hk ⊢; cases e : F.getD j E0 with
  | k d v => rw [e] at hk; exact Yu h js _ hk
  | m d Pr hh => rw [e] at hk; exact fun u hu => Yu h js _ (hk u hu)
theorem Jcn {P : Program} {n : Nat} {ro : Option Nat} {df : List Deferred} {l : List Oper} {al : Nat -> Bool} {cp : Nat -> Option Nat} {ph : Nat -> Value -> Value -> Prop} {F : List Ent} {D : Nat -> Value -> World -> Nat -> Prop} {w0 : World} {L : Fr} {m : Nat}
  (hd : ∀ j, j < m -> (Jz l j).getD 0 = (F.getD j E0).d) (hF : F.length = m) (hk : kcB al cp 0 F = true) (hcp : ∀ i j, i < m -> cp i = some j -> j < m) : ∀ (os : List Oper) (ps : List Plan) (i : Nat), i + os.length <= m -> (∀ p ∈ ps, ∀ j ∈ p.on, j < m) -> (∀ p ∈ ps, (p.slots.all fun t => (lk L t).isSome) = true) ->
  obsY P n ro df l al cp ph F D w0 L i os ps -> Jgl P n ro df l al cp ph (eV F) D w0 L i os ps (ps.map fun p => Jad L p.slots)
 | [], [], _, _, _, _, _ => trivial
 | [], _ :: _, _, _, _, _, h => h.elim
 | _ :: _, [], _, _, _, _, h => h.elim
 | o :: os, p :: ps, i, hi, hp, hs, h => by
  simp only [List.length_cons] at hi; refine ⟨⟨Yx _ _, ZZ _ _ (hs p List.mem_cons_self), fun w hw => ZF _ _ (fun j hj => hd j (hp p List.mem_cons_self j hj)) (Yu (fun A hA R => Jdb (fun df' L' w' hh => ?_) (hA R)) _ _ (h.1 w hw))⟩, Jcn hd hF hk hcp os ps (i + 1) (by omega) (fun q hq => hp q (List.mem_cons_of_mem _ hq)) (fun q hq => hs q (List.mem_cons_of_mem _ hq)) h.2⟩; have hgi : F[i]? = some (F.getD i E0) := by
   rw [List.getD_eq_getElem?_getD, List.getElem?_eq_getElem (by omega : i < F.length)]; rfl
  rw [hd i (by omega)]; unfold eV; cases e : F.getD i E0 with
  | k d v =>
   rw [e] at hh hgi; obtain ⟨h1, h2⟩ := Jd8 F 0 i hk hgi; rw [Nat.zero_add] at h1 h2; exact ⟨v, hh.1, hh.2, rfl, (fun h => by rw [h1] at h; cases h), (fun j h => by rw [h2] at h; cases h)⟩
  | m d Pr hm_ =>
   rw [e] at hh; obtain ⟨u, h1, h2, h3, h4, h5⟩ := hh; exact ⟨u, h1, h2, h3, h4, fun j hj => by rw [hd j (hcp i j (by omega) hj)]; exact h5 j hj⟩
theorem Jiv {X : List Nat} {vals : Nat -> Value} {w : World} (f : Nat -> Option Nat) : ∀ (F : List Ent) (i : Nat), (∀ k e, F[k]? = some e -> f (i + k) = some e.d /\ (X.contains (i + k) = false -> e.V (vals (i + k)) w)) ->
  ((List.range' i F.length).filterMap fun i => if X.contains i = true then none else (f i).map fun t => (t, vals i)) = frY X vals i F
 | [], _, _ => rfl
 | e :: F, i, h => by
  have ih := Jiv f F (i + 1) (fun k e' hk => by
   have := h (k + 1) e' (by simpa using hk); rw [show i + 1 + k = i + (k + 1) by omega]; exact this)
  obtain ⟨h1, h2⟩ := h 0 e rfl; rw [Nat.add_zero] at h1 h2; rw [List.length_cons, List.range'_succ, List.filterMap_cons]; unfold frY; cases hc : X.contains i with
  | true => simp only [if_true, cond_true]; exact ih
  | false =>
   have := h2 hc; simp only [Bool.false_eq_true, if_false, cond_false, h1, Option.map_some]; rw [ih]; cases e with
   | k d v => rw [show vals i = v from this]; rfl
   | m d Pr hh => rfl
theorem Jk4 {P : Program} {n id : Nat} {ro : Option Nat} {df : List Deferred} {l : List Oper} {N : JD} {B : JN} {L : Fr} {w0 : World} (m : Nat) (fs : List Nat) (al : Nat -> Bool) (cp : Nat -> Option Nat) (ph : Nat -> Value -> Value -> Prop) (ps : List Plan) (F : List Ent) (D : Nat -> Value -> World -> Nat -> Prop)
  (hm : P.follows .mixedOrders = true) (hB : (ZH n l ps m fs && (List.range m).all (fun i => match cp i with | none => true | some j => Nat.blt j m && (JJ l i).contains j) && ps.all fun p => p.on.all (Nat.blt · m)) = true)
  (hds : (List.range m).map (Jz l) = F.map (fun e => some e.d)) (hk : (kcB al cp 0 F && ps.all fun p => p.slots.all fun t => (lk L t).isSome) = true)
  (hD : ∀ j v w1 w2, eV F j v w1 -> w1.grownBy w2 none -> ∀ g, D j v w2 g -> D j v w1 g)
  (hobs : obsY P n ro df l al cp ph F D w0 L 0 (l.take m) ps)
  (hN2 : ∀ X ∈ Ja7 fs, ∀ (vals : Nat -> Value) w', w0.grownBy w' none -> (∀ i, i < m -> X.contains i = false -> eV F i (vals i) w') -> (∀ j k, j ≠ k -> j < m -> k < m -> X.contains j = false -> X.contains k = false -> al j = true -> al k = true -> ∀ g, D j (vals j) w' g -> ¬ D k (vals k) w' g) -> (∀ i j, i < m -> X.contains i = false -> cp i = some j -> ph i (vals j) (vals i)) -> ∀ q, q = (((List.range l.length).map fun k => Nat.blt k m && !(X.contains k)).filter (!·)).length ->
   WA P n ro df l N q ((List.range l.length).map fun k => Nat.blt k m && !(X.contains k)) (frY X vals 0 F ++ L) w') : W P n ro df (.region id l.toArray true) N B L w0 := by
 simp only [Bool.and_eq_true] at hB hk; obtain ⟨⟨hB, hcp⟩, hp⟩ := hB; have hF : F.length = m := by have := congrArg List.length hds; simpa using this.symm
 have hd1 : ∀ k e, F[k]? = some e -> Jz l k = some e.d := by
  intro k e he; have h := congrArg (fun x : List (Option Nat) => x[k]?) hds; have hk' : k < m := by rw [<- hF]; exact (List.getElem?_eq_some_iff.1 he).1
  simp only [List.getElem?_map, List.getElem?_range hk', Option.map_some, he, Option.some.injEq] at h; exact h
 have hd : ∀ j, j < m -> (Jz l j).getD 0 = (F.getD j E0).d := by
  intro j hj; have e1 : F[j]? = some (F.getD j E0) := by
   rw [List.getD_eq_getElem?_getD, List.getElem?_eq_getElem (by omega : j < F.length)]; rfl
  rw [hd1 j _ e1]; rfl
 have hcp1 : ∀ i j, i < m -> cp i = some j -> j < m /\ (JJ l i).contains j = true := fun i j hi hj => by
  have := List.all_eq_true.1 hcp i (List.mem_range.2 hi); rw [hj] at this; simp only [Bool.and_eq_true] at this; exact ⟨by simpa [Nat.blt_eq] using this.1, this.2⟩
 have hV : ∀ j v w1 w2, eV F j v w1 -> w1.grownBy w2 none -> eV F j v w2 := by
  intro j v w1 w2 h1 hg; unfold eV at h1 ⊢; cases e : F.getD j E0 with
  | k d u => rw [e] at h1; exact h1
  | m d Pr hh => rw [e] at h1; exact hh v w1 w2 h1 hg
 refine Jdf m fs al cp ph ps (ps.map fun p => Jad L p.slots) (eV F) D hm hB hV hD (List.all_eq_true.2 fun i hi => ?_) (Jcn hd hF hk.1 (fun i j hi hj => (hcp1 i j hi hj).1) _ _ _ (by simp [List.length_take]; omega) (fun p hp' j hj => ?_) (fun p hp' => List.all_eq_true.1 hk.2 p hp') hobs) ?_
 .cases hc : cp i with
  | none => rfl
  | some j => exact (hcp1 i j (List.mem_range.1 hi) hc).2
 .have := List.all_eq_true.1 hp p hp'
  simpa [Nat.blt_eq] using List.all_eq_true.1 this j hj
 .intro X hX vals w' hw h1 h2 h3 q hq; have h := hN2 X hX vals w' hw h1 h2 h3 q hq; have e : (List.range m).filterMap (fun i => if X.contains i = true then none else (Jz l i).map fun t => (t, vals i)) = frY X vals 0 F := by
   rw [List.range_eq_range', <- hF]; refine Jiv (w := w') (Jz l) F 0 fun k e he => ?_; rw [Nat.zero_add]; refine ⟨hd1 k e he, fun hc => ?_⟩; have hkm : k < m := by rw [<- hF]; exact (List.getElem?_eq_some_iff.1 he).1
   have := h1 k hkm hc; unfold eV at this; rw [List.getD_eq_getElem?_getD, he] at this; exact this
  rw [e]; exact h
def ovl : List (Nat × Value) -> Nat -> Value -> Value
  | [], _, u => u
  | p :: t, i, u => bif Nat.beq p.1 i then p.2 else ovl t i u
def ovs (vals : Nat -> Value) : List (Nat × Value) -> Prop
  | [] => True
  | p :: t => vals p.1 = p.2 /\ ovs vals t
theorem Jid {vals : Nat -> Value} {i : Nat} : ∀ {ov : List (Nat × Value)}, ovs vals ov -> ovl ov i (vals i) = vals i
 | [], _ => rfl
 | p :: t, h => by
  unfold ovl; cases e : Nat.beq p.1 i with
  | true => simp only [cond_true]; rw [<- h.1, Nat.eq_of_beq_eq_true e]
  | false => simp only [cond_false]; exact Jid h.2
theorem Jf0 {P : Program} {n : Nat} {ro : Option Nat} {df : List Deferred} {l : List Oper} {N : JD} {q : Nat} {li : List Bool} {L : Fr} {w : World} {X : List Nat} {vals : Nat -> Value} {F : List Ent} (ov : List (Nat × Value)) (h : ovs vals ov) (h2 : WA P n ro df l N q li (frY X (fun i => ovl ov i (vals i)) 0 F ++ L) w) : WA P n ro df l N q li (frY X vals 0 F ++ L) w := by
 rwa [show (fun i => ovl ov i (vals i)) = vals from funext fun i => Jid h] at h2
theorem YO {P : Program} {n id : Nat} {ro : Option Nat} {df : List Deferred} {l : List Oper} {N : JD} {B : JN} {L : Fr} {w0 : World} (m : Nat) (al : Nat -> Bool) (cp : Nat -> Option Nat) (ph : Nat -> Value -> Value -> Prop) (ps : List Plan) (F : List Ent) (D : Nat -> Value -> World -> Nat -> Prop)
  (hm : P.follows .mixedOrders = true) (hB : (ZH n l ps m [] && (List.range m).all (fun i => match cp i with | none => true | some j => Nat.blt j m && (JJ l i).contains j) && ps.all fun p => p.on.all (Nat.blt · m)) = true)
  (hds : (List.range m).map (Jz l) = F.map (fun e => some e.d)) (hk : (kcB al cp 0 F && ps.all fun p => p.slots.all fun t => (lk L t).isSome) = true)
  (hD : ∀ j v w1 w2, eV F j v w1 -> w1.grownBy w2 none -> ∀ g, D j v w2 g -> D j v w1 g)
  (hobs : obsY P n ro df l al cp ph F D w0 L 0 (l.take m) ps)
  (hN : ∀ (vals : Nat -> Value) w', w0.grownBy w' none -> (∀ i, i < m -> eV F i (vals i) w') -> (∀ j k, j ≠ k -> j < m -> k < m -> al j = true -> al k = true -> ∀ g, D j (vals j) w' g -> ¬ D k (vals k) w' g) -> (∀ i j, i < m -> cp i = some j -> ph i (vals j) (vals i)) ->
   WA P n ro df l N (l.length - m) (List.replicate m true ++ List.replicate (l.length - m) false) (frY [] vals 0 F ++ L) w') : W P n ro df (.region id l.toArray true) N B L w0 := by
 have hlm : m <= l.length := by
  simp only [Bool.and_eq_true] at hB; have h := hB.1.1; simp only [ZH, Bool.and_eq_true] at h
  simpa [Nat.ble_eq] using h.1.1.1.2
 refine Jk4 m [] al cp ph ps F D hm hB hds hk hD hobs fun X hX vals w' hw h1 h2 h3 q hq => ?_; obtain rfl : X = [] := by simpa [Ja7] using hX
 rw [Jau m l.length hlm] at hq ⊢; rw [ZS] at hq; subst hq; exact hN vals w' hw (fun i hi => h1 i hi rfl) (fun j k hjk hj hk => h2 j k hjk hj hk rfl rfl) (fun i j hi => h3 i j hi rfl)
def obsW (P : Program) (n : Nat) (ro : Option Nat) (df : List Deferred) (l : List Oper) (F : Fr) (w0 : World) (L : Fr) : Nat -> List Oper -> List Plan -> Prop
  | i, o :: os, p :: ps => obV P n ro df l F w0 i o p (Jad L p.slots) /\ obsW P n ro df l F w0 L (i + 1) os ps
  | _, [], [] => True
  | _, _, _ => False
theorem Jfk {P : Program} {n : Nat} {ro : Option Nat} {df : List Deferred} {l : List Oper} {F : Fr} {w0 : World} {L : Fr} : ∀ (os : List Oper) (ps : List Plan) (i : Nat), (∀ p ∈ ps, (p.slots.all fun t => (lk L t).isSome) = true) -> obsW P n ro df l F w0 L i os ps -> obsV P n ro df l F w0 L i os ps (ps.map fun p => Jad L p.slots)
 | [], [], _, _, _ => trivial
 | [], _ :: _, _, _, h => h.elim
 | _ :: _, [], _, _, h => h.elim
 | _ :: os, p :: ps, i, hs, h => ⟨⟨Yx _ _, ZZ _ _ (hs p List.mem_cons_self), h.1⟩, Jfk os ps (i + 1) (fun q hq => hs q (List.mem_cons_of_mem _ hq)) h.2⟩
theorem JH {P : Program} {n id : Nat} {ro : Option Nat} {df : List Deferred} {l : List Oper} {N : JD} {B : JN} {L : Fr} {w0 : World} (m : Nat) (ps : List Plan) (F : Fr)
  (hm : P.follows .mixedOrders = true) (hB : (Jb6 n l ps m && ps.all fun p => p.on.all (Nat.blt · m)) = true) (hds : (List.range m).map (Jz l) = F.map (fun q => some q.1)) (hk : (ps.all fun p => p.slots.all fun t => (lk L t).isSome) = true)
  (hobs : obsW P n ro df l F w0 L 0 (l.take m) ps)
  (hN : ∀ w', w0.grownBy w' none -> WA P n ro df l N (l.length - m) (List.replicate m true ++ List.replicate (l.length - m) false) (F ++ L) w') : W P n ro df (.region id l.toArray true) N B L w0 :=
 Jk6 m ps (ps.map fun p => Jad L p.slots) F hm hB (by have := congrArg List.length hds; simpa using this.symm) hds (Jfk _ _ 0 (fun p hp => List.all_eq_true.1 hk p hp) hobs) hN
end Go.Proofs.Ytgcdbnpenhclfaa
namespace Go.Proofs.Ytgcdbnpenhclfaa
open Go.RowKit
/-! ### shorter words for values and pieces -/
abbrev nI (x : Int) : Value := .int .i64 x
abbrev nA (g : Nat) : Option Addr := some ⟨g, 0, none⟩
abbrev nP (g : Nat) : Value := .pointer (some ⟨g, 0, none⟩)
abbrev nS {α : Type} (A : Option Addr) (x : List α) (k : Nat) : Value := .slice A x.length k
abbrev nR (e : Nat) (A : Option Addr) (x : LI) (k : Nat) : Rw := .row e 1 A x.length k (is x)
abbrev nV (e g : Nat) (v : Value) : Rw := .row e 1 (some ⟨g, 0, none⟩) 1 1 [v]
section
variable {P : Program} {n : Nat} {ro : Option Nat} {df : List Deferred} {N : JD} {L : Fr} {w w0 : World} {ops : Array Oper} {rest : List Oper}
variable {d : Nat} {ty : TypeId} {pos : String} {af : Array Edge} {X : World -> Prop} {mr : Option Nat} {R : List Rw}
/-- A part of a variable of the call's own is loaded. -/
theorem Jl (i j : Nat) {x : Operand} {t e z g : Nat} {D : TypeDesc} {cs : List Value} {v : Value} (hu : P.underlying t = some D) (hS : St X w0 mr w R) (hr : R[i]? = some (.row e z (some ⟨g, 0, none⟩) 1 1 cs)) (hx : ev L x = some (.pointer (some ((⟨g, 0, none⟩ : Addr).add j)))) (hc : cs[j]? = some v)
    (hq : (match D with | .struct _ | .array _ _ => true | _ => false) = false /\ Nat.blt d n = true) (h : WL P n ro df ops rest N ((d, v) :: L) w) : WL P n ro df ops (⟨some d, .load t x, ty, pos, af, none⟩ :: rest) N L w :=
  Jo hu hq.1 hx (JS (hS.own hr) j v hc) hq.2 h
theorem JK (i : Nat) {x : Operand} {t e z z' by_ g : Nat} {zero : Value} {cs : List Value} (he : Elem P t z by_ zero) (hag : Jc9 P t = true) (hS : St X w0 mr w R) (hr : R[i]? = some (.row e z' (some ⟨g, 0, none⟩) 1 1 cs)) (hq : cs.length = z /\ Nat.blt d n = true) (hx : ev L x = some (.pointer (some ⟨g, 0, none⟩)))
  (h : WL P n ro df ops rest N ((d, .agg cs.toArray) :: L) w) : WL P n ro df ops (⟨some d, .load t x, ty, pos, af, none⟩ :: rest) N L w :=
 Z2 he hag hx hq.1 (JS (hS.own hr)) hq.2 h
end
/-! ### plain operations of a pool, by their value -/
def Jds (all : Array Oper) (n : Nat) (L : Fr) : Oper -> Option (Nat × Value)
  | ⟨some d, op, _, _, _, some (j, want)⟩ => match (all[j]?.bind (·.dst)).bind (lk L) with
    | some (.bool b) => bif b == want then (opv L op).bind (fun v => bif Nat.blt d n then some (d, v) else none) else bif Nat.blt d n then some (d, undef) else none
    | some (.tuple ⟨[]⟩) => bif Nat.blt d n then some (d, undef) else none
    | _ => none
  | ⟨some d, op, _, _, _, none⟩ => (opv L op).bind fun v => bif Nat.blt d n then some (d, v) else none
  | _ => none
theorem Jfb {P : Program} {n : Nat} {ro : Option Nat} {df : List Deferred} {N : JD} {L : Fr} {w : World} {all : Array Oper} {o : Oper} {q : Nat × Value} (h : Jds all n L o = some q) (hN : N df (q :: L) w) : WL P n ro df all [o] N L w := by
 obtain ⟨dst, op, ty, ps, af, g⟩ := o; cases dst with
 | none => simp [Jds] at h
 | some d =>
  cases g with
  | none =>
   simp only [Jds] at h; cases hv : opv L op with
   | none => rw [hv] at h; simp at h
   | some v =>
    rw [hv] at h; cases hn : Nat.blt d n <;> simp [hn] at h; subst h; exact Zg hv hn (Ja hN)
  | some jw =>
   obtain ⟨j, want⟩ := jw; simp only [Jds] at h; split at h
   .rename_i b hb
    cases hbw : (b == want) <;> rw [hbw] at h
    .cases hn : Nat.blt d n <;> simp [hn] at h; subst h; exact Jfw hb hbw hn (Ja hN)
    .have e : b = want := by simpa using hbw
     subst e; simp only [cond_true] at h; cases hv : opv L op with
     | none => rw [hv] at h; simp at h
     | some v =>
      rw [hv] at h; cases hn : Nat.blt d n <;> simp [hn] at h; subst h; exact WL.take hb (Zg hv hn (Ja hN))
   .rename_i hb
    cases hn : Nat.blt d n <;> simp [hn] at h; subst h; exact Jjh hb hn (Ja hN)
   .cases h
theorem oA {P : Program} {n : Nat} {ro : Option Nat} {df : List Deferred} {l : List Oper} {F : Fr} {w0 : World} {i : Nat} {o : Oper} {p : Plan} {b : Fr} (h : ∀ R, Jds l.toArray n (Jal F p.on b ++ R) o = some (F.getD i F0)) : obV P n ro df l F w0 i o p b := fun w _ R => Jfb (h R) ⟨rfl, by
 cases p.pure
 .exact Jf _
 .rfl⟩
def ekV : Ent -> Option (Nat × Value)
  | .k d v => some (d, v)
  | _ => none
def tolF (F : List Ent) : List Nat -> Fr -> Option Fr
  | [], A => some A
  | j :: js, A => match F.getD j E0 with
    | .k d v => tolF F js ((d, v) :: A)
    | _ => none
theorem Je7 {F : List Ent} {w : World} {K : Fr -> Prop} : ∀ (js : List Nat) (A B : Fr), tolF F js A = some B -> K B -> Yo F w K js A
 | [], _, _, h, hk => by cases h; exact hk
 | j :: js, A, B, h, hk => by
  unfold tolF at h; unfold Yo; cases e : F.getD j E0 with
  | k d v => rw [e] at h; exact Je7 js _ _ h hk
  | m d Pr hh => rw [e] at h; cases h
/-- the value by the frame that it is Jga -/
def stpB (l : List Oper) (n : Nat) (F : List Ent) (o : Oper) (on : List Nat) (b R : Fr) : Option (Nat × Value) := (tolF F on b).bind fun A => Jds l.toArray n (A ++ R) o
def isK : Option (Nat × Value) -> Bool
  | some _ => true
  | none => false
theorem oB {P : Program} {n : Nat} {ro : Option Nat} {df : List Deferred} {l : List Oper} {al : Nat -> Bool} {cp : Nat -> Option Nat} {ph : Nat -> Value -> Value -> Prop} {F : List Ent} {D : Nat -> Value -> World -> Nat -> Prop} {w0 : World} {i : Nat} {o : Oper} {p : Plan} {b : Fr}
  (h : ∀ R, stpB l n F o p.on b R = ekV (F.getD i E0)) (hk : isK (ekV (F.getD i E0)) = true) : obY P n ro df l al cp ph F D w0 i o p b := fun w _ => by
 cases e : F.getD i E0 with
 | m d Pr hh => rw [e] at hk; cases hk
 | k d v =>
  cases hA : tolF F p.on b with
  | none =>
   have := h []; rw [e] at this; unfold stpB at this; rw [hA] at this; cases this
  | some A =>
   refine Je7 _ _ _ hA fun R => ?_; have := h R; rw [e] at this; unfold stpB at this; rw [hA] at this; exact Jfb this ⟨rfl, by
    cases p.pure
    .exact Jf _
    .rfl⟩
theorem St.fin {w0 w : World} {R : List Rw} {K : List Rw -> Prop} (h : St TT w0 none w R) (hr : R.all (fun r => !r.isRo) = true) (hk : K R) : ∃ Q, w0.grownBy w none /\ Rows w0.heap.size none w Q /\ News w0.heap.size Q /\ K Q := ⟨R, h.ext, h.rows, YY h.rows hr, hk⟩
theorem oT {p : Prop} [Decidable p] (h : decide p = true) : p := of_decide_eq_true h
theorem oF {p : Prop} [Decidable p] (h : decide p = false) : ¬ p := of_decide_eq_false h
theorem oC {P : Program} {n : Nat} {ro : Option Nat} {df : List Deferred} {l : List Oper} {al : Nat -> Bool} {cp : Nat -> Option Nat} {ph : Nat -> Value -> Value -> Prop} {F : List Ent} {D : Nat -> Value -> World -> Nat -> Prop} {w0 : World} {i : Nat} {o : Oper} {p : Plan} {b : Fr}
 (h : ∀ R, stpB l n F o p.on b R = ekV (F.getD i E0) := by exact fun _ => rfl) (hk : isK (ekV (F.getD i E0)) = true := by exact rfl) : obY P n ro df l al cp ph F D w0 i o p b := oB h hk
theorem og {X : World -> Prop} {w0 wa : World} {mr : Option Nat} {R : List Rw} {G : World -> Fr -> Prop} (hS : St X w0 mr wa R) (h : ∀ w B, St X w0 mr w R -> G w B) : ∀ w, (false = false -> wa.grownBy w none) -> ∀ B, G w B := fun w hE B => h w B (hS.grow (hE rfl))
theorem oD {P : Program} {n : Nat} {ro : Option Nat} {df : List Deferred} {l : List Oper} {F : Fr} {w0 : World} {i : Nat} {o : Oper} {p : Plan} {b : Fr} (h : ∀ R, Jds l.toArray n (Jal F p.on b ++ R) o = some (F.getD i F0) := by exact fun _ => rfl) : obV P n ro df l F w0 i o p b := oA h
end Go.Proofs.Ytgcdbnpenhclfaa
namespace Go.Proofs.Ytgcdbnpenhclfaa
open Go.RowKit
/-! ### lists of lists some of whose rows came in -/
/-- The rows by themselves. -/
def RlR (w : World) (hs : Hs) (ls : LL) : Prop := ∀ i, i < ls.length -> ∃ B, Rd B w 1 (hs i).1 (ls.getD i []).length (hs i).2 (is (ls.getD i []))
theorem RlR.ext {w w' : World} {hs : Hs} {ls : LL} (h : RlR w hs ls) (hg : w.grownBy w' none) : RlR w' hs ls := fun i hi => by obtain ⟨B, h2⟩ := h i hi; exact ⟨B, h2.ext hg⟩
theorem RlR.nil (w : World) (hs : Hs) : RlR w hs [] := fun i hi => absurd hi (Nat.not_lt_zero i)
theorem RlR.append {w : World} {hs hs' : Hs} {ls ls' : LL} (h : RlR w hs ls) (h' : RlR w hs' ls') : RlR w (apHs ls.length hs hs') (ls ++ ls') := fun i hi => by
 rw [List.length_append] at hi; rcases Nat.lt_or_ge i ls.length with hl | hl
 .have e1 : (ls ++ ls').getD i [] = ls.getD i [] := by rw [List.getD_eq_getElem?_getD, List.getElem?_append_left hl, <- List.getD_eq_getElem?_getD]
  have e2 : apHs ls.length hs hs' i = hs i := by unfold apHs; rw [if_pos hl]
  rw [e1, e2]; exact h i hl
 .have e1 : (ls ++ ls').getD i [] = ls'.getD (i - ls.length) [] := by rw [List.getD_eq_getElem?_getD, List.getElem?_append_right hl, <- List.getD_eq_getElem?_getD]
  have e2 : apHs ls.length hs hs' i = hs' (i - ls.length) := by unfold apHs; rw [if_neg (by omega)]
  rw [e1, e2]; exact h' _ (by omega)
theorem RlR.rl {w : World} {A : Option Addr} {n k B : Nat} {hs : Hs} {ls : LL} (h : RlR w hs ls) (hA : Rd B w 1 A n k (J5 hs ls)) : Rl w A n k ls := RlH.rl ⟨⟨B, hA⟩, h⟩
theorem RlH.rows {w : World} {A : Option Addr} {n k : Nat} {hs : Hs} {ls : LL} (h : RlH w A n k hs ls) : RlR w hs ls := h.at__
theorem RlR.inr {w : World} {eI : Nat} {hs : Hs} {ls : LL} (h : Rows 0 none w (inr eI hs ls)) : RlR w hs ls := fun i hi => by
 have := (h.get (inr_at eI hs ls hi)).1.rd; exact ⟨_, this⟩
section
variable {P : Program} {n : Nat} {ro : Option Nat} {df : List Deferred} {N : JD} {L : Fr} {w w0 : World} {ops : Array Oper} {rest : List Oper}
variable {d : Nat} {ty : TypeId} {pos : String} {af : Array Edge} {X : World -> Prop} {mr : Option Nat} {R : List Rw} {eI m c : Nat} {A : Option Addr} {hs : Hs} {ls : LL}
end
/-! ### lists of lists of lists -/
abbrev HZ := Nat -> (Option Addr × Nat) × Hs
def zcells (H : HZ) (zs : List LL) : List Value := zs.mapIdx fun i l => .slice (H i).1.1 l.length (H i).1.2
structure Rll (w : World) (A : Option Addr) (n k : Nat) (H : HZ) (zs : List LL) : Prop where
  out : ∃ B, Rd B w 1 A n k (zcells H zs)
  at__ : ∀ i, i < zs.length -> RlH w (H i).1.1 (zs.getD i []).length (H i).1.2 (H i).2 (zs.getD i [])
theorem Rll.ext {w w' : World} {A : Option Addr} {n k : Nat} {H : HZ} {zs : List LL} (h : Rll w A n k H zs) (hg : w.grownBy w' none) : Rll w' A n k H zs := by
 obtain ⟨B, h1⟩ := h.out; exact ⟨⟨B, h1.ext hg⟩, fun i hi => (h.at__ i hi).ext hg⟩
theorem Rll.two {w : World} {A A1 A2 : Option Addr} {B k m1 k1 m2 k2 : Nat} {hs1 hs2 : Hs} {l1 l2 : LL} (hA : Rd B w 1 A 2 k [.slice A1 m1 k1, .slice A2 m2 k2]) (h1 : RlH w A1 m1 k1 hs1 l1) (h2 : RlH w A2 m2 k2 hs2 l2) :
  Rll w A 2 k (fun i => if i = 0 then ((A1, k1), hs1) else ((A2, k2), hs2)) [l1, l2] := by
 obtain rfl := h1.len; obtain rfl := h2.len; refine ⟨⟨B, hA⟩, fun i hi => ?_⟩
 match i, hi with
 | 0, _ => exact h1
 | 1, _ => exact h2
end Go.Proofs.Ytgcdbnpenhclfaa
namespace Go.Proofs.Ytgcdbnpenhclfaa
open Go.RowKit
theorem WA.sub {P : Program} {n : Nat} {ro : Option Nat} {df : List Deferred} {l : List Oper} {N : JD} {q : Nat} {li : List Bool} {L M : Fr} {w : World} (hs : sub M L) (h : WA P n ro df l N q li M w) : WA P n ro df l N q li L w := ⟨fun a ha B => h.out a (ha.sub hs) B⟩
end Go.Proofs.Ytgcdbnpenhclfaa
namespace Go.Proofs.Ytgcdbnpenhclfaa
open Go.RowKit
/-! ### what is behind a place of a list of lists -/
theorem Al.drop {w : World} : ∀ {vs : List Value} {ls : LL} (k : Nat), Al w vs ls -> Al w (vs.drop k) (ls.drop k)
  | [], [], k, _ => by simp [Al]
  | v :: vs, l :: ls, 0, h => h
  | v :: vs, l :: ls, k + 1, h => Al.drop (vs := vs) (ls := ls) k h.2
  | [], _ :: _, _, h => h.elim
  | _ :: _, [], _, h => h.elim
theorem Rl.drop {w : World} {A : Option Addr} {n k : Nat} {ls : LL} (h : Rl w A n k ls) {J : Int} (hJ : 0 <= J /\ J <= (n : Nat)) : Rl w (if k = J.toNat then A else A.map (·.add (J.toNat * 1))) (n - J.toNat) (k - J.toNat) (ls.drop J.toNat) := by
 obtain ⟨B, cs, h1, h2⟩ := h.ex; have h3 := h1.drop (k := J.toNat) (by omega); have e : cs.drop (J.toNat * 1) = cs.drop J.toNat := by rw [Nat.mul_one]
 rw [e] at h3; exact ⟨B, _, h3, h2.drop _⟩
end Go.Proofs.Ytgcdbnpenhclfaa
namespace Go.Proofs.Ytgcdbnpenhclfaa
open Go.RowKit
end Go.Proofs.Ytgcdbnpenhclfaa
namespace Go.Proofs.Ytgcdbnpenhclfaa
open Go.RowKit
end Go.Proofs.Ytgcdbnpenhclfaa
namespace Go.Proofs.Ytgcdbnpenhclfaa
open Go.RowKit
theorem agi {l : LI} {J : Int} (h : 0 <= J /\ J < (l.length : Nat)) : (is l).toArray[J.toNat]? = some (.int .i64 (gi l J)) := by
 have := Jfo (l := l) (j := J.toNat) (by omega); rw [List.getElem?_toArray]; exact this
section
variable {P : Program} {n : Nat} {ro : Option Nat} {df : List Deferred} {N : JD} {L : Fr} {w w0 : World} {ops : Array Oper} {rest : List Oper}
variable {d : Nat} {ty : TypeId} {pos : String} {af : Array Edge} {X : World -> Prop} {mr : Option Nat} {R : List Rw} {eS eI m c : Nat} {A : Option Addr} {hs : Hs} {ls : LL}
theorem Z3 {x i : Operand} {t k : Nat} {l : LI} {J : Int} (hA : Jha P t k = true) (hx : ev L x = some (.agg (is l).toArray)) (hi : ev L i = some (.int .i64 J)) (hl : l.length = k) (hJ : 0 <= J /\ J < (k : Nat)) (hn : Nat.blt d n = true)
  (h : WL P n ro df ops rest N ((d, .int .i64 (gi l J)) :: L) w) : WL P n ro df ops (⟨some d, .index t x i, ty, pos, af, none⟩ :: rest) N L w :=
 Jhh J.toNat hA hx hi (by omega) (by omega) (agi (by omega)) hn h
end
end Go.Proofs.Ytgcdbnpenhclfaa
namespace Go.Proofs.Ytgcdbnpenhclfaa
open Go.RowKit
section
variable {P : Program} {X : World -> Prop} {n : Nat} {ro : Option Nat} {df : List Deferred} {N : JD} {L : Fr} {w w0 : World} {mr : Option Nat} {R : List Rw} {ops : Array Oper} {rest : List Oper}
variable {d : Nat} {ty : TypeId} {pos : String} {af : Array Edge}
/-- Five ints beside one another. -/
structure F5 (P : Program) (t u : TypeId) : Prop where
  ex : ∃ f0 f1 f2 f3 f4, P.fieldsOf t = #[f0, f1, f2, f3, f4] /\ f0.offset = 0 /\ f1.offset = 1 /\ f2.offset = 2 /\ f3.offset = 3 /\ f4.offset = 4 /\ f0.type = u /\ f1.type = u /\ f2.type = u /\ f3.type = u /\ f4.type = u /\ f0.name ≠ "_" /\ f1.name ≠ "_" /\ f2.name ≠ "_" /\ f3.name ≠ "_" /\ f4.name ≠ "_"
  st : P.underlying t = some (.struct (P.fieldsOf t))
  sh : P.stoodInHeld t = false
  gd : P.eqGuardType P.depth t = false
  int : P.underlying u = some (.int .i64)
end
end Go.Proofs.Ytgcdbnpenhclfaa
namespace Go.Proofs.Ytgcdbnpenhclfaa
end Go.Proofs.Ytgcdbnpenhclfaa
namespace Go.Proofs.Ytgcdbnpenhclfaa
/-! ### lists of structs of two ints -/
def prs : List (Int × Int) -> List Value
  | [] => []
  | x :: l => .int .i64 x.1 :: .int .i64 x.2 :: prs l
def gpr (l : List (Int × Int)) (i : Int) : Int × Int := l.getD i.toNat (0, 0)
theorem Jfe : ∀ l : List (Int × Int), (prs l).length = l.length * 2
 | [] => rfl
 | x :: l => by show (prs l).length + 1 + 1 = _; rw [Jfe l, List.length_cons]; omega
theorem ZL : ∀ l o : List (Int × Int), prs l ++ prs o = prs (l ++ o)
 | [], o => rfl
 | x :: l, o => by show _ :: _ :: (prs l ++ prs o) = _; rw [ZL l o]; rfl
theorem Jfd : ∀ l : List (Int × Int), ∀ u ∈ prs l, u.oneCell' = true
 | [], u, h => by cases h
 | x :: l, u, h => by
  rcases List.mem_cons.1 h with rfl | h
  .rfl
  .rcases List.mem_cons.1 h with rfl | h
   .rfl
   .exact Jfd l u h
theorem Jia : ∀ (l : List (Int × Int)) (j : Nat), j < l.length -> (prs l)[j * 2]? = some (.int .i64 (gpr l j).1) /\ (prs l)[j * 2 + 1]? = some (.int .i64 (gpr l j).2)
 | [], j, h => by simp at h
 | x :: l, 0, _ => ⟨rfl, rfl⟩
 | x :: l, j + 1, h => by
  obtain ⟨h1, h2⟩ := Jia l j (by simp at h; omega); rw [show (j + 1) * 2 = j * 2 + 1 + 1 by omega]; exact ⟨h1, h2⟩
theorem Rd.plen {B : Nat} {w : World} {A : Option Addr} {m c : Nat} {l : List (Int × Int)} (h : Rd B w 2 A m c (prs l)) : l.length = m := by
 have := h.len; rw [Jfe] at this; omega
theorem prs_ap {B B' : Nat} {w w' : World} {A A' : Option Addr} {m c m' c' : Nat} {l o : List (Int × Int)} (h : Rd B w 2 A m c (prs l)) (h' : Rd B' w' 2 A' m' c' (prs o)) : m + m' = (l ++ o).length := by
 rw [<- h.plen, <- h'.plen, List.length_append]
section
variable {P : Program} {n : Nat} {ro : Option Nat} {df : List Deferred} {N : JD} {L : Fr} {w : World} {ops : Array Oper} {rest : List Oper}
variable {d : Nat} {ty : TypeId} {pos : String} {af : Array Edge}
/-- the address of an element -/
theorem Jez {x i : Operand} {t e : TypeId} {by_ : Nat} {zero : Value} {A : Option Addr} {m c B : Nat} {l : List (Int × Int)} {k : IntKind} {I : Int} {wR : World}
    (ht : P.underlying t = some (.slice e)) (he : Elem P e 2 by_ zero) (hR : Rd B wR 2 A m c (prs l)) (hx : ev L x = some (.slice A m c)) (hi : ev L i = some (.int k I)) (hI : 0 <= I /\ I < (m : Int)) (hn : Nat.blt d n = true)
    (h : WL P n ro df ops rest N ((d, .pointer (some ((JL A).add (I.toNat * 2)))) :: L) w) : WL P n ro df ops (⟨some d, .indexAddr t x i, ty, pos, af, none⟩ :: rest) N L w :=
  Jdc I.toNat ht he hx hi (tj hI) (ti hI) hR hn h
/-- an element as a variable that is only read -/
theorem prRd {B m c : Nat} {A : Option Addr} {l : List (Int × Int)} {I : Int} (hR : Rd B w 2 A m c (prs l)) (hI : 0 <= I /\ I < (m : Int)) : Rd B w 2 (some ((JL A).add (I.toNat * 2))) 1 1 [.int .i64 (gpr l I).1, .int .i64 (gpr l I).2] := by
  have hm := hR.plen
  obtain ⟨ad, e1, e2, e3⟩ := hR.cells (by omega)
  subst e1
  obtain ⟨h1, h2⟩ := Jia l I.toNat (by omega)
  rw [show (gpr l ((I.toNat : Nat) : Int)) = gpr l I by unfold gpr; rw [Int.toNat_natCast]] at h1 h2
  refine ⟨rfl, Nat.le_refl 1, by simp [maxLen], fun _ => ⟨_, rfl, by rw [JV]; exact e2, fun j u hu => ?_⟩⟩
  match j, hu with
  | 0, hu => cases hu; rw [YN]; exact e3 _ _ h1
  | 1, hu => cases hu; rw [YN]; exact e3 _ _ h2
  | j + 2, hu => simp at hu
end
end Go.Proofs.Ytgcdbnpenhclfaa
namespace Go.Proofs.Ytgcdbnpenhclfaa
open Go.RowKit
theorem Try.mixed : Try.prog.follows .mixedOrders = true := by kernel_rfl
theorem Try.el3 : Elem Try.prog 3 1 8 (.int .i64 0) := .mk' (by kernel_rfl) rfl (by decide)
theorem Try.el4 : Elem Try.prog 4 1 1 (.bool false) := .mk' (by kernel_rfl) rfl (by decide)
theorem Try.el22 : Elem Try.prog 22 1 24 (.slice none 0 0) := .mk' (by kernel_rfl) rfl (by decide)
theorem Try.el71 : Elem Try.prog 71 1 24 (.slice none 0 0) := .mk' (by kernel_rfl) rfl (by decide)
theorem Try.el65 : Elem Try.prog 65 2 16 (.agg #[.int .i64 0, .int .i64 0]) := .mk' (by kernel_rfl) rfl (by decide)
theorem Try.fla65_0 : YH Try.prog 65 0 0 = true := by kernel_rfl
theorem Try.bld65 : bldP Try.prog 65 [(0, 1), (1, 1)] #[.int .i64 0, .int .i64 0] := ⟨by kernel_rfl, _, Try.underlying65, by kernel_rfl⟩
theorem Try.el29 : Elem Try.prog 29 2 32 (.agg #[.int .i64 0, .slice none 0 0]) := .mk' (by kernel_rfl) rfl (by decide)
theorem Try.fla29_0 : YH Try.prog 29 0 0 = true := by kernel_rfl
theorem Try.fla29_1 : YH Try.prog 29 1 1 = true := by kernel_rfl
theorem Try.bld29 : bldP Try.prog 29 [(0, 1), (1, 1)] #[.int .i64 0, .slice none 0 0] := ⟨by kernel_rfl, _, Try.underlying29, by kernel_rfl⟩
theorem Try.el24 : Elem Try.prog 24 3 40 (.agg #[.int .i64 0, .int .i64 0, .slice none 0 0]) := .mk' (by kernel_rfl) rfl (by decide)
theorem Try.agg24 : Jc9 Try.prog 24 = true := by kernel_rfl
theorem Try.agg65 : Jc9 Try.prog 65 = true := by kernel_rfl
theorem Try.agg29 : Jc9 Try.prog 29 = true := by kernel_rfl
theorem Try.fla24_0 : YH Try.prog 24 0 0 = true := by kernel_rfl
theorem Try.fla24_1 : YH Try.prog 24 1 1 = true := by kernel_rfl
theorem Try.fla24_2 : YH Try.prog 24 2 2 = true := by kernel_rfl
theorem Try.fla54_0 : YH Try.prog 54 0 0 = true := by kernel_rfl
theorem Try.fla54_1 : YH Try.prog 54 1 3 = true := by kernel_rfl
theorem Try.fla54_2 : YH Try.prog 54 2 4 = true := by kernel_rfl
theorem Try.fla54_3 : YH Try.prog 54 3 5 = true := by kernel_rfl
theorem Try.fla54_4 : YH Try.prog 54 4 6 = true := by kernel_rfl
theorem Try.bld54 : bldP Try.prog 54 [(0, 3), (3, 1), (4, 1), (5, 1), (6, 1)] #[.int .i64 0, .int .i64 0, .slice none 0 0, .int .i64 0, .slice none 0 0, .slice none 0 0, .slice none 0 0] := ⟨by kernel_rfl, _, Try.underlying54, by kernel_rfl⟩
theorem Try.arr83 : Jha Try.prog 83 3 = true := by kernel_rfl
theorem Try.arr84 : Jha Try.prog 84 8 = true := by kernel_rfl
theorem Try.nm6 : (Try.f6.name == "runtime.NumGoroutine") = false := by kernel_rfl
theorem Try.nm7 : (Try.f7.name == "runtime.NumGoroutine") = false := by kernel_rfl
theorem Try.nm8 : (Try.f8.name == "runtime.NumGoroutine") = false := by kernel_rfl
theorem Try.nm9 : (Try.f9.name == "runtime.NumGoroutine") = false := by kernel_rfl
theorem Try.nm10 : (Try.f10.name == "runtime.NumGoroutine") = false := by kernel_rfl
theorem Try.nm12 : (Try.f12.name == "runtime.NumGoroutine") = false := by kernel_rfl
theorem Try.nm13 : (Try.f13.name == "runtime.NumGoroutine") = false := by kernel_rfl
theorem Try.nm14 : (Try.f14.name == "runtime.NumGoroutine") = false := by kernel_rfl
theorem Try.nm15 : (Try.f15.name == "runtime.NumGoroutine") = false := by kernel_rfl
theorem Try.nm16 : (Try.f16.name == "runtime.NumGoroutine") = false := by kernel_rfl
theorem Try.nm17 : (Try.f17.name == "runtime.NumGoroutine") = false := by kernel_rfl
theorem Try.nm18 : (Try.f18.name == "runtime.NumGoroutine") = false := by kernel_rfl
theorem Try.nm19 : (Try.f19.name == "runtime.NumGoroutine") = false := by kernel_rfl
theorem Try.nm20 : (Try.f20.name == "runtime.NumGoroutine") = false := by kernel_rfl
theorem Try.nm21 : (Try.f21.name == "runtime.NumGoroutine") = false := by kernel_rfl
theorem Try.nm22 : (Try.f22.name == "runtime.NumGoroutine") = false := by kernel_rfl
theorem Try.nm23 : (Try.f23.name == "runtime.NumGoroutine") = false := by kernel_rfl
theorem Try.nm24 : (Try.f24.name == "runtime.NumGoroutine") = false := by kernel_rfl
theorem Try.nm25 : (Try.f25.name == "runtime.NumGoroutine") = false := by kernel_rfl
theorem Try.nm26 : (Try.f26.name == "runtime.NumGoroutine") = false := by kernel_rfl
theorem Try.nm27 : (Try.f27.name == "runtime.NumGoroutine") = false := by kernel_rfl
theorem Try.nm28 : (Try.f28.name == "runtime.NumGoroutine") = false := by kernel_rfl
theorem Try.nm29 : (Try.f29.name == "runtime.NumGoroutine") = false := by kernel_rfl
theorem Try.nm30 : (Try.f30.name == "runtime.NumGoroutine") = false := by kernel_rfl
theorem Try.nm31 : (Try.f31.name == "runtime.NumGoroutine") = false := by kernel_rfl
theorem Try.nm32 : (Try.f32.name == "runtime.NumGoroutine") = false := by kernel_rfl
theorem Try.nm33 : (Try.f33.name == "runtime.NumGoroutine") = false := by kernel_rfl
theorem Try.nm34 : (Try.f34.name == "runtime.NumGoroutine") = false := by kernel_rfl
theorem Try.nm35 : (Try.f35.name == "runtime.NumGoroutine") = false := by kernel_rfl
theorem Try.nm36 : (Try.f36.name == "runtime.NumGoroutine") = false := by kernel_rfl
theorem Try.nm37 : (Try.f37.name == "runtime.NumGoroutine") = false := by kernel_rfl
theorem Try.nm38 : (Try.f38.name == "runtime.NumGoroutine") = false := by kernel_rfl
theorem Try.nm39 : (Try.f39.name == "runtime.NumGoroutine") = false := by kernel_rfl
theorem Try.nm40 : (Try.f40.name == "runtime.NumGoroutine") = false := by kernel_rfl
theorem Try.nm41 : (Try.f41.name == "runtime.NumGoroutine") = false := by kernel_rfl
theorem Try.nm42 : (Try.f42.name == "runtime.NumGoroutine") = false := by kernel_rfl
theorem Try.nm43 : (Try.f43.name == "runtime.NumGoroutine") = false := by kernel_rfl
theorem Try.nm44 : (Try.f44.name == "runtime.NumGoroutine") = false := by kernel_rfl
theorem Try.nm45 : (Try.f45.name == "runtime.NumGoroutine") = false := by kernel_rfl
theorem Try.nm46 : (Try.f46.name == "runtime.NumGoroutine") = false := by kernel_rfl
theorem Try.nm47 : (Try.f47.name == "runtime.NumGoroutine") = false := by kernel_rfl
theorem Try.nm48 : (Try.f48.name == "runtime.NumGoroutine") = false := by kernel_rfl
theorem Try.nm49 : (Try.f49.name == "runtime.NumGoroutine") = false := by kernel_rfl
theorem Try.nm50 : (Try.f50.name == "runtime.NumGoroutine") = false := by kernel_rfl
theorem Try.nm51 : (Try.f51.name == "runtime.NumGoroutine") = false := by kernel_rfl
theorem Try.nm52 : (Try.f52.name == "runtime.NumGoroutine") = false := by kernel_rfl
theorem Try.nm53 : (Try.f53.name == "runtime.NumGoroutine") = false := by kernel_rfl
theorem Try.nm54 : (Try.f54.name == "runtime.NumGoroutine") = false := by kernel_rfl
theorem Try.nm55 : (Try.f55.name == "runtime.NumGoroutine") = false := by kernel_rfl
theorem Try.nm56 : (Try.f56.name == "runtime.NumGoroutine") = false := by kernel_rfl
theorem Try.nm57 : (Try.f57.name == "runtime.NumGoroutine") = false := by kernel_rfl
theorem Try.nm58 : (Try.f58.name == "runtime.NumGoroutine") = false := by kernel_rfl
theorem Try.nm59 : (Try.f59.name == "runtime.NumGoroutine") = false := by kernel_rfl
theorem Try.nm60 : (Try.f60.name == "runtime.NumGoroutine") = false := by kernel_rfl
theorem Try.nm61 : (Try.f61.name == "runtime.NumGoroutine") = false := by kernel_rfl
end Go.Proofs.Ytgcdbnpenhclfaa
namespace Go.Proofs.Ytgcdbnpenhclfaa
open Go.RowKit
/-! ### short names -/
abbrev JE := Try.fla24_0
abbrev JG := Try.fla24_1
abbrev Qa := Try.fla24_2
abbrev Q2 := Try.fla29_0
abbrev Yz := Try.fla29_1
abbrev XA54_0 := Try.fla54_0
abbrev QO := Try.fla54_1
abbrev Jjg := Try.fla54_2
abbrev Ze := Try.fla54_3
abbrev Jjf := Try.fla54_4
abbrev XA65_0 := Try.fla65_0
abbrev XB29 := Try.bld29
abbrev XB54 := Try.bld54
abbrev XB65 := Try.bld65
abbrev Jhe := Try.el22
abbrev J2 := Try.el24
abbrev QN := Try.el29
abbrev XE3 := Try.el3
abbrev XE4 := Try.el4
abbrev Jhd := Try.el65
abbrev XE71 := Try.el71
abbrev XF10 := Try.func10
abbrev XF12 := Try.func12
abbrev XF13 := Try.func13
abbrev XF14 := Try.func14
abbrev XF15 := Try.func15
abbrev XF16 := Try.func16
abbrev XF17 := Try.func17
abbrev XF18 := Try.func18
abbrev XF19 := Try.func19
abbrev XF20 := Try.func20
abbrev XF21 := Try.func21
abbrev XF22 := Try.func22
abbrev XF23 := Try.func23
abbrev XF24 := Try.func24
abbrev XF25 := Try.func25
abbrev Jhc := Try.func26
abbrev XF27 := Try.func27
abbrev XF28 := Try.func28
abbrev XF29 := Try.func29
abbrev XF3 := Try.func3
abbrev XF30 := Try.func30
abbrev XF31 := Try.func31
abbrev XF32 := Try.func32
abbrev XF33 := Try.func33
abbrev XF34 := Try.func34
abbrev XF35 := Try.func35
abbrev XF36 := Try.func36
abbrev XF37 := Try.func37
abbrev XF38 := Try.func38
abbrev XF39 := Try.func39
abbrev XF40 := Try.func40
abbrev XF41 := Try.func41
abbrev XF42 := Try.func42
abbrev XF43 := Try.func43
abbrev XF44 := Try.func44
abbrev XF45 := Try.func45
abbrev XF46 := Try.func46
abbrev XF47 := Try.func47
abbrev XF48 := Try.func48
abbrev XF49 := Try.func49
abbrev XF50 := Try.func50
abbrev XF51 := Try.func51
abbrev XF52 := Try.func52
abbrev XF53 := Try.func53
abbrev XF54 := Try.func54
abbrev XF55 := Try.func55
abbrev XF56 := Try.func56
abbrev XF57 := Try.func57
abbrev XF58 := Try.func58
abbrev XF59 := Try.func59
abbrev XF6 := Try.func6
abbrev XF60 := Try.func60
abbrev XF61 := Try.func61
abbrev XF7 := Try.func7
abbrev XF8 := Try.func8
abbrev XF9 := Try.func9
abbrev J6 := Try.agg24
abbrev Jev := Try.agg29
abbrev XG65 := Try.agg65
abbrev XN10 := Try.nm10
abbrev XN12 := Try.nm12
abbrev XN13 := Try.nm13
abbrev XN14 := Try.nm14
abbrev XN15 := Try.nm15
abbrev XN16 := Try.nm16
abbrev XN17 := Try.nm17
abbrev XN18 := Try.nm18
abbrev XN19 := Try.nm19
abbrev XN20 := Try.nm20
abbrev XN21 := Try.nm21
abbrev XN22 := Try.nm22
abbrev XN23 := Try.nm23
abbrev XN24 := Try.nm24
abbrev XN25 := Try.nm25
abbrev XN26 := Try.nm26
abbrev XN27 := Try.nm27
abbrev XN28 := Try.nm28
abbrev XN29 := Try.nm29
abbrev XN30 := Try.nm30
abbrev XN31 := Try.nm31
abbrev XN32 := Try.nm32
abbrev XN33 := Try.nm33
abbrev XN34 := Try.nm34
abbrev XN35 := Try.nm35
abbrev XN36 := Try.nm36
abbrev XN37 := Try.nm37
abbrev XN38 := Try.nm38
abbrev XN39 := Try.nm39
abbrev XN40 := Try.nm40
abbrev XN41 := Try.nm41
abbrev XN42 := Try.nm42
abbrev XN43 := Try.nm43
abbrev XN44 := Try.nm44
abbrev XN45 := Try.nm45
abbrev XN46 := Try.nm46
abbrev XN47 := Try.nm47
abbrev XN48 := Try.nm48
abbrev XN49 := Try.nm49
abbrev XN50 := Try.nm50
abbrev XN51 := Try.nm51
abbrev XN52 := Try.nm52
abbrev XN53 := Try.nm53
abbrev XN54 := Try.nm54
abbrev XN55 := Try.nm55
abbrev XN56 := Try.nm56
abbrev XN57 := Try.nm57
abbrev XN58 := Try.nm58
abbrev XN59 := Try.nm59
abbrev XN6 := Try.nm6
abbrev XN60 := Try.nm60
abbrev XN61 := Try.nm61
abbrev XN7 := Try.nm7
abbrev XN8 := Try.nm8
abbrev XN9 := Try.nm9
abbrev Jn := Try.underlying22
abbrev Jhb := Try.underlying25
abbrev XU3 := Try.underlying3
abbrev XU4 := Try.underlying4
abbrev XU61 := Try.underlying61
abbrev Jeu := Try.underlying71
end Go.Proofs.Ytgcdbnpenhclfaa
