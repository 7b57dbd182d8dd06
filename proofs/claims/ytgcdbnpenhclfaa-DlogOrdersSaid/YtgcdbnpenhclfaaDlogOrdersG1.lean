/- Contracts of functions of the program, and what they lean on: Core, Ops, Mem, Draw, Entry, En, Fw, St, Vr, Ap, Sc, Rg, Sr, Sl, Draw2, Draw3, Sm, Sn, Draw4. -/
import Derived.WalkKit
import Derived.ControlIn
import Derived.TacticsIn
import Derived.OrdersIn
import Derived.CallsIn
import Derived.Maps.AppendAt
import Derived.Orders
import Derived.Still
import Derived.RangeFuncLeaves
import Derived.RangeFuncNested
import Derived.RangeFuncFrom
import Derived.ProofKit
import Derived.OpenShut
import Derived.ShutString
import Derived.ChangeOld
import Derived.Deep.Slices
import Derived.Deep.Strs
import Derived.SizedLaws
import Derived.Laws.Tables
import Derived.Scope
import Derived.Laws.CopyRow
import Derived.Lib.SliceRun
namespace Go.Proofs.Ytgcdbnpenhclfaa
abbrev LI := List Int
abbrev LL := List (List Int)
open Go.RowKit

abbrev Fr := List (Nat × Value)
/-- What a frame is known to hold at a slot. -/
def lk : Fr -> Nat -> Option Value
  | [], _ => none
  | (k, v) :: l, t => bif Nat.beq k t then some v else lk l t
structure Has (n : Nat) (df : List Deferred) (a : Act) (L : Fr) : Prop where
  nd : a.defers = df
  sz : a.tmps.size = n
  at_ : ∀ t v, lk L t = some v -> a.tmps[t]? = some v
theorem Jja {k t : Nat} (h : k ≠ t) : Nat.beq k t = false := by
 cases hb : Nat.beq k t
 .rfl
 .exact absurd (Nat.eq_of_beq_eq_true hb) h
theorem Ji9 (k : Nat) : Nat.beq k k = true := Nat.beq_refl k
theorem QL (k : Nat) (v : Value) (L : Fr) : lk ((k, v) :: L) k = some v := by simp [lk]
theorem ZR {k t : Nat} (h : k ≠ t) (v : Value) (L : Fr) : lk ((k, v) :: L) t = lk L t := by
 simp [lk, Jja h]
theorem Has.put {n : Nat} {df : List Deferred} {a : Act} {L : Fr} (h : Has n df a L) {d : Nat} (hd : d < n) (v : Value) : Has n df (a.put (some d) v) ((d, v) :: L) := by
 refine ⟨h.nd, by simp [Act.put, h.sz], fun t u hu => ?_⟩; by_cases e : d = t
 .subst e; rw [QL] at hu; have hs : d < a.tmps.size := by rw [h.sz]; exact hd
  simpa [Act.put, hs] using hu
 .rw [ZR e] at hu; simp [Act.put, e, h.at_ _ _ hu]
def ev (L : Fr) : Operand -> Option Value
  | .tmp t => lk L t
  | .const v => some v
  | .global g => some (.pointer (some ⟨g, 0, none⟩))
  | .func f => some (.func (.func f) #[] #[])
theorem Has.ev {n : Nat} {df : List Deferred} {a : Act} {L : Fr} (h : Has n df a L) {x : Operand} {v : Value} (hx : ev L x = some v) : a.eval x = v := by
 cases x with
 | tmp t => have := h.at_ t v hx; simp [Act.eval, Array.getD_eq_getD_getElem?, this]
 | const c => simpa [Go.Proofs.Ytgcdbnpenhclfaa.ev, Act.eval] using hx
 | global g => simpa [Go.Proofs.Ytgcdbnpenhclfaa.ev, Act.eval] using hx
 | func f => simpa [Go.Proofs.Ytgcdbnpenhclfaa.ev, Act.eval] using hx
def evs (L : Fr) : List Operand -> Option (List Value)
  | [] => some []
  | x :: l => match ev L x with
    | none => none
    | some v => match evs L l with
      | none => none
      | some vs => some (v :: vs)
theorem Has.evs {n : Nat} {df : List Deferred} {a : Act} {L : Fr} (h : Has n df a L) {xs : List Operand} {vs : List Value} (hx : evs L xs = some vs) : xs.map a.eval = vs := by
 induction xs generalizing vs with
 | nil => simp [Go.Proofs.Ytgcdbnpenhclfaa.evs] at hx; simp [hx]
 | cons x l ih =>
  unfold Go.Proofs.Ytgcdbnpenhclfaa.evs at hx; split at hx
  .cases hx
  .rename_i v hv
   split at hx
   .cases hx
   .rename_i us hus
    cases hx; simp [h.ev hv, ih hus]
/-- Every known slot of M is known in L, and the same. -/
def sub : Fr -> Fr -> Prop
  | [], _ => True
  | (k, v) :: M, L => lk L k = some v /\ sub M L
theorem sp {A L : Fr} (h : (A.map fun q => lk L q.1) = A.map fun q => some q.2) : sub A L := by
 induction A with
 | nil => trivial
 | cons p A ih =>
  obtain ⟨t, v⟩ := p; simp only [List.map_cons, List.cons.injEq] at h; exact ⟨h.1, ih h.2⟩
theorem Has.sub {n : Nat} {df : List Deferred} {a : Act} {L M : Fr} (h : Has n df a L) (hs : sub M L) : Has n df a M := by
 refine ⟨h.nd, h.sz, ?_⟩
 induction M with
 | nil => intro t v hv; cases hv
 | cons p M ih =>
  obtain ⟨k, u⟩ := p; intro t v hv; by_cases e : k = t
  .subst e; rw [QL] at hv; cases hv; exact h.at_ _ _ hs.1
  .rw [ZR e] at hv; exact ih hs.2 t v hv
abbrev JD := List Deferred -> Fr -> World -> Prop
abbrev JN := Exit -> List Deferred -> Fr -> World -> Prop
/-- every call, any depth; r: the round of a range over a function that the frame is in -/
def Qh (r : Option Nat) : Fence := { fn := fun _ => True, depth := none, alive := false, round := r }
def fin (n : Nat) (N : JD) (B : JN) : Exit -> Act -> World -> Prop
  | .normal, a, w => ∃ df L, Has n df a L /\ N df L w
  | e, a, w => ∃ df L, Has n df a L /\ B e df L w
def Y9 (n : Nat) (df : List Deferred) (N : JD) (B : JN) : Exit -> Act -> World -> Prop
  | .normal, a, w => ∃ L, Has n df a L /\ N df L w
  | e, a, w => ∃ df L, Has n df a L /\ B e df L w
theorem QZ {n : Nat} {df : List Deferred} {N : JD} {B : JN} : ∀ e a w, Y9 n df N B e a w -> fin n N B e a w
 | .normal, _, _, ⟨L, h⟩ => ⟨df, L, h⟩
 | .ret, _, _, h | .exit _, _, _, h | .goto _, _, _, h | .panic _, _, _, h | .outgrown, _, _, h => h
structure W (P : Program) (n : Nat) (ro : Option Nat) (df : List Deferred) (c : Code) (N : JD) (B : JN) (L : Fr) (w : World) : Prop where
  out : ∀ a, Has n df a L -> c.wpIn (Qh ro) 0 P (fin n N B) a w
/-- The operations of a region that are left. -/
structure WL (P : Program) (n : Nat) (ro : Option Nat) (df : List Deferred) (ops : Array Oper) (l : List Oper) (N : JD) (L : Fr) (w : World) : Prop where
  out : ∀ a, Has n df a L -> ∀ B, wpListIn (Qh ro) 0 P ops (Y9 n df N B) l a w

section code
variable {P : Program} {n : Nat} {ro : Option Nat} {df : List Deferred} {N : JD} {B : JN} {L : Fr} {w : World}
theorem Ji (h : N df L w) : W P n ro df .skip N B L w := ⟨fun _ ha => wpIn_skip ⟨_, _, ha, h⟩⟩
theorem W.ret (h : B .ret df L w) : W P n ro df .ret N B L w := ⟨fun _ ha => wpIn_ret ⟨_, _, ha, h⟩⟩
theorem Jq {id : Nat} (h : B (.exit id) df L w) : W P n ro df (.exit id) N B L w := ⟨fun _ ha => wpIn_exit ⟨_, _, ha, h⟩⟩
theorem Jr {x y : Code} (h : W P n ro df x (fun df L w => W P n ro df y N B L w) B L w) : W P n ro df (.seq x y) N B L w :=
 ⟨fun a ha => wpIn_seq (wpIn_mono (h.out a ha) fun e a' w' q => by
  cases e with
  | normal => obtain ⟨df', L', h1, h2⟩ := q; exact h2.out _ h1
  | _ => exact q)⟩
theorem Jjm {c : Operand} {x y : Code} {b : Bool} (hc : ev L c = some (.bool b)) (h : W P n ro df (bif b then x else y) N B L w) : W P n ro df (.cond c x y) N B L w :=
 ⟨fun a ha => wpIn_cond (t := b) (ha.ev hc) (by cases b <;> exact h.out a ha)⟩
theorem Je {c : Operand} {x y : Code} {b : Bool} (hc : ev L c = some (.bool b)) (ht : b = true -> W P n ro df x N B L w) (hf : b = false -> W P n ro df y N B L w) : W P n ro df (.cond c x y) N B L w :=
 ⟨fun a ha => wpIn_cond_split (ha.ev hc) (fun e => (ht e).out a ha) (fun e => (hf e).out a ha)⟩
def blk (id : Nat) (N : JD) (B : JN) : JN
  | .exit i, df, L, w => bif Nat.beq i id then N df L w else B (.exit i) df L w
  | e, df, L, w => B e df L w
theorem W.block {id : Nat} {c : Code} (h : W P n ro df c N (blk id N B) L w) : W P n ro df (.block id c) N B L w :=
 ⟨fun a ha => wpIn_block (wpIn_mono (h.out a ha) fun e a' w' q => by
  cases e with
  | exit i =>
   obtain ⟨df', L', h1, h2⟩ := q; by_cases e : i = id
   .subst e; simp only [blk, Ji9, cond_true] at h2; simp only [Exit.inBlock, if_true]; exact ⟨df', L', h1, h2⟩
   .have hb := Jja e; simp only [blk, hb, cond_false] at h2; simp only [Exit.inBlock, if_neg e]; exact ⟨df', L', h1, h2⟩
  | _ => exact q)⟩
theorem Jco {σ : Type} {p : σ -> Prop} (μ : σ -> Nat) (h : ∃ s, p s) : ∃ s, p s /\ ∀ s', p s' -> μ s <= μ s' := by
 obtain ⟨s, hs⟩ := h; have : ∀ b s, μ s <= b -> p s -> ∃ s, p s /\ ∀ s', p s' -> μ s <= μ s' := by
  intro b
  induction b with
  | zero => intro s hb hi; exact ⟨s, hi, fun _ _ => by omega⟩
  | succ b ih =>
   intro s hb hi; by_cases hc : ∃ s'', μ s'' <= b /\ p s''
   .obtain ⟨s'', h1, h2⟩ := hc; exact ih s'' h1 h2
   .exact ⟨s, hi, fun s'' h2 => by
     by_cases h4 : μ s'' <= b
     .exact absurd ⟨s'', h4, h2⟩ hc
     .omega⟩
 exact this _ s (Nat.le_refl _) hs
/-- A loop: what holds at the head of a round, of a state s; what the frame then holds; a measure. -/
theorem Jk2 {σ : Type} {c : Code} (I : σ -> World -> Prop) (fr : σ -> Fr) (dq : σ -> List Deferred) (μ : σ -> Nat) (s0 : σ) (h0 : I s0 w) (hd : dq s0 = df) (hf : sub (fr s0) L)
    (round : ∀ s w, I s w -> W P n ro (dq s) c (fun df' L' w' => ∃ s', sub (fr s') L' /\ μ s' < μ s /\ dq s' = df' /\ I s' w') B (fr s) w) : W P n ro df (.loop c) N B L w := by
  refine ⟨fun a ha => ?_⟩
  subst hd
  have key : ∀ k s w a, μ s = k -> I s w -> Has n (dq s) a (fr s) -> (Code.loop c).wpIn (Qh ro) 0 P (fin n N B) a w := by
    intro k
    induction k using Nat.strongRecOn with
    | _ k ih =>
      intro s w a hk hI hF
      refine wpIn_loop (I := fun a' w' => ∃ s', μ s' < k + 1 /\ I s' w' /\ Has n (dq s') a' (fr s')) (μ := fun a' w' => Classical.epsilon fun m => ∃ s', μ s' = m /\ (I s' w' /\ Has n (dq s') a' (fr s')) /\ ∀ s'', (I s'' w' /\ Has n (dq s'') a' (fr s'')) -> m <= μ s'') ⟨s, by omega, hI, hF⟩ ?_
      intro a1 w1 ⟨s1, hlt, hI1, hF1⟩
      have hex : ∃ m, ∃ s', μ s' = m /\ (I s' w1 /\ Has n (dq s') a1 (fr s')) /\ ∀ s'', (I s'' w1 /\ Has n (dq s'') a1 (fr s'')) -> m <= μ s'' := by
        obtain ⟨s', h1, h2⟩ := Jco μ (p := fun s' => I s' w1 /\ Has n (dq s') a1 (fr s')) ⟨s1, hI1, hF1⟩
        exact ⟨_, s', rfl, h1, h2⟩
      obtain ⟨s2, hm2, ⟨hI2, hF2⟩, hmin2⟩ := Classical.epsilon_spec hex
      refine wpIn_mono ((round s2 w1 hI2).out a1 hF2) fun e a' w' q => ?_
      cases e with
      | normal =>
        obtain ⟨df', L', h1, s', hs, hl, hdq, hi⟩ := q
        subst hdq
        have hF' := h1.sub hs
        have hex' : ∃ m, ∃ s', μ s' = m /\ (I s' w' /\ Has n (dq s') a' (fr s')) /\ ∀ s'', (I s'' w' /\ Has n (dq s'') a' (fr s'')) -> m <= μ s'' := by
          obtain ⟨s', h1, h2⟩ := Jco μ (p := fun s' => I s' w' /\ Has n (dq s') a' (fr s')) ⟨s', hi, hF'⟩
          exact ⟨_, s', rfl, h1, h2⟩
        obtain ⟨s3, hm3, ⟨hI3, hF3⟩, hmin3⟩ := Classical.epsilon_spec hex'
        have hle := hmin3 s' ⟨hi, hF'⟩
        have := hmin2 s1 ⟨hI1, hF1⟩
        refine ⟨⟨s', by omega, hi, hF'⟩, ?_⟩
        show Classical.epsilon _ < Classical.epsilon _
        rw [<- hm2]
        omega
      | _ => exact q
  exact key _ s0 w a rfl h0 (ha.sub hf)
theorem Jt {σ : Type} {c : Code} (I : σ -> World -> Prop) (fr : σ -> Fr) (μ : σ -> Nat) (s0 : σ) (h0 : I s0 w) (hf : sub (fr s0) L)
  (round : ∀ s w, I s w -> W P n ro df c (fun df' L' w' => ∃ s', sub (fr s') L' /\ μ s' < μ s /\ df = df' /\ I s' w') B (fr s) w) : W P n ro df (.loop c) N B L w :=
 Jk2 I fr (fun _ => df) μ s0 h0 rfl hf round
/-- The ways meet again. -/
theorem W.cut {σ : Type} {x y : Code} (I : σ -> World -> Prop) (fr : σ -> Fr) (h : W P n ro df x (fun df' L' w' => ∃ s, sub (fr s) L' /\ df = df' /\ I s w') B L w)
    (k : ∀ s w, I s w -> W P n ro df y N B (fr s) w) : W P n ro df (.seq x y) N B L w :=
  Jr ⟨fun a ha => wpIn_mono (h.out a ha) fun e a' w' q => by
    cases e with
    | normal => obtain ⟨df', L', h1, s, hs, rfl, hi⟩ := q; exact ⟨df, fr s, h1.sub hs, k s w' hi⟩
    | _ => exact q⟩
theorem YA {σ : Type} {x y : Code} (I : σ -> World -> Prop) (fr : σ -> Fr) (h : W P n ro df x (fun df' L' w' => ∃ s, sub (fr s) L' /\ df = df' /\ I s w') B L w)
  (k : ∀ s w, I s w -> W P n ro df y N B (fr s) w) : W P n ro df x (fun df L w => W P n ro df y N B L w) B L w :=
 ⟨fun a ha => wpIn_mono (h.out a ha) fun e a' w' q => by
  cases e with
  | normal =>
   obtain ⟨df', L', h1, s, hs, rfl, hi⟩ := q; exact ⟨df, L', h1, ⟨fun a2 ha2 => (k s w' hi).out a2 (ha2.sub hs)⟩⟩
  | _ => exact q⟩
theorem Jv {id : Nat} {l : List Oper} (h : WL P n ro df l.toArray l N L w) : W P n ro df (.region id l.toArray false) N B L w :=
 ⟨fun a ha => wpIn_mono (wpIn_region_lit (h.out a ha B)) QZ⟩
theorem W.mono {c : Code} {N' : JD} (h : W P n ro df c N' B L w) (hn : ∀ df L w, N' df L w -> N df L w) : W P n ro df c N B L w :=
 ⟨fun a ha => wpIn_mono (h.out a ha) fun e a' w' q => by
  cases e with
  | normal => obtain ⟨df', L', h1, h2⟩ := q; exact ⟨df', L', h1, hn _ _ _ h2⟩
  | _ => exact q⟩
end code
end Go.Proofs.Ytgcdbnpenhclfaa
namespace Go.Proofs.Ytgcdbnpenhclfaa
open Go.RowKit

section
variable {P : Program} {n : Nat} {ro : Option Nat} {df : List Deferred} {N : JD} {L : Fr} {w : World} {ops : Array Oper} {rest : List Oper}
variable {d : Nat} {ty : TypeId} {pos : String} {af : Array Edge}

theorem Ja (h : N df L w) : WL P n ro df ops [] N L w := ⟨fun _ ha _ => ⟨_, ha, h⟩⟩
theorem YE {P : Program} {ro : Option Nat} {ops : Array Oper} {Q : Exit -> Act -> World -> Prop} {o : Oper} {rest : List Oper} {a : Act} {w : World} (hw : Region.wanted o (yielded ops a.tmps) = false)
  (h : wpListIn (Qh ro) 0 P ops Q rest (a.put o.dst undef) w) : wpListIn (Qh ro) 0 P ops Q (o :: rest) a w := by
 simp only [wpListIn, hw]; exact ⟨fun _ _ => trivial, h⟩
theorem J9 {P : Program} {ρ : Operand -> Value} {o : Oper} {w w' : World} {x : Next} (h : (execOp ρ o).run P w = .ok x w') (hx : ∀ d, x ≠ .defer d) : ∀ c, o.op ≠ .defer c := by
 intro c hc; unfold execOp at h; rw [hc] at h; simp only [Sem.run_bind] at h; generalize (resolve ρ c o.type).run P w = q at h; cases q with
 | ok y w2 => simp only [Result.andThen, Sem.run_pure, Result.ok.injEq] at h; exact hx _ h.1.symm
 | halt y w2 => simp [Result.andThen] at h
/-- An operation that yields a value, in whatever frame of which L is known. -/
theorem WL.val {o : Oper} {v : Value} {w' : World} (hg : o.guard = none) (hd : o.dst = some d) (hn : Nat.blt d n = true)
    (hr : ∀ a, Has n df a L -> (execOp a.eval o).run P w = .ok (.value v) w') (h : WL P n ro df ops rest N ((d, v) :: L) w') : WL P n ro df ops (o :: rest) N L w := by
  refine ⟨fun a ha B => wpListIn_plain hg fun K hK => ?_⟩
  unfold Oper.wpIn
  refine ⟨fun _ _ => trivial, ?_⟩
  rw [Oper.semAt_eq _ _ _ (J9 (hr a ha) (fun _ h => by cases h)), hr a ha, Oper.uponIn_value, hd]
  exact hK _ _ (h.out _ (ha.put (by simpa [Nat.blt_eq] using hn) v) B)
/-- An operation that yields no value. -/
theorem Jex {o : Oper} {w' : World} (hg : o.guard = none) (hd : o.dst = none)
    (hr : ∀ a, Has n df a L -> (execOp a.eval o).run P w = .ok .skip w') (h : WL P n ro df ops rest N L w') : WL P n ro df ops (o :: rest) N L w := by
  refine ⟨fun a ha B => wpListIn_plain hg fun K hK => ?_⟩
  unfold Oper.wpIn
  refine ⟨fun _ _ => trivial, ?_⟩
  rw [Oper.semAt_eq _ _ _ (J9 (hr a ha) (fun _ h => by cases h)), hr a ha, Oper.uponIn_skip, hd]
  exact hK _ _ (h.out _ ha B)
/-- The call of a Go function. -/
theorem Jde {o : Oper} {f : FuncId} {args : Array Value} {R : Value -> World -> Prop} (hg : o.guard = none) (hd : o.dst = some d) (hn : Nat.blt d n = true)
    (hr : ∀ a, Has n df a L -> (execOp a.eval o).run P w = .ok (.enter f args) w)
    (hc : Calls P f args w fun e w' => ∃ v, e = .returned v /\ R v w') (h : ∀ v w', R v w' -> WL P n ro df ops rest N ((d, v) :: L) w') : WL P n ro df ops (o :: rest) N L w := by
  refine ⟨fun a ha B => wpListIn_plain hg fun K hK => ?_⟩
  unfold Oper.wpIn
  refine ⟨fun _ _ => trivial, ?_⟩
  rw [Oper.semAt_eq _ _ _ (J9 (hr a ha) (fun _ h => by cases h)), hr a ha, Oper.uponIn_enter]
  refine ⟨fun hh => absurd hh (by simp [Qh]), ?_⟩
  have hc' : CallsIn (Qh ro) (0 - 1) P f args w fun e w' => ∃ v, e = .returned v /\ R v w' := (callsIn_wide (n := 0 - 1)).2 hc
  refine hc'.mono fun e w' ⟨v, he, hv⟩ => ?_
  subst he
  show K (a.put o.dst v) w'
  rw [hd]
  exact hK _ _ ((h v w' hv).out _ (ha.put (by simpa [Nat.blt_eq] using hn) v) B)

/-- A guard that says no. -/
theorem Jfw {op : Op} {j : Nat} {want b : Bool} (hb : ((ops[j]?).bind (·.dst)).bind (lk L) = some (.bool b)) (hne : (b == want) = false) (hn : Nat.blt d n = true)
    (h : WL P n ro df ops rest N ((d, undef) :: L) w) : WL P n ro df ops (⟨some d, op, ty, pos, af, some (j, want)⟩ :: rest) N L w := by
  refine ⟨fun a ha B => ?_⟩
  have hy : yielded ops a.tmps j = some b := by
    unfold yielded
    cases hj : (ops[j]?).bind (·.dst) with
    | none => rw [hj] at hb; cases hb
    | some t => rw [hj] at hb; simp only [Option.bind_some] at hb ⊢; rw [ha.at_ t _ hb]
  refine YE ?_ (h.out _ (ha.put (by simpa [Nat.blt_eq] using hn) _) B)
  simp only [Region.wanted, hy]
  revert hne; cases b <;> cases want <;> simp
/-- A guard on an operation that was passed over. -/
theorem Jjh {op : Op} {j : Nat} {want : Bool} (hb : ((ops[j]?).bind (·.dst)).bind (lk L) = some undef) (hn : Nat.blt d n = true)
    (h : WL P n ro df ops rest N ((d, undef) :: L) w) : WL P n ro df ops (⟨some d, op, ty, pos, af, some (j, want)⟩ :: rest) N L w := by
  refine ⟨fun a ha B => ?_⟩
  have hy : yielded ops a.tmps j = none := by
    unfold yielded
    cases hj : (ops[j]?).bind (·.dst) with
    | none => rw [hj] at hb; cases hb
    | some t => rw [hj] at hb; simp only [Option.bind_some] at hb ⊢; rw [ha.at_ t _ hb]; rfl
  refine YE ?_ (h.out _ (ha.put (by simpa [Nat.blt_eq] using hn) _) B)
  simp only [Region.wanted, hy]
  rfl
/-- A guard that says yes: the operation is as if it had none. -/
theorem WL.take {op : Op} {j : Nat} {want : Bool} (hb : ((ops[j]?).bind (·.dst)).bind (lk L) = some (.bool want)) 
    (h : WL P n ro df ops (⟨some d, op, ty, pos, af, none⟩ :: rest) N L w) : WL P n ro df ops (⟨some d, op, ty, pos, af, some (j, want)⟩ :: rest) N L w := by
  refine ⟨fun a ha B => ?_⟩
  have hy : yielded ops a.tmps j = some want := by
    unfold yielded
    cases hj : (ops[j]?).bind (·.dst) with
    | none => rw [hj] at hb; cases hb
    | some t => rw [hj] at hb; simp only [Option.bind_some] at hb ⊢; rw [ha.at_ t _ hb]
  have h1 := h.out a ha B
  unfold wpListIn at h1 ⊢
  rw [if_pos (by simp [Region.wanted])] at h1
  rw [if_pos (by simp [Region.wanted, hy])]
  exact h1

theorem Jp {x : Operand} {v : Value} (hx : ev L x = some v) (hn : Nat.blt d n = true) (h : WL P n ro df ops rest N ((d, v) :: L) w) :
  WL P n ro df ops (⟨some d, .move x, ty, pos, af, none⟩ :: rest) N L w :=
 WL.val rfl rfl hn (fun a ha => by simp [execOp, ha.ev hx]) h
theorem JZ {x : Operand} {v : Value} (hx : ev L x = some v) (hn : Nat.blt d n = true) (h : WL P n ro df ops rest N ((d, v) :: L) w) :
  WL P n ro df ops (⟨some d, .assign x, ty, pos, af, none⟩ :: rest) N L w :=
 WL.val rfl rfl hn (fun a ha => by simp [execOp, ha.ev hx]) h
theorem WL.pick {c x y : Operand} {b : Bool} {v : Value} (hc : ev L c = some (.bool b)) (hx : ev L (bif b then x else y) = some v) (hn : Nat.blt d n = true) (h : WL P n ro df ops rest N ((d, v) :: L) w) :
  WL P n ro df ops (⟨some d, .pick c x y, ty, pos, af, none⟩ :: rest) N L w :=
 WL.val rfl rfl hn (fun a ha => by have hx' := ha.ev hx; cases b <;> simp [execOp, ha.ev hc, asBool] <;> exact hx') h
theorem Jew {x : Operand} {vs : Array Value} {i : Nat} {v : Value} (hx : ev L x = some (.tuple vs)) (hv : vs[i]? = some v) (hn : Nat.blt d n = true) (h : WL P n ro df ops rest N ((d, v) :: L) w) :
  WL P n ro df ops (⟨some d, .extract x i, ty, pos, af, none⟩ :: rest) N L w :=
 WL.val rfl rfl hn (fun a ha => by simp [execOp, ha.ev hx, Instr.extract, hv]) h
theorem WL.add {x y : Operand} {k : IntKind} {a b r : Int} {tx tb : TypeId} (hx : ev L x = some (.int k a)) (hy : ev L y = some (.int k b)) (hr : k.wrap (a + b) = r) (hn : Nat.blt d n = true) (h : WL P n ro df ops rest N ((d, .int k r) :: L) w) :
  WL P n ro df ops (⟨some d, .binOp .add tx x y tb, ty, pos, af, none⟩ :: rest) N L w :=
 WL.val rfl rfl hn (fun a ha => by simp [execOp, eqGuard, binOp, Op.intArith, ha.ev hx, ha.ev hy, hr]) h
theorem WL.sub {x y : Operand} {k : IntKind} {a b r : Int} {tx tb : TypeId} (hx : ev L x = some (.int k a)) (hy : ev L y = some (.int k b)) (hr : k.wrap (a - b) = r) (hn : Nat.blt d n = true) (h : WL P n ro df ops rest N ((d, .int k r) :: L) w) :
  WL P n ro df ops (⟨some d, .binOp .sub tx x y tb, ty, pos, af, none⟩ :: rest) N L w :=
 WL.val rfl rfl hn (fun a ha => by simp [execOp, eqGuard, binOp, Op.intArith, ha.ev hx, ha.ev hy, hr]) h
theorem WL.mul {x y : Operand} {k : IntKind} {a b r : Int} {tx tb : TypeId} (hx : ev L x = some (.int k a)) (hy : ev L y = some (.int k b)) (hr : k.wrap (a * b) = r) (hn : Nat.blt d n = true) (h : WL P n ro df ops rest N ((d, .int k r) :: L) w) :
  WL P n ro df ops (⟨some d, .binOp .mul tx x y tb, ty, pos, af, none⟩ :: rest) N L w :=
 WL.val rfl rfl hn (fun a ha => by simp [execOp, eqGuard, binOp, Op.intArith, ha.ev hx, ha.ev hy, hr]) h
theorem Zf {x y : Operand} {k : IntKind} {a b r : Int} {tx tb : TypeId} (hx : ev L x = some (.int k a)) (hy : ev L y = some (.int k b)) (h0 : b ≠ 0) (hr : k.wrap (a.tdiv b) = r) (hn : Nat.blt d n = true) (h : WL P n ro df ops rest N ((d, .int k r) :: L) w) :
  WL P n ro df ops (⟨some d, .binOp .quo tx x y tb, ty, pos, af, none⟩ :: rest) N L w :=
 WL.val rfl rfl hn (fun a ha => by simp [execOp, eqGuard, binOp, Op.intDiv, ha.ev hx, ha.ev hy, hr, h0]) h
theorem JR {x y : Operand} {k : IntKind} {a b r : Int} {tx tb : TypeId} (hx : ev L x = some (.int k a)) (hy : ev L y = some (.int k b)) (h0 : b ≠ 0) (hr : a.tmod b = r) (hn : Nat.blt d n = true) (h : WL P n ro df ops rest N ((d, .int k r) :: L) w) :
  WL P n ro df ops (⟨some d, .binOp .rem tx x y tb, ty, pos, af, none⟩ :: rest) N L w :=
 WL.val rfl rfl hn (fun a ha => by simp [execOp, eqGuard, binOp, Op.intDiv, ha.ev hx, ha.ev hy, hr, h0]) h
theorem WL.bits {op : BinOp} {x y : Operand} {k : IntKind} {a b r : Int} {tx tb : TypeId} (hx : ev L x = some (.int k a)) (hy : ev L y = some (.int k b)) (ho : op = .and ∨ op = .or ∨ op = .xor ∨ op = .andNot)
  (hr : (Op.intBits op k a b).run P w = .ok (.int k r) w) (hn : Nat.blt d n = true) (h : WL P n ro df ops rest N ((d, .int k r) :: L) w) :
  WL P n ro df ops (⟨some d, .binOp op tx x y tb, ty, pos, af, none⟩ :: rest) N L w :=
 WL.val rfl rfl hn (fun a ha => by rcases ho with rfl | rfl | rfl | rfl <;> simp [execOp, eqGuard, binOp, ha.ev hx, ha.ev hy, hr]) h
/-- A comparison of numbers: the walk parts. -/
theorem WL.lss {x y : Operand} {k : IntKind} {a b : Int} {tx tb : TypeId} (hx : ev L x = some (.int k a)) (hy : ev L y = some (.int k b)) (hn : Nat.blt d n = true)
    (ht : a < b -> WL P n ro df ops rest N ((d, .bool true) :: L) w) (hf : b <= a -> WL P n ro df ops rest N ((d, .bool false) :: L) w) :
    WL P n ro df ops (⟨some d, .binOp .lss tx x y tb, ty, pos, af, none⟩ :: rest) N L w := by
  by_cases hc : a < b
  . exact WL.val rfl rfl hn (fun a ha => by simp [execOp, eqGuard, binOp, Op.intCmp, ha.ev hx, ha.ev hy, hc]) (ht hc)
  . exact WL.val rfl rfl hn (fun a ha => by simp [execOp, eqGuard, binOp, Op.intCmp, ha.ev hx, ha.ev hy, hc]) (hf (by omega))
theorem WL.leq {x y : Operand} {k : IntKind} {a b : Int} {tx tb : TypeId} (hx : ev L x = some (.int k a)) (hy : ev L y = some (.int k b)) (hn : Nat.blt d n = true)
  (ht : a <= b -> WL P n ro df ops rest N ((d, .bool true) :: L) w) (hf : b < a -> WL P n ro df ops rest N ((d, .bool false) :: L) w) :
  WL P n ro df ops (⟨some d, .binOp .leq tx x y tb, ty, pos, af, none⟩ :: rest) N L w := by
 by_cases hc : a <= b
 .exact WL.val rfl rfl hn (fun a ha => by simp [execOp, eqGuard, binOp, Op.intCmp, ha.ev hx, ha.ev hy, hc]) (ht hc)
 .exact WL.val rfl rfl hn (fun a ha => by simp [execOp, eqGuard, binOp, Op.intCmp, ha.ev hx, ha.ev hy, hc]) (hf (by omega))
theorem WL.gtr {x y : Operand} {k : IntKind} {a b : Int} {tx tb : TypeId} (hx : ev L x = some (.int k a)) (hy : ev L y = some (.int k b)) (hn : Nat.blt d n = true)
  (ht : b < a -> WL P n ro df ops rest N ((d, .bool true) :: L) w) (hf : a <= b -> WL P n ro df ops rest N ((d, .bool false) :: L) w) :
  WL P n ro df ops (⟨some d, .binOp .gtr tx x y tb, ty, pos, af, none⟩ :: rest) N L w := by
 by_cases hc : b < a
 .exact WL.val rfl rfl hn (fun a ha => by simp [execOp, eqGuard, binOp, Op.intCmp, ha.ev hx, ha.ev hy, hc]) (ht hc)
 .exact WL.val rfl rfl hn (fun a ha => by simp [execOp, eqGuard, binOp, Op.intCmp, ha.ev hx, ha.ev hy, hc]) (hf (by omega))
theorem WL.geq {x y : Operand} {k : IntKind} {a b : Int} {tx tb : TypeId} (hx : ev L x = some (.int k a)) (hy : ev L y = some (.int k b)) (hn : Nat.blt d n = true)
  (ht : b <= a -> WL P n ro df ops rest N ((d, .bool true) :: L) w) (hf : a < b -> WL P n ro df ops rest N ((d, .bool false) :: L) w) :
  WL P n ro df ops (⟨some d, .binOp .geq tx x y tb, ty, pos, af, none⟩ :: rest) N L w := by
 by_cases hc : b <= a
 .exact WL.val rfl rfl hn (fun a ha => by simp [execOp, eqGuard, binOp, Op.intCmp, ha.ev hx, ha.ev hy, hc]) (ht hc)
 .exact WL.val rfl rfl hn (fun a ha => by simp [execOp, eqGuard, binOp, Op.intCmp, ha.ev hx, ha.ev hy, hc]) (hf (by omega))
theorem WL.eql {x y : Operand} {k : IntKind} {a b : Int} {tx tb : TypeId} (hx : ev L x = some (.int k a)) (hy : ev L y = some (.int k b)) (hn : Nat.blt d n = true)
  (ht : a = b -> WL P n ro df ops rest N ((d, .bool true) :: L) w) (hf : a ≠ b -> WL P n ro df ops rest N ((d, .bool false) :: L) w) :
  WL P n ro df ops (⟨some d, .binOp .eql tx x y tb, ty, pos, af, none⟩ :: rest) N L w := by
 by_cases hc : a = b
 .exact WL.val rfl rfl hn (fun a ha => by simp [execOp, eqGuard, binOp, Op.intCmp, ha.ev hx, ha.ev hy, hc]) (ht hc)
 .exact WL.val rfl rfl hn (fun a ha => by simp [execOp, eqGuard, binOp, Op.intCmp, ha.ev hx, ha.ev hy, hc]) (hf hc)
theorem WL.neq {x y : Operand} {k : IntKind} {a b : Int} {tx tb : TypeId} (hx : ev L x = some (.int k a)) (hy : ev L y = some (.int k b)) (hn : Nat.blt d n = true)
  (ht : a ≠ b -> WL P n ro df ops rest N ((d, .bool true) :: L) w) (hf : a = b -> WL P n ro df ops rest N ((d, .bool false) :: L) w) :
  WL P n ro df ops (⟨some d, .binOp .neq tx x y tb, ty, pos, af, none⟩ :: rest) N L w := by
 by_cases hc : a = b
 .exact WL.val rfl rfl hn (fun a ha => by simp [execOp, eqGuard, binOp, Op.intCmp, ha.ev hx, ha.ev hy, hc]) (hf hc)
 .exact WL.val rfl rfl hn (fun a ha => by simp [execOp, eqGuard, binOp, Op.intCmp, ha.ev hx, ha.ev hy, hc]) (ht hc)
theorem QP {x y : Operand} {k : IntKind} {a b : Int} {tx tb : TypeId} (hx : ev L x = some (.int k a)) (hy : ev L y = some (.int k b)) (hn : Nat.blt d n = true)
  (h : WL P n ro df ops rest N ((d, .bool (decide (a < b))) :: L) w) : WL P n ro df ops (⟨some d, .binOp .lss tx x y tb, ty, pos, af, none⟩ :: rest) N L w := by
 by_cases hc : a < b
 .rw [decide_eq_true hc] at h; exact WL.val rfl rfl hn (fun a ha => by simp [execOp, eqGuard, binOp, Op.intCmp, ha.ev hx, ha.ev hy, hc]) h
 .rw [decide_eq_false hc] at h; exact WL.val rfl rfl hn (fun a ha => by simp [execOp, eqGuard, binOp, Op.intCmp, ha.ev hx, ha.ev hy] <;> first | exact hc | omega) h
theorem Jkx {x y : Operand} {k : IntKind} {a b : Int} {tx tb : TypeId} (hx : ev L x = some (.int k a)) (hy : ev L y = some (.int k b)) (hn : Nat.blt d n = true)
  (h : WL P n ro df ops rest N ((d, .bool (decide (a <= b))) :: L) w) : WL P n ro df ops (⟨some d, .binOp .leq tx x y tb, ty, pos, af, none⟩ :: rest) N L w := by
 by_cases hc : a <= b
 .rw [decide_eq_true hc] at h; exact WL.val rfl rfl hn (fun a ha => by simp [execOp, eqGuard, binOp, Op.intCmp, ha.ev hx, ha.ev hy, hc]) h
 .rw [decide_eq_false hc] at h; exact WL.val rfl rfl hn (fun a ha => by simp [execOp, eqGuard, binOp, Op.intCmp, ha.ev hx, ha.ev hy] <;> first | exact hc | omega) h
theorem Jfy {x y : Operand} {k : IntKind} {a b : Int} {tx tb : TypeId} (hx : ev L x = some (.int k a)) (hy : ev L y = some (.int k b)) (hn : Nat.blt d n = true)
  (h : WL P n ro df ops rest N ((d, .bool (decide (b < a))) :: L) w) : WL P n ro df ops (⟨some d, .binOp .gtr tx x y tb, ty, pos, af, none⟩ :: rest) N L w := by
 by_cases hc : b < a
 .rw [decide_eq_true hc] at h; exact WL.val rfl rfl hn (fun a ha => by simp [execOp, eqGuard, binOp, Op.intCmp, ha.ev hx, ha.ev hy, hc]) h
 .rw [decide_eq_false hc] at h; exact WL.val rfl rfl hn (fun a ha => by simp [execOp, eqGuard, binOp, Op.intCmp, ha.ev hx, ha.ev hy] <;> first | exact hc | omega) h
theorem Jbu {x y : Operand} {k : IntKind} {a b : Int} {tx tb : TypeId} (hx : ev L x = some (.int k a)) (hy : ev L y = some (.int k b)) (hn : Nat.blt d n = true)
  (h : WL P n ro df ops rest N ((d, .bool (decide (b <= a))) :: L) w) : WL P n ro df ops (⟨some d, .binOp .geq tx x y tb, ty, pos, af, none⟩ :: rest) N L w := by
 by_cases hc : b <= a
 .rw [decide_eq_true hc] at h; exact WL.val rfl rfl hn (fun a ha => by simp [execOp, eqGuard, binOp, Op.intCmp, ha.ev hx, ha.ev hy, hc]) h
 .rw [decide_eq_false hc] at h; exact WL.val rfl rfl hn (fun a ha => by simp [execOp, eqGuard, binOp, Op.intCmp, ha.ev hx, ha.ev hy] <;> first | exact hc | omega) h
theorem Jbv {x y : Operand} {k : IntKind} {a b : Int} {tx tb : TypeId} (hx : ev L x = some (.int k a)) (hy : ev L y = some (.int k b)) (hn : Nat.blt d n = true)
  (h : WL P n ro df ops rest N ((d, .bool (decide (a = b))) :: L) w) : WL P n ro df ops (⟨some d, .binOp .eql tx x y tb, ty, pos, af, none⟩ :: rest) N L w := by
 by_cases hc : a = b
 .rw [decide_eq_true hc] at h; exact WL.val rfl rfl hn (fun a ha => by simp [execOp, eqGuard, binOp, Op.intCmp, ha.ev hx, ha.ev hy, hc]) h
 .rw [decide_eq_false hc] at h; exact WL.val rfl rfl hn (fun a ha => by simp [execOp, eqGuard, binOp, Op.intCmp, ha.ev hx, ha.ev hy] <;> first | exact hc | omega) h
theorem Zw {x y : Operand} {k : IntKind} {a b : Int} {tx tb : TypeId} (hx : ev L x = some (.int k a)) (hy : ev L y = some (.int k b)) (hn : Nat.blt d n = true)
  (h : WL P n ro df ops rest N ((d, .bool (decide (a ≠ b))) :: L) w) : WL P n ro df ops (⟨some d, .binOp .neq tx x y tb, ty, pos, af, none⟩ :: rest) N L w := by
 by_cases hc : a ≠ b
 .rw [decide_eq_true hc] at h; exact WL.val rfl rfl hn (fun a ha => by simp [execOp, eqGuard, binOp, Op.intCmp, ha.ev hx, ha.ev hy, hc]) h
 .rw [decide_eq_false hc] at h; exact WL.val rfl rfl hn (fun a ha => by simp [execOp, eqGuard, binOp, Op.intCmp, ha.ev hx, ha.ev hy] <;> first | exact hc | omega) h
theorem Z1 {x : Operand} {b : Bool} {tx : TypeId} (hx : ev L x = some (.bool b)) (hn : Nat.blt d n = true) (h : WL P n ro df ops rest N ((d, .bool !b) :: L) w) :
  WL P n ro df ops (⟨some d, .unOp .not tx x, ty, pos, af, none⟩ :: rest) N L w :=
 WL.val rfl rfl hn (fun a ha => by simp [execOp, Op.unary, ha.ev hx]) h
theorem WL.len {x : Operand} {A : Option Addr} {m c : Nat} {t e : TypeId} (ht : P.underlying t = some (.slice e)) (hx : ev L x = some (.slice A m c)) (hn : Nat.blt d n = true) (h : WL P n ro df ops rest N ((d, .int .i64 m) :: L) w) :
  WL P n ro df ops (⟨some d, .call ⟨.builtin .len, #[x], #[t]⟩, ty, pos, af, none⟩ :: rest) N L w :=
 WL.val rfl rfl hn (fun a ha => by simp [execOp, resolve, invoke, builtin, Builtin.len_, ha.ev hx, run_underlying ht, goInt]) h
theorem WL.call {f : FuncId} {fn : Func} {c : Code} {xs : List Operand} {ts : Array TypeId} {vs : List Value} {R : Value -> World -> Prop} (hf : P.funcs[f]? = some fn) (hb : fn.body = some c) (hnm : (fn.name == "runtime.NumGoroutine") = false)
  (hx : evs L xs = some vs) (hn : Nat.blt d n = true)
  (hc : Calls P f vs.toArray w fun e w' => ∃ v, e = .returned v /\ R v w') (h : ∀ v w', R v w' -> WL P n ro df ops rest N ((d, v) :: L) w') :
  WL P n ro df ops (⟨some d, .call ⟨.value (.func f), xs.toArray, ts⟩, ty, pos, af, none⟩ :: rest) N L w := by
 refine Jde rfl rfl hn (fun a ha => ?_) hc h; have hm := ha.evs hx; have hnm' : ¬ fn.name = "runtime.NumGoroutine" := by simpa using hnm
 simp only [execOp, resolve, Sem.run_bind]; simp [Deferred.ofValue, Act.eval, invoke, callFunc, hm, program, Sem.run, hf, hb, hnm']
end
end Go.Proofs.Ytgcdbnpenhclfaa
namespace Go.Proofs.Ytgcdbnpenhclfaa
open Go.RowKit

structure Elem (P : Program) (e : TypeId) (z by_ : Nat) (zero : Value) : Prop where
  ex : ∃ i, P.info? e = some i /\ i.zero = some zero /\ i.size = z /\ i.bytes = by_
  zs : zero.cells.size = z
  pos : 0 < z
theorem Elem.mk' {P : Program} {e : TypeId} {z by_ : Nat} {zero : Value} (h : (P.info? e).map (fun i => (i.zero, i.size, i.bytes)) = some (some zero, z, by_)) (hz : zero.cells.size = z) (hp : 0 < z) : Elem P e z by_ zero :=
 ⟨info_parts h, hz, hp⟩
def JL (A : Option Addr) : Addr := A.getD ⟨0, 0, none⟩
def bl (A : Option Addr) : Option Nat := A.map (·.block)
structure Rd (B : Nat) (w : World) (z : Nat) (A : Option Addr) (m c : Nat) (cs : List Value) : Prop where
  len : cs.length = m * z
  cap : m <= c
  max : c <= maxLen
  cells : 0 < m -> ∃ ad, A = some ad /\ ad.block < B /\ ∀ j u, cs[j]? = some u -> w.cell? (ad.add j) = some u
abbrev Own (b : Nat) (w : World) (e z : Nat) (A : Option Addr) (m c : Nat) (cs : List Value) : Prop := w.ownsRow b e z (.slice A m c) m cs

theorem JV (a : Addr) (n : Nat) : (a.add n).block = a.block := by unfold Addr.add; split <;> rfl
theorem YN (a : Addr) (i j : Nat) : (a.add i).add j = a.add (i + j) := by
 unfold Addr.add; by_cases hi : i = 0 <;> by_cases hj : j = 0 <;> simp [hi, hj, Nat.add_assoc]
theorem Jet {w w' : World} {row : Option Nat} (hg : w.grownBy w' row) {p : Addr} {u : Value} (h : w.cell? p = some u) (hr : some p.block ≠ row) : w'.cell? p = some u := hg.cell h hr
section
variable {B b : Nat} {w w' : World} {z e : Nat} {A : Option Addr} {m c : Nat} {cs : List Value}
theorem Rd.nil (h : c <= maxLen) : Rd B w z A 0 c [] := ⟨by simp, Nat.zero_le _, h, fun h => absurd h (by omega)⟩
theorem Rd.grown (h : Rd B w z A m c cs) {row : Option Nat} (hg : w.grownBy w' row) (hr : ∀ g, row = some g -> B <= g) : Rd B w' z A m c cs :=
 ⟨h.len, h.cap, h.max, fun hm => by
  obtain ⟨ad, e1, e2, e3⟩ := h.cells hm; exact ⟨ad, e1, e2, fun j u hu => hg.cell (e3 j u hu) (fun e => by have := hr _ e.symm; rw [JV] at this; omega)⟩⟩
theorem Rd.ext (h : Rd B w z A m c cs) (hg : w.grownBy w' none) : Rd B w' z A m c cs := h.grown hg (fun _ e => by cases e)
theorem Rd.at_ (h : Rd B w z A m c cs) {j : Nat} {u : Value} (hu : cs[j]? = some u) : w.cell? ((JL A).add j) = some u := by
 have hj : j < cs.length := (List.getElem?_eq_some_iff.1 hu).1; have hm : 0 < m := by
  rcases Nat.eq_zero_or_pos m with h0 | h0
  .subst h0; have := h.len; omega
  .exact h0
 obtain ⟨ad, e1, _, e3⟩ := h.cells hm; subst e1; exact e3 j u hu
theorem Rd.take (h : Rd B w z A m c cs) {k : Nat} (hk : k <= m) : Rd B w z A k c (cs.take (k * z)) :=
 ⟨by rw [List.length_take, h.len]; exact Nat.min_eq_left (Nat.mul_le_mul_right _ hk), by have := h.cap; omega, h.max, fun hm => by
  obtain ⟨ad, e1, e2, e3⟩ := h.cells (by omega); exact ⟨ad, e1, e2, fun j u hu => e3 j u (by rw [List.getElem?_take] at hu; split at hu; exact hu; cases hu)⟩⟩
theorem Rd.drop (h : Rd B w z A m c cs) {k : Nat} (hk : k <= m) : Rd B w z (if c = k then A else A.map (·.add (k * z))) (m - k) (c - k) (cs.drop (k * z)) :=
 ⟨by rw [List.length_drop, h.len, Nat.sub_mul], by have := h.cap; omega, by have := h.max; omega, fun hm => by
  obtain ⟨ad, e1, e2, e3⟩ := h.cells (by omega); have := h.cap; rw [if_neg (by omega)]; subst e1; exact ⟨ad.add (k * z), rfl, by rw [JV]; exact e2, fun j u hu => by rw [YN]; exact e3 _ u (by rw [<- hu, List.getElem?_drop])⟩⟩
theorem Own.len (h : Own b w e z A m c cs) : cs.length = m * z := h.1
theorem Own.form (h : Own b w e z A m c cs) : (A = none /\ m = 0 /\ c = 0) ∨ ∃ g, A = some ⟨g, 0, none⟩ /\ b <= g /\ g < w.heap.size := by
 rcases h.2 with ⟨h1, _⟩ | ⟨g, cap, cur, h1, h2, h3, _⟩
 .cases h1; exact .inl ⟨rfl, rfl, rfl⟩
 .cases h1; refine .inr ⟨g, rfl, h2, ?_⟩; rcases Nat.lt_or_ge g w.heap.size with h | h
  .exact h
  .rw [Array.getElem?_eq_none h] at h3; cases h3
theorem Own.rd (h : Own b w e z A m c cs) : Rd w.heap.size w z A m c cs := by
 rcases h.2 with ⟨h1, h2⟩ | ⟨g, cap, cur, h1, h2, h3, h4, h5, h6, h7⟩
 .cases h1; have := h.1; exact ⟨h.1, Nat.le_refl _, by simp [maxLen], fun hm => by omega⟩
 .cases h1; refine ⟨h.1, h4, h5, fun hm => ⟨⟨g, 0, none⟩, rfl, ?_, h.cells rfl⟩⟩; rcases Nat.lt_or_ge g w.heap.size with h | h
  .exact h
  .rw [Array.getElem?_eq_none h] at h3; cases h3
theorem Own.grown (h : Own b w e z A m c cs) {row : Option Nat} (hg : w.grownBy w' row) (hr : ∀ g, row = some g -> bl A ≠ some g) : Own b w' e z A m c cs :=
 World.ownsRow.kept h hg (by
  cases A with
  | none => exact .inl rfl
  | some a => exact .inr fun e => hr a.block e.symm rfl)
theorem Own.ext (h : Own b w e z A m c cs) (hg : w.grownBy w' none) : Own b w' e z A m c cs := h.grown hg (fun _ e => by cases e)
theorem Own.bl_ge (h : Own b w e z A m c cs) : ∀ g, bl A = some g -> b <= g /\ g < w.heap.size := by
 intro g hg; rcases h.form with ⟨rfl, _⟩ | ⟨g', rfl, h1, h2⟩
 .cases hg
 .cases hg; exact ⟨h1, h2⟩
theorem Own.low {b' : Nat} (h : Own b w e z A m c cs) (hb : b' <= b) : Own b' w e z A m c cs := by
 refine ⟨h.1, h.2.imp id ?_⟩; rintro ⟨g, cap, cur, h1, h2, h3⟩; exact ⟨g, cap, cur, h1, by omega, h3⟩
theorem Jf (w : World) : w.grownBy w none := World.grownBy.refl w none
theorem Za {a b c : World} (h : a.grownBy b none) (k : b.grownBy c none) : a.grownBy c none := World.grownBy.trans h k
end

section
variable {P : Program} {n : Nat} {ro : Option Nat} {df : List Deferred} {N : JD} {L : Fr} {w : World} {ops : Array Oper} {rest : List Oper}
variable {d : Nat} {ty : TypeId} {pos : String} {af : Array Edge}
theorem Jdc {x i : Operand} {t e : TypeId} {z by_ : Nat} {zero : Value} {A : Option Addr} {m c B : Nat} {cs : List Value} {k : IntKind} {J : Int} {wR : World} (j : Nat)
    (ht : P.underlying t = some (.slice e)) (he : Elem P e z by_ zero) (hx : ev L x = some (.slice A m c)) (hi : ev L i = some (.int k J)) (hJ : J = j) (hj : j < m) (hR : Rd B wR z A m c cs) (hn : Nat.blt d n = true)
    (h : WL P n ro df ops rest N ((d, .pointer (some ((JL A).add (j * z)))) :: L) w) : WL P n ro df ops (⟨some d, .indexAddr t x i, ty, pos, af, none⟩ :: rest) N L w := by
  obtain ⟨inf, h1, h2, h3, h4⟩ := he.ex
  obtain ⟨ad, e1, _, _⟩ := hR.cells (by omega)
  subst e1; subst hJ
  refine WL.val rfl rfl hn (fun a ha => ?_) h
  have hc : (0 : Int) <= (j : Int) /\ (j : Int) < (m : Int) := by omega
  simp [execOp, ha.ev hx, ha.ev hi, Instr.indexAt, asIntOf, run_underlying ht, sizeOf, typeInfo, h1, h3, hj, JL]
theorem Jo {x : Operand} {t : TypeId} {D : TypeDesc} {p : Addr} {v : Value} (hu : P.underlying t = some D) (hD : (match D with | .struct _ | .array _ _ => true | _ => false) = false) (hx : ev L x = some (.pointer (some p))) (hc : w.cell? p = some v) (hn : Nat.blt d n = true)
  (h : WL P n ro df ops rest N ((d, v) :: L) w) : WL P n ro df ops (⟨some d, .load t x, ty, pos, af, none⟩ :: rest) N L w := by
 refine WL.val rfl rfl hn (fun a ha => ?_) h; have hag : (isAgg t).run P w = .ok false w := by
  simp only [isAgg, Sem.run_bind, run_underlying hu, Result.andThen_ok]; cases D <;> simp_all
 simp [execOp, ha.ev hx, Instr.loadAt, Instr.sureAddr, loadVar, hag, Go.load, Sem.run, hc]
theorem WL.store {x y : Operand} {t e : TypeId} {by_ : Nat} {zero : Value} {A : Option Addr} {m c b j : Nat} {cs : List Value} {v : Value}
    (he : Elem P t 1 by_ zero) (hx : ev L x = some (.pointer (some ((JL A).add j)))) (hy : ev L y = some v) (h1 : v.oneCell' = true) (hj : j < m) (hO : Own b w e 1 A m c cs) 
    (h : ∀ w', Own b w' e 1 A m c (cs.set j v) -> w.grownBy w' (bl A) -> WL P n ro df ops rest N L w') : WL P n ro df ops (⟨none, .store t x y, ty, pos, af, none⟩ :: rest) N L w := by
  obtain ⟨inf, i1, i2, i3, i4⟩ := he.ex
  rcases hO.form with ⟨_, h0, _⟩ | ⟨g, rfl, hg1, hg2⟩
  . omega
  . have hs := World.ownsRow.stored hO j v
    refine Jex rfl rfl (fun a ha => ?_) (h _ hs.1 hs.2)
    have hfr := World.ownsRow.frozenAt hO j
    have hce := World.ownsRow.cellAt hO j (by omega)
    have hl : j < cs.length := by have := hO.1; omega
    rw [List.getElem?_eq_getElem hl] at hce
    have hadd : (JL (some ⟨g, 0, none⟩)).add j = ⟨g, j, none⟩ := by
      unfold JL Addr.add; simp; intro h; exact h.symm
    have hcs : v.cells = #[v] := by cases v <;> simp_all [Value.cells, Value.oneCell']
    rw [hadd] at hx
    have hz : (⟨g, j, none⟩ : Addr).add 0 = ⟨g, j, none⟩ := rfl
    simp [execOp, ha.ev hx, ha.ev hy, Instr.storeAt, Instr.sureAddr, storeVar, sizeOf, typeInfo, i1, i3, hcs, storeCells, run_store _ _ _ _ _ h1, hce, hfr, hz]
theorem Jfx {x y : Operand} {t e : TypeId} {z by_ : Nat} {zero : Value} {k k' : IntKind} {J : Int} (b m : Nat) (ht : P.underlying t = some (.slice e)) (he : Elem P e z by_ zero)
  (hx : ev L x = some (.int k J)) (hy : ev L y = some (.int k' J)) (hJ : J = m) (hby : by_ * m <= 281474976710656) (hm : m <= maxLen) (hb : b <= w.heap.size) (hn : Nat.blt d n = true)
  (h : ∀ A w', A = some ⟨w.heap.size, 0, none⟩ -> Own b w' e z A m m (madeCells zero.cells (m * z)).toList -> w.grownBy w' none -> WL P n ro df ops rest N ((d, .slice A m m) :: L) w') :
  WL P n ro df ops (⟨some d, .makeSlice t x y, ty, pos, af, none⟩ :: rest) N L w := by
 obtain ⟨inf, i1, i2, i3, i4⟩ := he.ex; subst hJ; obtain ⟨w', hr, h1, h2⟩ := run_make_full (P := P) w b t e inf zero z ht i1 i2 i3 k k' m (by rw [i4]; exact hby) hm hb; exact WL.val rfl rfl hn (fun a ha => by simp [execOp, ha.ev hx, ha.ev hy, hr]) (h _ w' rfl h1 h2)
theorem WL.append {x y : Operand} {t e : TypeId} {z by_ : Nat} {zero : Value} {A A' : Option Addr} {m c m' c' B b : Nat} {cs cs' : List Value} (mm : Nat) (ls : List Value) (ht : P.underlying t = some (.slice e)) (he : Elem P e z by_ zero)
    (hx : ev L x = some (.slice A m c)) (hy : ev L y = some (.slice A' m' c')) (hO : Own b w e z A m c cs) (hR : Rd B w z A' m' c' cs') (h1 : ∀ u ∈ cs', u.oneCell' = true)
    (hmax : m + m' <= maxLen) (hby : (m + m') * by_ <= 140737488355328) (hb : b <= w.heap.size) (hmm : m + m' = mm) (hls : cs ++ cs' = ls) (hn : Nat.blt d n = true)
    (h : ∀ A2 c2 w', Own b w' e z A2 mm c2 ls -> w.grownBy w' (bl A) -> (bl A2 = bl A ∨ bl A2 = some w.heap.size) -> WL P n ro df ops rest N ((d, .slice A2 mm c2) :: L) w') :
    WL P n ro df ops (⟨some d, .call ⟨.builtin .append, #[x, y], #[t, t]⟩, ty, pos, af, none⟩ :: rest) N L w := by
  subst hmm; subst hls
  obtain ⟨inf, i1, i2, i3, i4⟩ := he.ex
  have hob : (Value.slice A m c).ownBlock = bl A := by cases A <;> rfl
  rcases Nat.eq_zero_or_pos m' with h0 | h0
  . subst h0
    have hnil : cs' = [] := List.eq_nil_of_length_eq_zero (by simpa using hR.len)
    subst hnil
    have hr : (Builtin.append_ #[t, t] ty #[.slice A m c, .slice A' 0 c']).run P w = .ok (.slice A m c) w := by
      rcases hO.2 with ⟨h2, h3⟩ | ⟨g, cap, cur, h2, h3, h4, h5, h6, h7, h8⟩
      . cases h2
        cases A' <;> simp [Builtin.append_, run_underlying ht, sizeOf, typeInfo, i1, Builtin.lenOf, Builtin.firstCells, loadCells, loadCellsFrom]
      . cases h2
        cases A' <;> simp [Builtin.append_, run_underlying ht, sizeOf, typeInfo, i1, Builtin.lenOf, Builtin.firstCells, loadCells, loadCellsFrom, h5, storeCells]
    exact WL.val rfl rfl hn (fun a ha => by simp [execOp, resolve, invoke, builtin, ha.ev hx, ha.ev hy, hr]) (h A c w (by simpa using hO) (World.grownBy.refl w _) (.inl rfl))
  . obtain ⟨ad, rfl, _, hcell⟩ := hR.cells h0
    obtain ⟨v', w', hr, o1, o2, _, o4⟩ := run_append_own_at (P := P) w b t ty e inf zero z by_ ht i1 i2 i3 i4 he.zs he.pos (.slice A m c) m cs hO ad m' c' cs' hR.len hcell h1 hmax hby hb
    have hv : ∃ A2 c2, v' = .slice A2 (m + m') c2 := by
      rcases o1.2 with ⟨rfl, h3⟩ | ⟨g, cap, cur, rfl, _⟩
      . omega
      . exact ⟨_, _, rfl⟩
    obtain ⟨A2, c2, rfl⟩ := hv
    have hob2 : (Value.slice A2 (m + m') c2).ownBlock = bl A2 := by cases A2 <;> rfl
    rw [hob] at o2 o4
    rw [hob2] at o4
    exact WL.val rfl rfl hn (fun a ha => by simp [execOp, resolve, invoke, builtin, ha.ev hx, ha.ev hy, hr]) (h A2 c2 w' o1 o2 o4)
theorem Jji {t e : TypeId} {z by_ : Nat} {zero : Value} {k b : Nat} {parts : List (Nat × Operand)} {cells : List Value} (ht : P.underlying t = some (.slice e)) (he : Elem P e z by_ zero)
    (hk : k * z <= 16777216) (hp : ∃ vs, evs L (parts.map (·.2)) = some vs /\ Instr.fill (fun i => some (i * z, z)) ((Array.range (k * z)).map (zero.cells[· % zero.cells.size]!)) ((parts.map (·.1)).zip vs) = some cells.toArray)
    (hl : cells.length = k * z) (hb : b <= w.heap.size) (hn : Nat.blt d n = true)
    (h : ∀ A w', A = some ⟨w.heap.size, 0, none⟩ -> Own b w' e z A k k cells -> w.grownBy w' none -> WL P n ro df ops rest N ((d, .slice A k k) :: L) w') :
    WL P n ro df ops (⟨some d, .buildSlice t k parts.toArray, ty, pos, af, none⟩ :: rest) N L w := by
  obtain ⟨inf, i1, i2, i3, i4⟩ := he.ex
  obtain ⟨vs, hv, hf⟩ := hp
  have hkm : k <= maxLen := by
    have : k * 1 <= k * z := Nat.mul_le_mul_left _ he.pos
    simp [maxLen]; omega
  have hown := World.ownsRow_lit (e := e) (size := z) w cells.toArray k hb hkm (by simpa using hl)
  refine WL.val rfl rfl hn (fun a ha => ?_) (h _ _ rfl hown (World.grownBy_alloc w _ none))
  have hm := ha.evs hv
  have hz : (parts.map fun x => (x.1, a.eval x.2)) = (parts.map (·.1)).zip vs := by
    rw [<- hm]
    clear hm hf hv hl hown
    induction parts with
    | nil => rfl
    | cons p l ih => simp [ih]
  have hgt : ¬ 16777216 < k * z := by omega
  by_cases h0 : k * z = 0
  . have he0 : cells = [] := List.eq_nil_of_length_eq_zero (by rw [hl, h0])
    subst he0
    have hr0 : (Array.range (k * z)).map (fun x => zero.cells[x % zero.cells.size]!) = #[] := Array.eq_empty_of_size_eq_zero (by simp [h0])
    rw [hr0] at hf
    have hr1 : (Array.range 0).map (fun _ => (default : Value)) = #[] := Array.eq_empty_of_size_eq_zero (by simp)
    simp [execOp, Instr.buildSlice, run_underlying ht, sizeOf, typeInfo, i1, i3, h0, newRow, hz, hr1, hf]
  . simp [execOp, Instr.buildSlice, run_underlying ht, sizeOf, typeInfo, zeroValue, i1, i2, i3, h0, hgt, newRow, hz, hf]
theorem Jkv {x y : Operand} {t e : TypeId} {z by_ : Nat} {zero : Value} {A : Option Addr} {m c : Nat} {k : IntKind} {J : Int} (j : Nat) (ht : P.underlying t = some (.slice e)) (he : Elem P e z by_ zero)
    (hx : ev L x = some (.slice A m c)) (hy : ev L y = some (.int k J)) (hJ : J = j) (hj : j <= c) (hn : Nat.blt d n = true)
    (h : WL P n ro df ops rest N ((d, .slice A j c) :: L) w) : WL P n ro df ops (⟨some d, .slice t x none (some y) none, ty, pos, af, none⟩ :: rest) N L w := by
  obtain ⟨inf, i1, i2, i3, i4⟩ := he.ex
  subst hJ
  refine WL.val rfl rfl hn (fun a ha => ?_) h
  have : (A.map (·.add 0)) = A := by cases A <;> rfl
  by_cases hc : c = 0
  . simp [execOp, ha.ev hx, ha.ev hy, Instr.sliceAt, Instr.slice, Instr.sliceBounds, Instr.sliceBound, asIntOf, run_underlying ht, sizeOf, typeInfo, i1, hc]
    omega
  . simp [execOp, ha.ev hx, ha.ev hy, Instr.sliceAt, Instr.slice, Instr.sliceBounds, Instr.sliceBound, asIntOf, run_underlying ht, sizeOf, typeInfo, i1, hj, hc, this]
theorem Jhg {x y : Operand} {t e : TypeId} {z by_ : Nat} {zero : Value} {A : Option Addr} {m c : Nat} {k : IntKind} {J : Int} (j : Nat) (ht : P.underlying t = some (.slice e)) (he : Elem P e z by_ zero)
    (hx : ev L x = some (.slice A m c)) (hy : ev L y = some (.int k J)) (hJ : J = j) (hj : j <= m) (hn : Nat.blt d n = true)
    (h : WL P n ro df ops rest N ((d, .slice (if c = j then A else A.map (·.add (j * z))) (m - j) (c - j)) :: L) w) : WL P n ro df ops (⟨some d, .slice t x (some y) none none, ty, pos, af, none⟩ :: rest) N L w := by
  obtain ⟨inf, i1, i2, i3, i4⟩ := he.ex
  subst hJ
  refine WL.val rfl rfl hn (fun a ha => ?_) h
  simp [execOp, ha.ev hx, ha.ev hy, Instr.sliceAt, Instr.slice, Instr.sliceBounds, Instr.sliceBound, asIntOf, run_underlying ht, sizeOf, typeInfo, i1, i3, hj]
end
end Go.Proofs.Ytgcdbnpenhclfaa
namespace Go.Proofs.Ytgcdbnpenhclfaa
open Go.RowKit

/-- One operation of a region whose order is open. 'on': those that it waits for and whose values it is Jga; 'base': what it knows of the frame ahead of the region; 'pure': it asks nothing of the world. -/
structure Plan where
  on : List Nat
  slots : List Nat
  pure : Bool
def Jz (l : List Oper) (i : Nat) : Option Nat := (l[i]?).bind (·.dst)
def JJ (l : List Oper) (i : Nat) : List Nat := match l[i]? with
  | some o => (o.after.toList.filter (Region.binds .any)).map (·.on)
  | none => []
/-- What op is Jga of those that it waits for. -/
def Jga (l : List Oper) (V : Nat -> Value -> World -> Prop) (w : World) (K : Fr -> Prop) : List Nat -> Fr -> Prop
  | [], F => K F
  | j :: js, F => ∀ u, V j u w -> Jga l V w K js (((Jz l j).getD 0, u) :: F)

theorem Je6 {l : List Oper} {V : Nat -> Value -> World -> Prop} {w : World} {K : Fr -> Prop} (vals : Nat -> Value) : ∀ (js : List Nat) (F : Fr), Jga l V w K js F -> (∀ j ∈ js, V j (vals j) w) ->
  K ((js.map fun j => ((Jz l j).getD 0, vals j)).reverse ++ F)
 | [], F, h, _ => by simpa [Jga] using h
 | j :: js, F, h, hv => by
  have := Je6 vals js _ (h (vals j) (hv j (List.mem_cons_self ..))) (fun k hk => hv k (List.mem_cons_of_mem _ hk))
  simpa using this
theorem QH {P : Program} {F : Fence} {m : Nat} {o : Oper} {a : Act} {w : World} {K K' : Act -> World -> Prop} {Q Q' : Exit -> Act -> World -> Prop} (h : ∀ a w, K a w -> K' a w) (hq : ∀ e a w, e ≠ .normal -> Q e a w -> Q' e a w)
  (hh : o.wpIn F m P a w K Q) : o.wpIn F m P a w K' Q' := by
 unfold Oper.wpIn at *
 refine ⟨hh.1, ?_⟩; have hh := hh.2; generalize (o.semAt F.round a.eval).run P w = r at *
 cases r with
 | ok n w' =>
  cases n <;> simp only [Oper.uponIn] at hh ⊢ <;>
   first
    | exact h _ _ hh
    | exact ⟨hh.1, CallsIn.mono hh.2 (fun e w'' he => by
     cases e with
     | returned v => exact h _ _ he
     | panicked c => exact hq _ _ _ (by simp) he
     | outgrown => obtain ⟨a1, w1, h1⟩ := he; exact ⟨a1, w1, hq _ _ _ (by simp) h1⟩)⟩
    | exact ⟨hh.1, RowsIn.mono hh.2 (fun _ _ he => h _ _ he)⟩
    | exact ⟨hh.1, RoundIn.mono hh.2 (fun e w'' he => by
     cases e with
     | returned v => exact h _ _ he
     | panicked c => exact hq _ _ _ (by simp) he
     | outgrown => obtain ⟨a1, w1, h1⟩ := he; exact ⟨a1, w1, hq _ _ _ (by simp) h1⟩)⟩
 | halt x w' => cases x <;> simp only [Oper.uponIn] at hh ⊢ <;> first | exact hh | exact hq _ _ _ (by simp) hh
theorem Yd (A B : Fr) (t : Nat) : lk (A ++ B) t = match lk A t with | some v => some v | none => lk B t := by
 induction A with
 | nil => rfl
 | cons p A ih =>
  obtain ⟨k, v⟩ := p; by_cases e : k = t
  .subst e; simp [QL]
  .simp [ZR e, ih]
theorem Jbh {A : Fr} {t : Nat} {v : Value} (h : lk A t = some v) : (t, v) ∈ A := by
 induction A with
 | nil => cases h
 | cons p A ih =>
  obtain ⟨k, u⟩ := p; by_cases e : k = t
  .subst e; rw [QL] at h; cases h; exact List.mem_cons_self ..
  .rw [ZR e] at h; exact List.mem_cons_of_mem _ (ih h)
theorem Jkd (a : Act) (m t : Nat) (h : t < m) : lk ((List.range m).map fun t => (t, a.tmps.getD t undef)) t = some (a.tmps.getD t undef) := by
 induction m with
 | zero => omega
 | succ m ih =>
  rw [List.range_succ, List.map_append, Yd]; by_cases e : t < m
  .rw [ih e]
  .have : t = m := by omega
   subst this; have hn : lk ((List.range t).map fun t => (t, a.tmps.getD t undef)) t = none := by
    cases hc : lk ((List.range t).map fun t => (t, a.tmps.getD t undef)) t with
    | none => rfl
    | some v => have := Jbh hc; simp at this; omega
   rw [hn]; simp [lk]
theorem sub_at {M L : Fr} (h : sub M L) {t : Nat} {v : Value} (hm : (t, v) ∈ M) : lk L t = some v := by
 induction M with
 | nil => cases hm
 | cons p M ih =>
  obtain ⟨k, u⟩ := p; rcases List.mem_cons.1 hm with e | e
  .cases e; exact h.1
  .exact ih h.2 e
/-- What is known of the frame and the world when the operations 'd' have been carried out. -/
structure DInv (n : Nat) (df : List Deferred) (l : List Oper) (ps : List Plan) (V : Nat -> Value -> World -> Prop) (T : World -> Prop) (w0 : World) (L : Fr) (s : Nat) (d : Nat -> Bool) (vals : Nat -> Value) (a : Act) (w : World) : Prop where
  nd : a.defers = df
  sz : a.tmps.size = n
  old : ∀ t v, lk L t = some v -> (∀ k, d k = true -> Jz l k ≠ some t) -> a.tmps[t]? = some v
  new : ∀ k t, d k = true -> Jz l k = some t -> a.tmps[t]? = some (vals k)
  wd : d s = false -> w0.grownBy w none
  ws : d s = true -> T w
  vs : ∀ k, d k = true -> k ≠ s -> V k (vals k) w
  cl : ∀ k, d k = true -> ∀ j ∈ JJ l k, d j = true
  lt : ∀ k, d k = true -> k < l.length

theorem Jgo {A : Fr} {t : Nat} {v : Value} (h : (t, v) ∈ A) : ∃ u, lk A t = some u := by
 induction A with
 | nil => cases h
 | cons p A ih =>
  obtain ⟨k, u⟩ := p; by_cases e : k = t
  .subst e; exact ⟨u, QL _ _ _⟩
  .rw [ZR e]; rcases List.mem_cons.1 h with h | h
   .cases h; exact absurd rfl e
   .exact ih h
theorem Qk (m j : Nat) : (Array.replicate m false).getD j false = false := by
 rcases Nat.lt_or_ge j m with h | h
 .simp [Array.getD_eq_getD_getElem?, h]
 .simp [Array.getD_eq_getD_getElem?, h]
theorem Jcq (x : Array Bool) (i k : Nat) (hi : i < x.size) : (x.setIfInBounds i true).getD k false = (decide (i = k) || x.getD k false) := by
 simp only [Array.getD_eq_getD_getElem?, Array.getElem?_setIfInBounds]; by_cases e : i = k
 .subst e; simp [hi]
 .simp [e]
theorem Jee (x : List Bool) (i : Nat) (hi : x[i]? = some false) : (x.filter (!·)).length = ((x.set i true).filter (!·)).length + 1 := by
 induction x generalizing i with
 | nil => simp at hi
 | cons b x ih =>
  cases i with
  | zero => simp at hi; subst hi; simp
  | succ i =>
   have := ih i (by simpa using hi); cases b <;> simp [this]
theorem Jcs {x : List Bool} (h : (x.filter (!·)).length = 0) (i : Nat) (hi : i < x.length) : x[i]? = some true := by
 have h1 : x.filter (!·) = [] := List.eq_nil_of_length_eq_zero h; have h2 := List.filter_eq_nil_iff.1 h1 x[i] (List.getElem_mem hi); rw [List.getElem?_eq_getElem hi]; cases hb : x[i] <;> simp_all
end Go.Proofs.Ytgcdbnpenhclfaa
namespace Go.Proofs.Ytgcdbnpenhclfaa
open Go.RowKit
def Jax : Nat -> List Value -> Fr
  | _, [] => []
  | i, v :: vs => (i, v) :: Jax (i + 1) vs
def lks (L : Fr) : List Nat -> Option (List Value)
  | [] => some []
  | t :: ts => match lk L t with
    | none => none
    | some v => match lks L ts with
      | none => none
      | some vs => some (v :: vs)
def resv (L : Fr) : List Nat -> Option Value
  | [t] => lk L t
  | ts => match lks L ts with
    | none => none
    | some vs => some (.tuple vs.toArray)
/-- what the frame has set down to be done at its end is nothing: the marks of loops over functions are taken -/
def Fin : List Deferred -> World -> (World -> Prop) -> Prop
  | [], w, K => K w
  | d :: df, w, K => ∃ D, d = { target := .collected D, args := #[] } /\ w.heap[D]? = some (.deferred (some [])) /\ Fin df (w.putObj D (.deferred none)) K
theorem Fin.nil {w : World} {K : World -> Prop} (h : K w) : Fin [] w K := h
theorem Fin.cons {D : Nat} {df : List Deferred} {w : World} {K : World -> Prop} (hD : w.heap[D]? = some (.deferred (some []))) (h : Fin df (w.putObj D (.deferred none)) K) : Fin ({ target := .collected D, args := #[] } :: df) w K := ⟨D, rfl, hD, h⟩
theorem Fin.leaves {P : Program} {fn : Func} {tmps : Array Value} {R : Value -> World -> Prop} {F : Fence} {n : Nat} : ∀ {df : List Deferred} {w : World} {K : World -> Prop}, Fin df w K -> (∀ w', K w' -> ∃ v, (results fn tmps).run P w' = .ok v w' /\ R v w') ->
  LeavesInM F n P fn tmps (fun e w' => ∃ v, e = .returned v /\ R v w') df .returning w
 | [], w, K, h, hk => by obtain ⟨v, h1, h2⟩ := hk w h; exact ⟨v, h1, v, rfl, h2⟩
 | d :: df, w, K, h, hk => by
  obtain ⟨D, rfl, hD, h⟩ := h; exact ⟨by simp, .inl ⟨D, _, rfl, run_takeDeferred hD, h.leaves hk⟩⟩
def endN (res : List Nat) (R : Value -> World -> Prop) : JD := fun df L w => ∃ v, resv L res = some v /\ Fin df w (R v)
def endB (res : List Nat) (R : Value -> World -> Prop) : JN
  | .ret, df, L, w => ∃ v, resv L res = some v /\ Fin df w (R v)
  | _, _, _, _ => False
theorem Jc8 (vs : List Value) (i t : Nat) (v : Value) (h : lk (Jax i vs) t = some v) : i <= t /\ vs[t - i]? = some v := by
 induction vs generalizing i with
 | nil => cases h
 | cons u vs ih =>
  by_cases e : i = t
  .subst e; rw [Jax, QL] at h; cases h; simp
  .rw [Jax, ZR e] at h; obtain ⟨h1, h2⟩ := ih (i + 1) h; refine ⟨by omega, ?_⟩; rw [show t - i = (t - (i + 1)) + 1 by omega]
   simpa using h2
theorem Jd7 {L : Fr} {a : Act} {n : Nat} {df : List Deferred} (ha : Has n df a L) : ∀ (ts : List Nat) (vs : List Value), lks L ts = some vs -> ts.map (fun t => a.tmps.getD t undef) = vs
 | [], vs, h => by simp [lks] at h; simp [h]
 | t :: ts, vs, h => by
  unfold lks at h; split at h
  .cases h
  .rename_i v hv
   split at h
   .cases h
   .rename_i us hus
    cases h; rw [List.map_cons, Jd7 ha ts us hus]; simp [Array.getD_eq_getD_getElem?, ha.at_ t v hv]
theorem Jh6 {P : Program} {a : Act} {w : World} (g : ResultVar -> Sem Value) (hg : ∀ t, g (.tmp t) = pure (a.tmps.getD t undef)) (res : List Nat) :
  (List.mapM g (res.map ResultVar.tmp)).run P w = .ok (res.map fun t => a.tmps.getD t undef) w := by
 induction res with
 | nil => rfl
 | cons t ts ih =>
  rw [List.map_cons, List.mapM_cons, Sem.run_bind, hg, Sem.run_pure, Result.andThen_ok, Sem.run_bind, ih]; rfl
theorem Zk {P : Program} {fn : Func} {res : List Nat} {a : Act} {n : Nat} {df : List Deferred} {L : Fr} {v : Value} {w : World} (hres : fn.results = (res.map ResultVar.tmp).toArray) (ha : Has n df a L) (hv : resv L res = some v) :
  (results fn a.tmps).run P w = .ok v w := by
 unfold results; rw [Sem.run_bind, hres, List.mapM_toArray, Sem.run_map, Jh6 _ (fun t => rfl)]; simp only [Result.andThen_ok]; unfold resv at hv; split at hv
 .rename_i t
  simp [Array.getD_eq_getD_getElem?, ha.at_ t v hv]
 .rename_i hne
  split at hv
  .cases hv
  .rename_i vs hvs
   cases hv; rw [Jd7 ha _ _ hvs]; have hl : vs.length ≠ 1 := by
    rw [<- Jd7 ha _ _ hvs, List.length_map]; intro h1; obtain ⟨t, rfl⟩ := List.length_eq_one_iff.1 h1; exact hne t rfl
   simp [hl]
theorem Jg {P : Program} {f : FuncId} {fn : Func} {c : Code} {n : Nat} {vs : List Value} {R : Value -> World -> Prop} {w : World} (res : List Nat) (hf : P.funcs[f]? = some fn) (hb : fn.body = some c) (hn : fn.ntmps = n)
  (hres : fn.results = (res.map ResultVar.tmp).toArray) (hle : Nat.ble vs.length n = true) (h : W P n none [] c (endN res R) (endB res R) (Jax 0 vs) w) : Calls P f vs.toArray w fun e w' => ∃ v, e = .returned v /\ R v w' := by
 have hle' : vs.length <= n := by simpa [Nat.ble_eq] using hle
 refine (callsIn_wide (n := 0)).1 (callsIn_of_wp_marks hf hb trivial (wpIn_mono (F := Fence.wide) (h.out _ ⟨rfl, by simp [hn]; omega, fun t v hv => ?_⟩) fun e a w' q => ?_))
 .obtain ⟨_, h2⟩ := Jc8 vs 0 t v hv; have ht : t < vs.length := (List.getElem?_eq_some_iff.1 h2).1; rw [Array.getElem?_append_left (by simpa using ht)]
  simpa using h2
 .cases e with
  | normal =>
   obtain ⟨df, L, hL, v, hv, hR⟩ := q; show LeavesInM _ _ _ _ _ _ a.defers _ _; rw [hL.nd]; exact hR.leaves fun w2 h2 => ⟨v, Zk hres hL hv, h2⟩
  | ret =>
   obtain ⟨df, L, hL, v, hv, hR⟩ := q; show LeavesInM _ _ _ _ _ _ a.defers _ _; rw [hL.nd]; exact hR.leaves fun w2 h2 => ⟨v, Zk hres hL hv, h2⟩
  | _ => obtain ⟨df, L, _, h⟩ := q; exact h.elim
theorem JO {P : Program} {n : Nat} {ro : Option Nat} {df : List Deferred} {N : JD} {B : JN} {L : Fr} {w : World} {c : Operand} {x y : Code} (hc : ev L c = some (.bool true)) (h : W P n ro df x N B L w) : W P n ro df (.cond c x y) N B L w := Jjm hc h
theorem Yh {P : Program} {n : Nat} {ro : Option Nat} {df : List Deferred} {N : JD} {B : JN} {L : Fr} {w : World} {c : Operand} {x y : Code} (hc : ev L c = some (.bool false)) (h : W P n ro df y N B L w) : W P n ro df (.cond c x y) N B L w := Jjm hc h
/-! ### numbers -/
theorem wi64 {n r : Int} (lo : -9223372036854775808 <= n) (hi : n <= 9223372036854775807) (h : n = r) : IntKind.i64.wrap n = r := by rw [IntKind.wrap_i64]; omega
theorem iv {k : IntKind} {a b : Int} (h : a = b) : some (Value.int k a) = some (Value.int k b) := by rw [h]
/-! ### lists of limbs -/
def us (l : List Nat) : List Value := l.map fun x : Nat => .int .u32 (x : Int)
section
variable {P : Program} {n : Nat} {ro : Option Nat} {df : List Deferred} {N : JD} {L : Fr} {w : World} {ops : Array Oper} {rest : List Oper}
variable {d : Nat} {ty : TypeId} {pos : String} {af : Array Edge}
theorem Jay {x i : Operand} {t e : TypeId} {by_ : Nat} {zero : Value} {A : Option Addr} {m c B : Nat} {cs : List Value} {k : IntKind} {J : Int} {wR : World} (j : Nat)
  (ht : P.underlying t = some (.slice e)) (he : Elem P e 1 by_ zero) (hx : ev L x = some (.slice A m c)) (hi : ev L i = some (.int k J)) (hJ : J = j) (hj : j < m) (hR : Rd B wR 1 A m c cs) (hn : Nat.blt d n = true)
  (h : WL P n ro df ops rest N ((d, .pointer (some ((JL A).add j))) :: L) w) : WL P n ro df ops (⟨some d, .indexAddr t x i, ty, pos, af, none⟩ :: rest) N L w :=
 Jdc j ht he hx hi hJ hj hR hn (by rw [Nat.mul_one]; exact h)
end
theorem Jiy (vs : List Value) : ∀ (c : List Value) (i : Nat), (∀ v ∈ vs, v.oneCell' = true) -> i + vs.length <= c.length ->
  Instr.fill (fun i => some (i * 1, 1)) c.toArray ((List.range' i vs.length).zip vs) = some (c.take i ++ vs ++ c.drop (i + vs.length)).toArray := by
 induction vs with
 | nil => intro c i _ _; simp [Instr.fill]
 | cons v vs ih =>
  intro c i h1 hl; have hv : v.cells = #[v] := by have := h1 v (List.mem_cons_self ..); cases v <;> simp_all [Value.cells, Value.oneCell']
  simp only [List.length_cons] at hl; have hlt : i < c.length := by omega
  simp only [List.length_cons, List.range'_succ, List.zip_cons_cons, Instr.fill, hv, Nat.mul_one]; rw [if_neg (by simp; omega)]; have := ih (c.set i v) (i + 1) (fun u hu => h1 u (List.mem_cons_of_mem _ hu)) (by simp; omega); have hz : (#[v] : Array Value).zipIdx = #[(v, 0)] := by simp [Array.zipIdx]
  have hf : Array.foldl (fun (cs : Array Value) (x : Value × Nat) => cs.setIfInBounds (i + x.2) x.1) c.toArray #[(v, 0)] = (c.set i v).toArray := by simp
  rw [hz]; refine Eq.trans (congrArg (fun q => Instr.fill _ q _) hf) ?_; simp only [Nat.mul_one] at this; rw [this]
  congr 2
  rw [List.take_succ_eq_append_getElem (by simpa using hlt)]; simp only [List.getElem_set_self, List.take_set_of_le (Nat.le_refl i), List.append_assoc, List.singleton_append]
  congr 2
  rw [show i + (vs.length + 1) = i + 1 + vs.length by omega, List.drop_set_of_lt (by omega)]
section
variable {P : Program} {n : Nat} {ro : Option Nat} {df : List Deferred} {N : JD} {L : Fr} {w : World} {ops : Array Oper} {rest : List Oper}
variable {d : Nat} {ty : TypeId} {pos : String} {af : Array Edge}
/-- A literal of a slice whose elements are one cell each, all given, in order. -/
theorem Jkw {t e : TypeId} {by_ : Nat} {zero : Value} {k b : Nat} {parts : List (Nat × Operand)} {vs : List Value} (ht : P.underlying t = some (.slice e)) (he : Elem P e 1 by_ zero)
    (hk : Nat.ble k 1000 = true) (hv : evs L (parts.map (·.2)) = some vs) (hp : parts.map (·.1) = List.range' 0 k) (hl : vs.length = k) (h1 : ∀ v ∈ vs, v.oneCell' = true) (hb : b <= w.heap.size) (hn : Nat.blt d n = true)
    (h : ∀ A w', A = some ⟨w.heap.size, 0, none⟩ -> Own b w' e 1 A k k vs -> w.grownBy w' none -> WL P n ro df ops rest N ((d, .slice A k k) :: L) w') :
    WL P n ro df ops (⟨some d, .buildSlice t k parts.toArray, ty, pos, af, none⟩ :: rest) N L w := by
  have hk' : k <= 1000 := by simpa [Nat.ble_eq] using hk
  refine Jji (cells := vs) ht he (by omega) ⟨vs, hv, ?_⟩ (by omega) hb hn h
  rw [hp, <- hl]
  have := Jiy vs ((Array.range (vs.length * 1)).map (zero.cells[· % zero.cells.size]!)).toList 0 h1 (by simp)
  rw [Array.toArray_toList, List.drop_of_length_le (by simp), List.append_nil, List.take_zero, List.nil_append] at this
  exact this
end
theorem Rd.norm {B : Nat} {w : World} {z : Nat} {A : Option Addr} {m c : Nat} {cs : List Value} (h : Rd B w z A m c cs) (hz : 0 < z := by decide) : Rd w.heap.size w z A m c cs :=
 ⟨h.len, h.cap, h.max, fun hm => by
  obtain ⟨ad, e1, _, e3⟩ := h.cells hm; have hl : 0 < cs.length := by rw [h.len]; exact Nat.mul_pos hm hz
  exact ⟨ad, e1, by have := World.block_lt_of_cell? w _ (e3 0 _ (List.getElem?_eq_getElem hl)); rwa [JV] at this, e3⟩⟩
theorem bel_of {w w' : World} (h : w.grownBy w' none) : Below w.heap.size w w' := ⟨h.os, h.tape, h.output, h.size, fun k hk => h.block k hk (by simp)⟩
end Go.Proofs.Ytgcdbnpenhclfaa
set_option linter.unusedVariables false
namespace Go.Proofs.Ytgcdbnpenhclfaa
open Go.RowKit
/-! ### lists as cells -/
def is (l : LI) : List Value := l.map fun x : Int => .int .i64 x
def bs (l : List Bool) : List Value := l.map fun x : Bool => .bool x
theorem Jbj (l : LI) : (is l).length = l.length := by simp [is]
theorem Ji7 (l : List Bool) : (bs l).length = l.length := by simp [bs]
theorem Jfo {l : LI} {j : Nat} (h : j < l.length) : (is l)[j]? = some (.int .i64 (l.getD j 0)) := by simp [is, h]
theorem bs_at {l : List Bool} {j : Nat} (h : j < l.length) : (bs l)[j]? = some (.bool (l.getD j false)) := by simp [bs, h]
theorem JX (l : LI) : ∀ u ∈ is l, u.oneCell' = true := by
 intro u hu; obtain ⟨x, _, rfl⟩ := List.mem_map.1 hu; rfl
theorem J7 (l : LI) (j : Nat) (x : Int) : (is l).set j (.int .i64 x) = is (l.set j x) := by simp [is, List.map_set]
theorem Ji6 (l : List Bool) (j : Nat) (x : Bool) : (bs l).set j (.bool x) = bs (l.set j x) := by simp [bs, List.map_set]
theorem JU (a b : LI) : is a ++ is b = is (a ++ b) := by simp [is]
theorem Jbi (l : LI) (k : Nat) : (is l).take k = is (l.take k) := by simp [is, List.map_take]
theorem Jkf (l : LI) (k : Nat) : (is l).drop k = is (l.drop k) := by simp [is, List.map_drop]
theorem QK (k : Nat) : (madeCells (Value.int .i64 0).cells (k * 1)).toList = is (List.replicate k 0) := by
 rw [Nat.mul_one]; show (madeCells #[Value.int .i64 0] k).toList = _; rw [toList_madeCells_one]; simp [is]
theorem Jkc (k : Nat) : (madeCells (Value.bool false).cells (k * 1)).toList = bs (List.replicate k false) := by
 rw [Nat.mul_one]; show (madeCells #[Value.bool false] k).toList = _; rw [toList_madeCells_one]; simp [bs]
theorem Rd.ilen {B : Nat} {w : World} {A : Option Addr} {m c : Nat} {l : LI} (h : Rd B w 1 A m c (is l)) : l.length = m := by have := h.len; rw [Jbj] at this; omega
theorem Rd.blen {B : Nat} {w : World} {A : Option Addr} {m c : Nat} {l : List Bool} (h : Rd B w 1 A m c (bs l)) : l.length = m := by have := h.len; rw [Ji7] at this; omega
/-! ### numbers of 64 bits -/
def I64 (x : Int) : Prop := -9223372036854775808 <= x /\ x <= 9223372036854775807
theorem wr {x : Int} (h : I64 x) : IntKind.i64.wrap x = x := by rw [IntKind.wrap_i64]; have := h.1; have := h.2; omega
/-- the entry at an index -/
def gi (l : LI) (i : Int) : Int := l.getD i.toNat 0
def gb (l : List Bool) (i : Int) : Bool := l.getD i.toNat false
def si (l : LI) (i : Int) (x : Int) : LI := l.set i.toNat x
def sb (l : List Bool) (i : Int) (x : Bool) : List Bool := l.set i.toNat x
end Go.Proofs.Ytgcdbnpenhclfaa
set_option linter.unusedSimpArgs false
namespace Go.Proofs.Ytgcdbnpenhclfaa
open Go.ChangeShapes Go.WideShapes Go.ChangeAt Go.RowKit
theorem Jkh {x : Int} (h : (Lit.int .i64 x).wf = true) : -9223372036854775808 <= x /\ x <= 9223372036854775807 := by
  simp [Lit.wf, IntKind.min, IntKind.max, IntKind.signed, IntKind.bits] at h
  exact ⟨by omega, by omega⟩
section
variable {H : Type} {enc : TypeId × Value -> H} {P : Program} {W : World} {base : Nat} {spare : Nat -> Bool} {held : Bool}
theorem Jgp {t e : TypeId} {v : Value} {y : DataW H × List MemPlace} {n : Nat} (ht : P.underlying t = some (.slice e)) (he : P.underlying e = some (.int .i64)) (hc : P.cellsOf e = 1) (h : DataW.trod enc P W base spare held n t [v] = some y) :
  ∃ A m c xs, v = .slice A m c /\ Rd W.heap.size W 1 A m c (is xs) := by
 rcases open_ints ht he hc h with ⟨hcs, hx⟩ | ⟨x, l, c', zs, hcs, _, hl, hm, hz, hx, hcell, hwz⟩
 .have hv : v = .slice none 0 0 := by simpa using hcs
  exact ⟨none, 0, 0, [], hv, Rd.nil (by simp [maxLen])⟩
 .have hv : v = .slice (some x) l c' := by simpa using hcs
  refine ⟨some x, l, c', zs.take l, hv, ?_⟩; refine Rd.norm (B := x.block + 1) ⟨?_, hl, hm, fun hm0 => ⟨x, rfl, Nat.lt_succ_self _, fun j u hu => ?_⟩⟩
  .have hzl : l <= zs.length := by rw [hz]; split <;> omega
   simp only [is, List.length_map, List.length_take]; omega
  .simp only [is, List.getElem?_map, Option.map_eq_some_iff] at hu; obtain ⟨z, hz1, rfl⟩ := hu; rw [List.getElem?_take] at hz1; split at hz1
   .rename_i hj
    have hzl : l <= zs.length := by rw [hz]; split <;> omega
    have hjl : j < zs.length := by omega
    have h1 := hcell j hjl; rw [h1, List.getD_eq_getElem?_getD, hz1]; rfl
   .cases hz1
structure Ty2S (P : Program) (t u : TypeId) : Prop where
  ex : ∃ f0 f1 f2 : Field, P.underlying t = some (.struct #[f0, f1, f2]) /\ f0.offset = 0 /\ f1.offset = 1 /\ f2.offset = 2 /\ P.underlying f0.type = some (.int .i64) /\ P.underlying f1.type = some (.int .i64) /\ P.underlying f2.type = some (.slice u) /\ P.cellsOf f0.type = 1 /\ P.cellsOf f1.type = 1 /\ P.cellsOf f2.type = 1
  three : P.cellsOf t = 3
  int : P.underlying u = some (.int .i64)
  one : P.cellsOf u = 1
theorem Jkl {t u : TypeId} (hT : Ty2S P t u) {cs : Array Value} {d : DataW H} {p : List MemPlace} (h : DataW.Trod enc P W base spare held t (.agg cs) d p) :
  ∃ a b A m c xs, cs = #[.int .i64 a, .int .i64 b, .slice A m c] /\ Rd W.heap.size W 1 A m c (is xs) := by
 obtain ⟨fuel, hf⟩ := h; obtain ⟨f0, f1, f2, ht, o0, o1, o2, u0, u1, u2, c0, c1, c2⟩ := hT.ex; obtain ⟨y0, y1, y2, n, hx, hl, h0, h1, h2⟩ := Go.Deep.trod_struct3 ht hf; have e2 : (Value.agg cs).cells.toList = cs.toList := rfl; rw [e2] at hl h0 h1 h2; rw [hT.three] at hl; generalize hcs : cs.toList = l at *
 match l, hl with
 | [v0, v1, v2], _ =>
  simp only [o0, o1, o2, c0, c1, c2, List.drop_zero, List.drop_succ_cons, List.take_succ_cons, List.take_zero] at h0 h1 h2; obtain ⟨a, e0, _, _⟩ := DataW.trod_int u0 h0; obtain ⟨b, e1, _, _⟩ := DataW.trod_int u1 h1; obtain ⟨A, m, c, xs, rfl, hR⟩ := Jgp u2 hT.int hT.one h2; have e0' : v0 = .int .i64 a := by simpa using e0
  have e1' : v1 = .int .i64 b := by simpa using e1
  subst e0'; subst e1'; refine ⟨a, b, A, m, c, xs, ?_, hR⟩; rw [<- Array.toArray_toList (xs := cs), hcs]
end
end Go.Proofs.Ytgcdbnpenhclfaa
namespace Go.Proofs.Ytgcdbnpenhclfaa
open Go.RowKit
/-- The struct type t: the places of its fields, its zero value. -/
def bldP (P : Program) (t : Nat) (pl : List (Nat × Nat)) (zs : Array Value) : Prop :=
  (P.info? t).map (·.zero) = some (some (.agg zs)) /\ ∃ fs, P.underlying t = some (.struct fs) /\ fs.toList.mapM (fun f => (P.info? f.type).map fun i => (f.offset, i.size)) = some pl
theorem Ji5 {P : Program} {t : Nat} {pl : List (Nat × Nat)} {zs : Array Value} (h : bldP P t pl zs) (parts : List (Nat × Value)) : P.built t parts = Instr.fill (pl.toArray[·]?) zs parts := by
 obtain ⟨h1, fs, h2, h3⟩ := h; cases hi : P.info? t with
 | none => rw [hi] at h1; cases h1
 | some it =>
  rw [hi] at h1; simp only [Option.map_some, Option.some.injEq] at h1; simp only [Program.built, hi, h2, h1, h3, Value.cells]
section
variable {P : Program} {n : Nat} {ro : Option Nat} {df : List Deferred} {N : JD} {L : Fr} {w : World} {ops : Array Oper} {rest : List Oper}
variable {d : Nat} {ty : TypeId} {pos : String} {af : Array Edge}
theorem Qm {t : Nat} {pl : List (Nat × Nat)} {zs cells : Array Value} {parts : List (Nat × Operand)} {vs : List Value} (hB : bldP P t pl zs) (hx : evs L (parts.map (·.2)) = some vs)
  (hf : Instr.fill (pl.toArray[·]?) zs ((parts.map (·.1)).zip vs) = some cells) (hn : Nat.blt d n = true)
  (h : WL P n ro df ops rest N ((d, .agg cells) :: L) w) : WL P n ro df ops (⟨some d, .build t parts.toArray, ty, pos, af, none⟩ :: rest) N L w := by
 refine WL.val rfl rfl hn (fun a ha => ?_) h; have hm := ha.evs hx; have hz : (parts.map fun x => (x.1, a.eval x.2)) = (parts.map (·.1)).zip vs := by
  rw [<- hm]; clear hm hf hx
  induction parts with
  | nil => rfl
  | cons p l ih => simp [ih]
 have hb : P.built t (parts.map fun x => (x.1, a.eval x.2)) = some cells := by rw [Ji5 hB, hz]; exact hf
 have := run_build (P := P) w t (parts.map fun x => (x.1, a.eval x.2)).toArray cells (by simpa using hb); simp [execOp] at this ⊢; simp [this]
end
end Go.Proofs.Ytgcdbnpenhclfaa
namespace Go.Proofs.Ytgcdbnpenhclfaa
open Go.RowKit
def Jc9 (P : Program) (t : Nat) : Bool := match P.underlying t with | some (.struct _) => true | some (.array _ _) => true | _ => false
theorem Jip {P : Program} {t : Nat} (h : Jc9 P t = true) (w : World) : (isAgg t).run P w = .ok true w := by
 unfold Jc9 at h; cases hu : P.underlying t with
 | none => rw [hu] at h; cases h
 | some D =>
  rw [hu] at h; simp only [isAgg, Sem.run_bind, run_underlying hu, Result.andThen_ok]; cases D <;> simp_all
theorem Qp {P : Program} {w : World} {t z by_ : Nat} {zero : Value} {p : Addr} {cs : List Value} (he : Elem P t z by_ zero) (ha : Jc9 P t = true) (hl : cs.length = z) (hc : ∀ j u, cs[j]? = some u -> w.cell? (p.add j) = some u) :
  (loadVar t p).run P w = .ok (.agg cs.toArray) w := by
 obtain ⟨inf, i1, i2, i3, i4⟩ := he.ex; have h := run_loadCells_list (P := P) w p cs hc; rw [hl] at h; simp [loadVar, Sem.run_bind, Jip ha, sizeOf, typeInfo, i1, i3, h]
theorem JS {b : Nat} {w : World} {e z g : Nat} {cs : List Value} (h : Own b w e z (some ⟨g, 0, none⟩) 1 1 cs) : ∀ j u, cs[j]? = some u -> w.cell? ((⟨g, 0, none⟩ : Addr).add j) = some u := fun j u hu => h.rd.at_ hu
def YH (P : Program) (t f off : Nat) : Bool :=
  match P.underlying t with
  | some (.struct fs) =>
    match fs[f]? with
    | some fd => fd.offset == off && (match P.info? fd.type with | some i => i.size != 0 | none => false)
    | none => false
  | _ => false
theorem Jcc {P : Program} {w : World} {t f off : Nat} {p : Addr} (h : YH P t f off = true) : (Instr.fieldAt t (.pointer (some p)) f).run P w = .ok (.pointer (some (p.add off))) w := by
 unfold YH at h; split at h
 .rename_i fs hu
  split at h
  .rename_i fd hfd
   simp only [Bool.and_eq_true, beq_iff_eq] at h; obtain ⟨ho, hk⟩ := h; subst ho; cases hi : P.info? fd.type with
   | none => rw [hi] at hk; cases hk
   | some i =>
    rw [hi] at hk; have hk' : i.size ≠ 0 := by simpa using hk
    simp [Instr.fieldAt, run_underlying hu, hfd, Instr.sureAddr, fieldPlace, sizeOf, typeInfo, hi, hk']
  .cases h
 .cases h
theorem Jba (w : World) (t z : Nat) (cs : Array Value) (hz : cs.size = z) : Own w.heap.size (w.alloc (.cells cs t)) t z (some ⟨w.heap.size, 0, none⟩) 1 1 cs.toList :=
 World.ownsRow_lit (e := t) (size := z) w cs 1 (Nat.le_refl _) (by simp [maxLen]) (by simpa using hz)
section
variable {P : Program} {n : Nat} {ro : Option Nat} {df : List Deferred} {N : JD} {L : Fr} {w : World} {ops : Array Oper} {rest : List Oper}
variable {d : Nat} {ty : TypeId} {pos : String} {af : Array Edge}
theorem WL.alloc {t z by_ : Nat} {zero : Value} (he : Elem P t z by_ zero) (hn : Nat.blt d n = true)
  (h : ∀ g w', g = w.heap.size -> Own w.heap.size w' t z (some ⟨g, 0, none⟩) 1 1 zero.cells.toList -> w.grownBy w' none -> WL P n ro df ops rest N ((d, .pointer (some ⟨g, 0, none⟩)) :: L) w') :
  WL P n ro df ops (⟨some d, .alloc t, ty, pos, af, none⟩ :: rest) N L w := by
 obtain ⟨inf, i1, i2, i3, i4⟩ := he.ex; refine WL.val rfl rfl hn (fun a ha => ?_) (h _ _ rfl (Jba w t z zero.cells he.zs) (World.grownBy_alloc w _ none)); simp [execOp, Instr.alloc, zeroValue, typeInfo, i1, i2, newVar, newRow]
theorem WL.box {x : Operand} {t z by_ : Nat} {zero : Value} {cs : Array Value} (he : Elem P t z by_ zero) (hx : ev L x = some (.agg cs)) (hz : cs.size = z) (hn : Nat.blt d n = true)
  (h : ∀ g w', g = w.heap.size -> Own w.heap.size w' t z (some ⟨g, 0, none⟩) 1 1 cs.toList -> w.grownBy w' none -> WL P n ro df ops rest N ((d, .pointer (some ⟨g, 0, none⟩)) :: L) w') :
  WL P n ro df ops (⟨some d, .box t x, ty, pos, af, none⟩ :: rest) N L w := by
 refine WL.val rfl rfl hn (fun a ha => ?_) (h _ _ rfl (Jba w t z cs hz) (World.grownBy_alloc w _ none)); simp [execOp, ha.ev hx, Instr.box, newVar, newRow, Value.cells]
theorem Z2 {x : Operand} {t z by_ : Nat} {zero : Value} {p : Addr} {cs : List Value} (he : Elem P t z by_ zero) (hag : Jc9 P t = true) (hx : ev L x = some (.pointer (some p))) (hl : cs.length = z) (hc : ∀ j u, cs[j]? = some u -> w.cell? (p.add j) = some u)
  (hn : Nat.blt d n = true) (h : WL P n ro df ops rest N ((d, .agg cs.toArray) :: L) w) : WL P n ro df ops (⟨some d, .load t x, ty, pos, af, none⟩ :: rest) N L w :=
 WL.val rfl rfl hn (fun a ha => by simp [execOp, ha.ev hx, Instr.loadAt, Instr.sureAddr, Qp he hag hl hc]) h
theorem Jc {x : Operand} {t f off : Nat} {p : Addr} (hF : YH P t f off = true) (hx : ev L x = some (.pointer (some p))) (hn : Nat.blt d n = true)
  (h : WL P n ro df ops rest N ((d, .pointer (some (p.add off))) :: L) w) : WL P n ro df ops (⟨some d, .fieldAddr t x f, ty, pos, af, none⟩ :: rest) N L w :=
 WL.val rfl rfl hn (fun a ha => by simp [execOp, ha.ev hx, Jcc hF]) h
theorem Jhf {x y : Operand} {t e z by_ b g : Nat} {zero : Value} {cells : Array Value} {old : List Value} (he : Elem P t z by_ zero) (hx : ev L x = some (.pointer (some ⟨g, 0, none⟩))) (hy : ev L y = some (.agg cells)) (hz : cells.size = z)
  (h1 : cells.toList.all (·.oneCell') = true) (hO : Own b w e z (some ⟨g, 0, none⟩) 1 1 old)
  (h : ∀ w', Own b w' e z (some ⟨g, 0, none⟩) 1 1 cells.toList -> w.grownBy w' (bl (some ⟨g, 0, none⟩)) -> WL P n ro df ops rest N L w') : WL P n ro df ops (⟨none, .store t x y, ty, pos, af, none⟩ :: rest) N L w := by
 obtain ⟨inf, i1, i2, i3, i4⟩ := he.ex; obtain ⟨hl, hO2⟩ := hO; rcases hO2 with ⟨hx0, _⟩ | ⟨g', cap, cur, hg1, hg2, hg3, hg4, hg5, hg6, hg7⟩
 .cases hx0
 .cases hg1; have hcz : cur.size = cells.size := by rw [hg6, hz, Nat.one_mul]
  have hrun := run_storeVar_row (P := P) w g e t cur cells hg3 (by simp [i1, i3, hz]) hcz (by rw [<- Array.all_toList]; exact h1); refine Jex (w' := w.setRow g cells) rfl rfl (fun a ha => by simp [execOp, ha.ev hx, ha.ev hy, Instr.storeAt, Instr.sureAddr, hrun]) (h _ ?_ ?_)
  .refine ⟨by simp [hz], .inr ⟨g, 1, cells, rfl, hg2, setRow_heap w g cur cells e _ hg3, Nat.le_refl _, by simp [maxLen], by simp [hz], ?_⟩⟩; rw [Nat.one_mul, <- hz, <- Array.length_toList, List.take_length]
  .refine ⟨rfl, rfl, rfl, Nat.le_of_eq (setRow_size w g cells).symm, fun k hk hr => setRow_other w g k cells (fun e => hr (by rw [e]; rfl))⟩
theorem Jjj {x : Operand} {f : FuncId} {fn : Func} {c : Code} {xs : List Operand} {ts : Array TypeId} {vs cs : List Value} {R : Value -> World -> Prop} (hfv : ev L x = some (.func (.func f) #[] cs.toArray)) (hf : P.funcs[f]? = some fn) (hb : fn.body = some c) (hnm : (fn.name == "runtime.NumGoroutine") = false)
    (hx : evs L xs = some vs) (hn : Nat.blt d n = true)
    (hc : Calls P f (vs ++ cs).toArray w fun e w' => ∃ v, e = .returned v /\ R v w') (h : ∀ v w', R v w' -> WL P n ro df ops rest N ((d, v) :: L) w') :
    WL P n ro df ops (⟨some d, .call ⟨.value x, xs.toArray, ts⟩, ty, pos, af, none⟩ :: rest) N L w := by
  refine Jde rfl rfl hn (fun a ha => ?_) hc h
  have hm := ha.evs hx
  have hfe := ha.ev hfv
  have hnm' : ¬ fn.name = "runtime.NumGoroutine" := by simpa using hnm
  simp only [execOp, resolve, Sem.run_bind]
  simp [Deferred.ofValue, hfe, invoke, callFunc, hm, program, Sem.run, hf, hb, hnm']
theorem Q3 {f : FuncId} {xs : List Operand} {vs : List Value} (hx : evs L xs = some vs) (hn : Nat.blt d n = true) (h : WL P n ro df ops rest N ((d, .func (.func f) #[] vs.toArray) :: L) w) :
  WL P n ro df ops (⟨some d, .makeFunc (.func f) #[] xs.toArray, ty, pos, af, none⟩ :: rest) N L w :=
 WL.val rfl rfl hn (fun a ha => by
  have hm := ha.evs hx; simp [execOp, hm, Instr.makeFunc]) h
theorem JY {x : Operand} {p : Addr} (hx : ev L x = some (.pointer (some p))) (hn : Nat.blt d n = true) (h : WL P n ro df ops rest N ((d, .pointer (some p)) :: L) w) :
  WL P n ro df ops (⟨some d, .nilCheck x, ty, pos, af, none⟩ :: rest) N L w :=
 WL.val rfl rfl hn (fun a ha => by simp [execOp, ha.ev hx, Instr.sureAddr]) h
end

def Jdx (P : Program) (L : Fr) (w : World) : List ResultVar -> List Value -> Prop
  | [], vs => vs = []
  | .tmp t :: r, vs => ∃ v us, vs = v :: us /\ lk L t = some v /\ Jdx P L w r us
  | .cell a ty :: r, vs => ∃ p v us, vs = v :: us /\ lk L a = some (.pointer (some p)) /\ (loadVar ty p).run P w = .ok v w /\ Jdx P L w r us
def Jdw : List Value -> Value
  | [v] => v
  | vs => .tuple vs.toArray
def endCN (P : Program) (res : List ResultVar) (R : Value -> World -> Prop) : JD := fun df L w => Fin df w fun w => ∃ vs, Jdx P L w res vs /\ R (Jdw vs) w
def endC (P : Program) (res : List ResultVar) (R : Value -> World -> Prop) : JN
  | .ret, df, L, w => Fin df w fun w => ∃ vs, Jdx P L w res vs /\ R (Jdw vs) w
  | _, _, _, _ => False
theorem ZJ {P : Program} {a : Act} {n : Nat} {df : List Deferred} {L : Fr} {w : World} (ha : Has n df a L) (g : ResultVar -> Sem Value) (hg : ∀ t, g (.tmp t) = pure (a.tmps.getD t undef)) (hg2 : ∀ p t, g (.cell p t) = (do loadVar t (<- asAddr (a.tmps.getD p undef)))) :
  ∀ (res : List ResultVar) (vs : List Value), Jdx P L w res vs -> (List.mapM g res).run P w = .ok vs w
 | [], vs, h => by cases h; rfl
 | .tmp t :: r, vs, h => by
  obtain ⟨v, us, rfl, h1, h2⟩ := h; have ih := ZJ ha g hg hg2 r us h2; have hv : a.tmps.getD t undef = v := by simp [Array.getD_eq_getD_getElem?, ha.at_ t v h1]
  rw [List.mapM_cons, Sem.run_bind, hg, Sem.run_pure, Result.andThen_ok, Sem.run_bind, ih, hv]; rfl
 | .cell p ty :: r, vs, h => by
  obtain ⟨q, v, us, rfl, h1, h2, h3⟩ := h; have ih := ZJ ha g hg hg2 r us h3; have hv : a.tmps.getD p undef = .pointer (some q) := by simp [Array.getD_eq_getD_getElem?, ha.at_ p _ h1]
  rw [List.mapM_cons, Sem.run_bind, hg2, hv]; have : (do loadVar ty (<- asAddr (.pointer (some q))) : Sem Value).run P w = .ok v w := by simp [asAddr, h2]
  rw [this, Result.andThen_ok, Sem.run_bind, ih]; rfl
theorem YG {P : Program} {fn : Func} {res : List ResultVar} {a : Act} {n : Nat} {df : List Deferred} {L : Fr} {vs : List Value} {w : World} (hres : fn.results = res.toArray) (ha : Has n df a L) (hv : Jdx P L w res vs) : (results fn a.tmps).run P w = .ok (Jdw vs) w := by
 unfold results; rw [Sem.run_bind, hres, List.mapM_toArray, Sem.run_map, ZJ ha _ (fun _ => rfl) (fun _ _ => rfl) res vs hv]; simp only [Result.andThen_ok]
 match vs with
 | [] => simp [Jdw]
 | [v] => simp [Jdw]
 | v :: u :: us => simp [Jdw]
theorem Q0 {P : Program} {f : FuncId} {fn : Func} {c : Code} {n : Nat} {vs : List Value} {R : Value -> World -> Prop} {w : World} (res : List ResultVar) (hf : P.funcs[f]? = some fn) (hb : fn.body = some c) (hn : fn.ntmps = n)
  (hres : fn.results = res.toArray) (hle : Nat.ble vs.length n = true) (h : W P n none [] c (endCN P res R) (endC P res R) (Jax 0 vs) w) : Calls P f vs.toArray w fun e w' => ∃ v, e = .returned v /\ R v w' := by
 have hle' : vs.length <= n := by simpa [Nat.ble_eq] using hle
 refine (callsIn_wide (n := 0)).1 (callsIn_of_wp_marks hf hb trivial (wpIn_mono (F := Fence.wide) (h.out _ ⟨rfl, by simp [hn]; omega, fun t v hv => ?_⟩) fun e a w' q => ?_))
 .obtain ⟨_, h2⟩ := Jc8 vs 0 t v hv; have ht : t < vs.length := (List.getElem?_eq_some_iff.1 h2).1; rw [Array.getElem?_append_left (by simpa using ht)]
  simpa using h2
 .cases e with
  | normal =>
   obtain ⟨df, L, hL, hR⟩ := q; show LeavesInM _ _ _ _ _ _ a.defers _ _; rw [hL.nd]; exact Fin.leaves hR fun w2 ⟨us, hv, h2⟩ => ⟨_, YG hres hL hv, h2⟩
  | ret =>
   obtain ⟨df, L, hL, hR⟩ := q; show LeavesInM _ _ _ _ _ _ a.defers _ _; rw [hL.nd]; exact Fin.leaves hR fun w2 ⟨us, hv, h2⟩ => ⟨_, YG hres hL hv, h2⟩
  | _ => obtain ⟨df, L, _, h⟩ := q; exact h.elim
end Go.Proofs.Ytgcdbnpenhclfaa
namespace Go.Proofs.Ytgcdbnpenhclfaa
open Go.RowKit
end Go.Proofs.Ytgcdbnpenhclfaa
namespace Go.Proofs.Ytgcdbnpenhclfaa
open Go.RowKit
/-- A scope that no jump leaves. -/
def ng (B : JN) : JN
  | .goto _, _, _, _ => False
  | e, df, L, w => B e df L w
section
variable {P : Program} {n : Nat} {ro : Option Nat} {df : List Deferred} {N : JD} {B : JN} {L : Fr} {w : World}
theorem Jk0 {c : Code} (h : W P n none df c N (ng B) L w) : W P n none df (.scope c) N B L w :=
 ⟨fun a ha => wpIn_wide.2 (wp_scope_straight (wp_mono (wpIn_wide.1 (h.out a ha)) fun e a' w' q => by
  cases e with
  | goto l => obtain ⟨_, L', h1, h2⟩ := q; exact h2.elim
  | normal => exact q
  | exit id => exact q
  | ret => exact q
  | panic ch => exact q
  | outgrown => exact q))⟩
theorem Jk3 {l : Nat} (h : N df L w) : W P n ro df (.label l) N B L w := ⟨fun a ha => wpIn_label ⟨_, L, ha, h⟩⟩
end
/-- Arrays as values: one cell an entry. -/
def Jha (P : Program) (t n : Nat) : Bool :=
  match P.underlying t with
  | some (.array m e) => m == n && (match P.underlying e with | some (.struct _) => false | some (.array _ _) => false | some _ => true | none => false) && (match P.info? e with | some i => i.size == 1 | none => false)
  | _ => false
theorem Jdv {P : Program} {w : World} {t n j : Nat} {cs : Array Value} {v : Value} {k : IntKind} {J : Int} (h : Jha P t n = true) (hJ : J = j) (hj : j < n) (hv : cs[j]? = some v) : (Instr.index t (.agg cs) (.int k J)).run P w = .ok v w := by
 unfold Jha at h; split at h
 .rename_i m e hu
  simp only [Bool.and_eq_true, beq_iff_eq] at h; obtain ⟨⟨hm, hk⟩, hs⟩ := h; subst hm; cases hi : P.info? e with
  | none => rw [hi] at hs; cases hs
  | some it =>
   rw [hi] at hs; simp only [beq_iff_eq] at hs; cases hD : P.underlying e with
   | none => rw [hD] at hk; cases hk
   | some D =>
    rw [hD] at hk; have hag : (isAgg e).run P w = .ok false w := by
     simp only [isAgg, Sem.run_bind, run_underlying hD, Result.andThen_ok]; cases D <;> simp_all
    have h1 : 0 <= J /\ J < (m : Int) := by omega
    simp [Instr.index, asIntOf, run_underlying hu, h1, sizeOf, typeInfo, hi, hs, part, hag, hJ, hv, hj]
 .cases h
section
variable {P : Program} {n : Nat} {ro : Option Nat} {df : List Deferred} {N : JD} {L : Fr} {w : World} {ops : Array Oper} {rest : List Oper}
variable {d : Nat} {ty : TypeId} {pos : String} {af : Array Edge}
theorem Jhh {x i : Operand} {t m : Nat} {cs : Array Value} {v : Value} {k : IntKind} {J : Int} (j : Nat) (hA : Jha P t m = true) (hx : ev L x = some (.agg cs)) (hi : ev L i = some (.int k J)) (hJ : J = j) (hj : j < m) (hv : cs[j]? = some v) (hn : Nat.blt d n = true)
  (h : WL P n ro df ops rest N ((d, v) :: L) w) : WL P n ro df ops (⟨some d, .index t x i, ty, pos, af, none⟩ :: rest) N L w :=
 WL.val rfl rfl hn (fun a ha => by simp [execOp, ha.ev hx, ha.ev hi, Jdv hA hJ hj hv]) h
theorem Jaz {t : Nat} {cells : Array Value} {parts : List (Nat × Operand)} {vs : List Value} (hx : evs L (parts.map (·.2)) = some vs)
  (hf : P.built t ((parts.map (·.1)).zip vs) = some cells) (hn : Nat.blt d n = true)
  (h : WL P n ro df ops rest N ((d, .agg cells) :: L) w) : WL P n ro df ops (⟨some d, .build t parts.toArray, ty, pos, af, none⟩ :: rest) N L w := by
 refine WL.val rfl rfl hn (fun a ha => ?_) h; have hm := ha.evs hx; have hz : (parts.map fun x => (x.1, a.eval x.2)) = (parts.map (·.1)).zip vs := by
  rw [<- hm]; clear hm hf hx
  induction parts with
  | nil => rfl
  | cons p l ih => simp [ih]
 have hb : P.built t (parts.map fun x => (x.1, a.eval x.2)) = some cells := by rw [hz]; exact hf
 have := run_build (P := P) w t (parts.map fun x => (x.1, a.eval x.2)).toArray cells (by simpa using hb); simp [execOp] at this ⊢; simp [this]
end
end Go.Proofs.Ytgcdbnpenhclfaa
namespace Go.Proofs.Ytgcdbnpenhclfaa
open Go.RowKit
/-! ### loops over functions -/
/-- It abides whatever is not cells and lies from B on. -/
def Jey (B : Nat) (I : World -> Prop) : Prop := ∀ W W' row, I W -> W.grownBy W' row -> (∀ r, row = some r -> B <= r /\ ∃ o : Obj, W.heap[r]? = some o /\ o.isCells = false) -> I W'
def Grows (J : World -> Prop) : Prop := ∀ W W', J W -> W.grownBy W' none -> J W'
/-- An iterator that yields cnt times, as far as the loop goes: M: what it reads of the memory, yv: what it yields. -/
def SeqJ (P : Program) (gf : Nat) (lb : Array Value) (M : World -> Prop) (yv : Nat -> Array Value -> World -> Prop) (cnt : Nat) (w : World) : Prop :=
  ∀ (l : Nat) (J Jx : Nat -> World -> Prop) (W : World), Below w.heap.size w W -> (∀ i, Grows (J i)) -> (∀ i, Grows (Jx i)) -> (∀ i W1, J i W1 -> M W1) ->
    (∀ i x W1, J i W1 -> i < cnt -> yv i x W1 -> YieldAt Fence.wide 0 P l x W1 fun e W' =>
      (e = .returned (.bool true) /\ J (i + 1) W') ∨ (e = .returned (.bool false) /\ Jx (i + 1) W')) ->
    J 0 W ->
    Calls P gf (#[.func (.yield l) #[] #[]] ++ lb) W fun e W' => ∃ v, e = .returned v /\ (J cnt W' ∨ ∃ i, i <= cnt /\ Jx i W')
section
variable {P : Program} {n : Nat} {ro : Option Nat} {df : List Deferred} {N : JD} {L : Fr} {w : World} {ops : Array Oper} {rest : List Oper}
variable {d : Nat} {ty : TypeId} {pos : String} {af : Array Edge}
/-- The call of yield. -/
theorem Jda {x : Operand} {l : Nat} {xs : List Operand} {ts : Array TypeId} {vs : List Value} {R : Ending -> World -> Prop} (hfv : ev L x = some (.func (.yield l) #[] #[])) (hx : evs L xs = some vs) (hn : Nat.blt d n = true)
    (hy : YieldAt Fence.wide 0 P l vs.toArray w R) (hR : ∀ e w', R e w' -> ∃ v, e = .returned v) (h : ∀ v w', R (.returned v) w' -> WL P n ro df ops rest N ((d, v) :: L) w') :
    WL P n ro df ops (⟨some d, .call ⟨.value x, xs.toArray, ts⟩, ty, pos, af, none⟩ :: rest) N L w := by
  obtain ⟨fn, tmps, assign, body, hrun, hround⟩ := hy
  refine ⟨fun a ha B => wpListIn_plain rfl fun K hK => ?_⟩
  have hm := ha.evs hx
  have hfe := ha.ev hfv
  have hr : (execOp a.eval (⟨some d, .call ⟨.value x, xs.toArray, ts⟩, ty, pos, af, none⟩ : Oper)).run P w = .ok (.round l fn tmps assign body) w := by
    simp only [execOp, resolve, Sem.run_bind]
    simp [Deferred.ofValue, hfe, invoke, hm, hrun]
  unfold Oper.wpIn
  refine ⟨fun _ _ => trivial, ?_⟩
  rw [Oper.semAt_eq _ _ _ (J9 hr (fun _ h => by cases h)), hr, Oper.uponIn_round]
  refine ⟨fun hh => absurd hh (by simp [Qh]), ?_⟩
  have hround' : RoundIn (Qh ro) (0 - 1) P l fn tmps assign body w R := hround
  refine hround'.mono fun e w' he => ?_
  obtain ⟨v, rfl⟩ := hR e w' he
  exact hK _ _ ((h v w' he).out _ (ha.put (by simpa [Nat.blt_eq] using hn) v) B)
end
def Jcf : List Nat -> List Value -> Fr -> Fr
  | p :: ps, v :: vs, L => Jcf ps vs ((p, v) :: L)
  | _, _, L => L
theorem Jfg {n : Nat} {df : List Deferred} : ∀ (ps : List Nat) (vs : List Value) (a : Act) (L : Fr), Has n df a L -> (∀ p ∈ ps, p < n) -> Has n df { a with tmps := (ps.zip vs).foldl (fun t (p, v) => t.setIfInBounds p v) a.tmps } (Jcf ps vs L)
 | [], _, a, L, h, _ => by simpa [Jcf] using h
 | p :: ps, [], a, L, h, _ => by simpa [Jcf] using h
 | p :: ps, v :: vs, a, L, h, hp => by
  have := Jfg ps vs (a.put (some p) v) ((p, v) :: L) (h.put (hp p (List.mem_cons_self ..)) v) (fun q hq => hp q (List.mem_cons_of_mem _ hq))
  simpa [Jcf, Act.put] using this
/-- What an end of a round's body lets follow behind the loop. -/
def exits (B : JN) (df : List Deferred) (L : Fr) (w : World) : Exit -> Prop
  | .ret => B .ret df L w
  | .exit id => B (.exit id) df L w
  | _ => False
def JT : Exit -> Bool
  | .ret => true
  | .exit _ => true
  | _ => false
theorem JW {B : Nat} {I : World -> Prop} (h : Jey B I) {W : World} {l : Nat} {o : Obj} (o' : Obj) (hs : I W) (hB : B <= l) (hl : W.heap[l]? = some o) (ho : o.isCells = false) : I (W.putObj l o') :=
 h W _ (some l) hs (grownBy_putObj' W l o') (fun r e => by cases e; exact ⟨hB, o, hl, ho⟩)
theorem ZI {B : Nat} {I : World -> Prop} (h : Jey B I) {W W' : World} (hs : I W) (hg : W.grownBy W' none) : I W' := h W W' none hs hg (fun r e => by cases e)
theorem Jk1 {P : Program} {n : Nat} {df : List Deferred} {N : JD} {B : JN} {L : Fr} {w : World} {g : Operand} {ps : List Nat} {assign body : Code} {gf : Nat} {fn : Func} {c : Code} {lb : Array Value} {M : World -> Prop} {yv : Nat -> Array Value -> World -> Prop} {cnt : Nat} {w0 : World}
  (hg : ev L g = some (.func (.func gf) #[] lb)) (hf : P.funcs[gf]? = some fn) (hfb : fn.body = some c) (hnm : (fn.name == "runtime.NumGoroutine") = false)
  (hseq : SeqJ P gf lb M yv cnt w0) (hb0 : Below w0.heap.size w0 w) (hps : ∀ i x W, yv i x W -> x.size = ps.length) (hyv : ∀ i x, Jey w.heap.size (yv i x)) (hpn : ∀ p ∈ ps, p < n)
  (I : Nat -> World -> Prop) (IX : Exit -> Nat -> World -> Prop) (hI : ∀ i, Jey w.heap.size (I i)) (hIX : ∀ e i, Jey w.heap.size (IX e i)) (h0 : I 0 w) (hM : ∀ i W1, I i W1 -> M W1) (fr : List Value -> Fr)
  (asg : ∀ (l : Nat) (vs : List Value) (W1 : World), vs.length = ps.length -> W P n (some l) [] assign (fun d' L' w' => d' = [] /\ w' = W1 /\ sub (fr vs) L') (fun _ _ _ _ => False) (Jcf ps vs L) W1)
  (rnd : ∀ (l i : Nat) (x : Array Value) (W1 : World), i < cnt -> yv i x W1 -> I i W1 -> W P n (some l) [] body (fun _ _ w' => KeepsOthers W1 w' /\ I (i + 1) w') (fun e _ _ w' => JT e = true /\ KeepsOthers W1 w' /\ IX e (i + 1) w') (fr x.toList) W1)
  (done : ∀ (D : Nat) (w1 : World), w.heap.size <= D -> I cnt w1 -> w1.heap[D]? = some (.deferred (some [])) -> N ({ target := .collected D, args := #[] } :: df) L w1)
  (stop : ∀ (D : Nat) (e : Exit) (i : Nat) (w1 : World), w.heap.size <= D -> i <= cnt -> JT e = true -> IX e i w1 -> w1.heap[D]? = some (.deferred (some [])) -> exits B ({ target := .collected D, args := #[] } :: df) L w1 e) :
  W P n none df (.rangeFunc g ps.toArray assign body) N B L w := by
 refine ⟨fun a ha => wpIn_rangeFunc fun fnid _ => ?_⟩; have hev := ha.ev hg; obtain ⟨rec, hrec⟩ : ∃ rec : LoopState -> Option Code -> Loop, rec = fun st pe => { state := st, pending := pe, fn := fnid, tmps := a.tmps, params := ps.toArray, assign, body, defers := w.heap.size } := ⟨_, rfl⟩
 obtain ⟨W1, hW1⟩ : ∃ W1, (w.alloc (.deferred (some []))).alloc (.loop (rec .ready none)) = W1 := ⟨_, rfl⟩
 have hL1 : W1.heap[w.heap.size + 1]? = some (.loop (rec .ready none)) := by
  rw [<- hW1]; have := World.alloc_heap_new (w.alloc (.deferred (some []))) (.loop (rec .ready none)); rwa [World.size_alloc] at this
 have hK1 : W1.heap[w.heap.size]? = some (.deferred (some [])) := by
  rw [<- hW1]; exact (Below.heap_alloc _ _ _ (by simp)).trans (World.alloc_heap_new w _)
 have hg1 : w.grownBy W1 none := by rw [<- hW1]; exact Za (World.grownBy_alloc w _ none) (World.grownBy_alloc _ _ none)
 have hb1 : Below w0.heap.size w0 W1 := by
  rw [<- hW1]; exact hb0.trans ((((Below.refl _ w).alloc (Nat.le_refl _) _).alloc (by simp) _).mono hb0.size)
 have ecall : ∀ args W, (callFunc gf args).run P W = .ok (.enter gf args) W := fun args W => by
  have hnm' : ¬ fn.name = "runtime.NumGoroutine" := by simpa using hnm
  simp [callFunc, Sem.run_bind, program, Sem.run, hf, hfb, hnm']
 refine ⟨w.heap.size + 1, [{ target := .collected w.heap.size, args := #[] }], W1, { target := .fn (.func gf) lb, args := #[.func (.yield (w.heap.size + 1)) #[] #[]] }, W1, gf,
  #[.func (.yield (w.heap.size + 1)) #[] #[]] ++ lb, W1, ?_, ?_, fun _ _ => trivial, ?_, fun hh => absurd hh (by simp [Qh]), ?_⟩
 .rw [<- hW1, hrec]; exact run_enterLoop_outer _ _ _ _ _
 .simp only [resolve, hev]; simp [go_sem]
 .simp [invoke, go_sem, ecall]
 .have hcall := hseq (w.heap.size + 1)
   (fun i W => I i W /\ W.heap[w.heap.size + 1]? = some (.loop (rec .ready none)) /\ W.heap[w.heap.size]? = some (.deferred (some [])))
   (fun i W => ∃ e : Exit, ∃ cd : Code, JT e = true /\ (cd = (match e with | .ret => Code.ret | .exit id => .exit id | _ => .skip)) /\ IX e i W /\ W.heap[w.heap.size + 1]? = some (.loop (rec .done (some cd))) /\ W.heap[w.heap.size]? = some (.deferred (some [])))
   W1 hb1
   (fun i A B ⟨h1, h2, h3⟩ hg' => ⟨ZI (hI i) h1 hg', (hg'.block _ (Array.getElem?_eq_some_iff.1 h2).1 (by simp)).trans h2, (hg'.block _ (Array.getElem?_eq_some_iff.1 h3).1 (by simp)).trans h3⟩)
   (fun i A B ⟨e, cd, h0, h0', h1, h2, h3⟩ hg' => ⟨e, cd, h0, h0', ZI (hIX e i) h1 hg', (hg'.block _ (Array.getElem?_eq_some_iff.1 h2).1 (by simp)).trans h2, (hg'.block _ (Array.getElem?_eq_some_iff.1 h3).1 (by simp)).trans h3⟩)
   (fun i A h => hM i A h.1) ?_ ⟨ZI (hI 0) h0 hg1, hL1, hK1⟩
  .refine ((callsIn_wide (n := 0 - 1)).2 hcall).mono ?_; rintro e W2 ⟨v, rfl, ⟨hi, hl, hk⟩ | ⟨i, hil, e, cd, he, hcd, hi, hl, hk⟩⟩
   .refine ⟨none, _, by have := run_endLoop (P := P) hl (by rw [hrec]; simp); rw [hrec] at this; exact this, ?_⟩; refine ⟨_, L, ⟨by simp [ha.nd], ha.sz, ha.at_⟩, done _ _ (Nat.le_refl _) (JW (hI _) _ hi (by omega) hl rfl) ((World.putObj_heap_other (by omega)).trans hk)⟩
   .refine ⟨some cd, _, by have := run_endLoop (P := P) hl (by rw [hrec]; simp); rw [hrec] at this; exact this, ?_⟩; have hst := stop w.heap.size e i _ (Nat.le_refl _) hil he (JW (hIX e i) (.loop { rec .done (some cd) with state := .exhausted }) hi (by omega) hl rfl) ((World.putObj_heap_other (by omega)).trans hk); subst hcd; cases e with
    | exit id => exact wpIn_exit ⟨{ target := .collected w.heap.size, args := #[] } :: df, L, ⟨by simp [ha.nd], ha.sz, ha.at_⟩, by rw [hrec] at hst; exact hst⟩
    | ret => exact wpIn_ret ⟨{ target := .collected w.heap.size, args := #[] } :: df, L, ⟨by simp [ha.nd], ha.sz, ha.at_⟩, by rw [hrec] at hst; exact hst⟩
    | _ => simp [JT] at he
  .rintro i x W ⟨hi, hl, hk⟩ hic hx; have hlt : w.heap.size + 1 < W.heap.size := (Array.getElem?_eq_some_iff.1 hl).1; have hxs : x.size = ps.length := hps i x W hx; have hy := run_yield (P := P) (args := x) hl (by rw [hrec]; simpa using hxs); rw [hrec] at hy; refine ⟨fnid, _, assign, body, hy, roundIn_of_wpIn trivial ?_⟩; have hpar : Has n [] { tmps := (ps.toArray.zip x).foldl (fun t (p, v) => t.setIfInBounds p v) a.tmps, defers := [] } (Jcf ps x.toList L) := by
    have := Jfg ps x.toList { a with defers := [] } L ⟨rfl, ha.sz, ha.at_⟩ hpn; have e : (ps.toArray.zip x).foldl (fun t (p, v) => t.setIfInBounds p v) a.tmps = (ps.zip x.toList).foldl (fun t (p, v) => t.setIfInBounds p v) a.tmps := by
     rw [<- Array.foldl_toList, Array.toList_zip]
    rw [e]; exact this
   refine wpIn_mono ((asg (w.heap.size + 1) x.toList W (by simpa using hxs)).out _ hpar) ?_; rintro e a3 W3 hq; cases e with
   | normal =>
    obtain ⟨d', L', hL', rfl, rfl, hsub⟩ := hq; refine ⟨_, run_beginRound hl (by rw [hrec]), ?_⟩; have hl2 : (W3.putObj (w.heap.size + 1) (.loop { rec .ready none with state := .busy })).heap[w.heap.size + 1]? = some (.loop { rec .ready none with state := .busy }) := World.putObj_heap_same hlt; have hk2 : (W3.putObj (w.heap.size + 1) (.loop { rec .ready none with state := .busy })).heap[w.heap.size]? = some (.deferred (some [])) := (World.putObj_heap_other (by omega)).trans hk; refine wpIn_mono ((rnd (w.heap.size + 1) i x _ hic (JW (hyv i x) _ hx (by omega) hl rfl) (JW (hI i) _ hi (by omega) hl rfl)).out _ (hL'.sub hsub)) ?_; have fin : ∀ (jump : Option Code) (W4 : World), KeepsOthers (W3.putObj (w.heap.size + 1) (.loop { rec .ready none with state := .busy })) W4 ->
      (Instr.endRound (w.heap.size + 1) jump).run P W4 = .ok (.bool jump.isNone) (W4.putObj (w.heap.size + 1) (.loop (rec (if jump.isNone then .ready else .done) jump))) /\
      W4.heap[w.heap.size + 1]? = some (.loop { rec .ready none with state := .busy }) /\
      (W4.putObj (w.heap.size + 1) (.loop (rec (if jump.isNone then .ready else .done) jump))).heap[w.heap.size + 1]? = some (.loop (rec (if jump.isNone then .ready else .done) jump)) /\
      (W4.putObj (w.heap.size + 1) (.loop (rec (if jump.isNone then .ready else .done) jump))).heap[w.heap.size]? = some (.deferred (some [])) := fun jump W4 hk3 => by
     have hl3 := hk3.same _ _ hl2 rfl; have := run_endRound (P := P) jump hl3; rw [hrec] at this ⊢; exact ⟨this, by rw [hrec] at hl3; exact hl3, World.putObj_heap_same (Array.getElem?_eq_some_iff.1 hl3).1, (World.putObj_heap_other (by omega)).trans (hk3.same _ _ hk2 rfl)⟩
    rintro e a4 W4 hp; cases e with
    | normal =>
     obtain ⟨_, _, _, hk3, hi3⟩ := hp; obtain ⟨hr, hl3, hl4, hk4⟩ := fin none W4 hk3; exact ⟨_, _, hr, .inl ⟨rfl, JW (hI _) _ hi3 (by omega) hl3 rfl, hl4, hk4⟩⟩
    | ret =>
     obtain ⟨_, _, _, he, hk3, hi3⟩ := hp; obtain ⟨hr, hl3, hl4, hk4⟩ := fin (some .ret) W4 hk3; exact ⟨_, _, hr, .inr ⟨rfl, .ret, .ret, rfl, rfl, JW (hIX _ _) _ hi3 (by omega) hl3 rfl, hl4, hk4⟩⟩
    | exit id =>
     obtain ⟨_, _, _, he, hk3, hi3⟩ := hp; obtain ⟨hr, hl3, hl4, hk4⟩ := fin (some (.exit id)) W4 hk3; exact ⟨_, _, hr, .inr ⟨rfl, .exit id, .exit id, rfl, rfl, JW (hIX _ _) _ hi3 (by omega) hl3 rfl, hl4, hk4⟩⟩
    | goto t => obtain ⟨_, _, _, he, _⟩ := hp; exact absurd he (by simp [JT])
    | panic ch => obtain ⟨_, _, _, he, _⟩ := hp; exact absurd he (by simp [JT])
    | outgrown => obtain ⟨_, _, _, he, _⟩ := hp; exact absurd he (by simp [JT])
   | _ => obtain ⟨_, _, _, h⟩ := hq; exact h
end Go.Proofs.Ytgcdbnpenhclfaa
namespace Go.Proofs.Ytgcdbnpenhclfaa
open Go.RowKit
/-! ### memory of the call's own, as one assertion -/
/-- A row (or a variable); a piece of memory between two blocks that is only read; what came in; blocks of the call's own, and what they hold. -/
inductive Rw
  | row (e z : Nat) (A : Option Addr) (m c : Nat) (cs : List Value)
  | ch (lo hi : Nat) (Pr : World -> Prop)
  | ro (z : Nat) (A : Option Addr) (m c : Nat) (cs : List Value)
  | mu (D : Nat -> Prop) (Pr : World -> Prop)
/-- It speaks of the blocks between lo and hi alone. -/
def Jjn (lo hi : Nat) (Pr : World -> Prop) : Prop := ∀ w w' : World, (∀ k, lo <= k -> k < hi -> w'.heap[k]? = w.heap[k]?) -> Pr w -> Pr w'
def Rw.mut : Rw -> Bool
  | .row .. => true
  | .mu .. => true
  | _ => false
/-- What the blocks of a piece are. -/
def Rw.at_ (g : Nat) : Rw -> Prop
  | .row _ _ A _ _ _ => bl A = some g
  | .ch lo hi _ => lo <= g /\ g < hi
  | .ro _ A m _ _ => bl A = some g /\ 0 < m
  | .mu D _ => D g
def Rw.Apt (r s : Rw) : Prop := (r.mut || s.mut) = true -> ∀ g, r.at_ g -> ¬ s.at_ g
theorem Rw.Apt.symm {a b : Rw} (h : a.Apt b) : b.Apt a := fun hm g h1 h2 => h (by rw [Bool.or_comm]; exact hm) g h2 h1
def Rw.holds (b : Nat) (mr : Option Nat) (w : World) : Rw -> Prop
  | .row e z A m c cs => Own 0 w e z A m c cs /\ ∀ g, bl A = some g -> b <= g ∨ mr = some g
  | .ch lo hi Pr => Pr w /\ b <= lo /\ hi <= w.heap.size /\ Jjn lo hi Pr /\ ∀ g, mr = some g -> g < lo ∨ hi <= g
  | .ro z A m c cs => 0 < z /\ Rd w.heap.size w z A m c cs
  | .mu D Pr => Pr w /\ (∀ g, D g -> (∃ o : Obj, w.heap[g]? = some o /\ o.isCells = true) /\ (b <= g ∨ mr = some g)) /\ ∀ w w' : World, w.heap.size <= w'.heap.size -> (∀ k, D k -> w'.heap[k]? = w.heap[k]?) -> Pr w -> Pr w'
def Rows (b : Nat) (mr : Option Nat) (w : World) : List Rw -> Prop
  | [] => True
  | r :: R => r.holds b mr w /\ (∀ s ∈ R, r.Apt s) /\ Rows b mr w R
theorem Rd.stay {w w' : World} {z : Nat} {A : Option Addr} {m c : Nat} {cs : List Value} (h : Rd w.heap.size w z A m c cs) {row : Option Nat} (hg : w.grownBy w' row) (hr : ∀ g, row = some g -> ¬ (bl A = some g /\ 0 < m)) : Rd w'.heap.size w' z A m c cs :=
 ⟨h.len, h.cap, h.max, fun hm => by
  obtain ⟨ad, e1, e2, e3⟩ := h.cells hm; exact ⟨ad, e1, Nat.lt_of_lt_of_le e2 hg.size, fun j u hu => hg.cell (e3 j u hu) (fun e => by rw [JV] at e; exact hr _ e.symm ⟨by rw [e1]; rfl, hm⟩)⟩⟩
section
variable {b : Nat} {mr : Option Nat} {w w' : World} {R : List Rw}
theorem Rw.holds.lt {r : Rw} (h : r.holds b mr w) {g : Nat} (hg : r.at_ g) : g < w.heap.size := by
 cases r with
 | row e z A m c cs => exact (h.1.bl_ge g hg).2
 | ch lo hi Pr => have := h.2.2.1; have := hg.2; omega
 | ro z A m c cs =>
  obtain ⟨h1, h2⟩ := hg; obtain ⟨ad, e1, e2, _⟩ := Rd.cells h.2 h2; rw [e1] at h1; cases h1; exact e2
 | mu D Pr =>
  obtain ⟨⟨o, h1, _⟩, _⟩ := h.2.1 g hg; exact (Array.getElem?_eq_some_iff.1 h1).1
theorem Rows.get : ∀ {R : List Rw} {i : Nat} {r : Rw}, Rows b mr w R -> R[i]? = some r -> r.holds b mr w
 | r :: R, 0, _, h, e => by cases e; exact h.1
 | r :: R, i + 1, _, h, e => Rows.get (R := R) (i := i) h.2.2 (by simpa using e)
theorem Rw.holds.step {r : Rw} (h : r.holds b mr w) {row : Option Nat} (hg : w.grownBy w' row) (hr : ∀ g, row = some g -> ¬ r.at_ g) : r.holds b mr w' := by
 cases r with
 | row e z A m c cs => exact ⟨h.1.grown hg (fun g e => hr g e), h.2⟩
 | ch lo hi Pr => exact ⟨h.2.2.2.1 w w' (fun k h1 h2 => hg.block k (by have := h.2.2.1; omega) (fun e => hr k e.symm ⟨h1, h2⟩)) h.1, h.2.1, Nat.le_trans h.2.2.1 hg.size, h.2.2.2⟩
 | ro z A m c cs => exact ⟨h.1, Rd.stay h.2 hg hr⟩
 | mu D Pr =>
  have hk : ∀ k, D k -> w'.heap[k]? = w.heap[k]? := fun k hD => hg.block k (by obtain ⟨⟨o, h1, _⟩, _⟩ := h.2.1 k hD; exact (Array.getElem?_eq_some_iff.1 h1).1) (fun e => hr k e.symm hD); exact ⟨h.2.2 w w' hg.size hk h.1, fun g hD => ⟨by obtain ⟨⟨o, h1, h2⟩, _⟩ := h.2.1 g hD; exact ⟨o, (hk g hD).trans h1, h2⟩, (h.2.1 g hD).2⟩, h.2.2⟩
theorem Rows.ext : ∀ {R : List Rw}, Rows b mr w R -> w.grownBy w' none -> Rows b mr w' R
 | [], _, _ => trivial
 | r :: R, h, hg => ⟨h.1.step hg (fun _ e => by cases e), h.2.1, Rows.ext h.2.2 hg⟩
theorem Rows.lt : ∀ {R : List Rw} {r : Rw}, Rows b mr w R -> r ∈ R -> ∀ g, r.at_ g -> g < w.heap.size
 | r :: R, s, h, hm, g, hg => by
  rcases List.mem_cons.1 hm with rfl | hm
  .exact h.1.lt hg
  .exact Rows.lt h.2.2 hm g hg
/-- A new piece. -/
theorem Rows.push {r : Rw} (h : Rows b mr w R) (hg : w.grownBy w' none) (hr : r.holds b mr w') (hnew : ∀ g, r.at_ g -> w.heap.size <= g) : Rows b mr w' (r :: R) :=
  ⟨hr, fun s hs _ g h1 h2 => by have := hnew g h1; have := h.lt hs g h2; omega, h.ext hg⟩
/-- Another piece where one was. -/
theorem Rows.put : ∀ {R : List Rw} {i : Nat} {r r' : Rw} {row : Option Nat}, Rows b mr w R -> R[i]? = some r -> r.mut = true -> w.grownBy w' row -> (∀ g, row = some g -> r.at_ g) -> r'.holds b mr w' ->
    (∀ g, r'.at_ g -> r.at_ g ∨ w.heap.size <= g) -> Rows b mr w' (R.set i r')
  | s :: R, 0, r, r', row, h, e, hmt, hg, hrow, hr', hat => by
    cases e
    refine ⟨hr', fun t ht _ g h1 h2 => ?_, ?_⟩
    . rcases hat g h1 with h3 | h3
      . exact h.2.1 t ht (by rw [hmt]; rfl) g h3 h2
      . have := h.2.2.lt ht g h2; omega
    . have : ∀ {Q : List Rw}, Rows b mr w Q -> (∀ t ∈ Q, ∀ g, row = some g -> ¬ t.at_ g) -> Rows b mr w' Q := by
        intro Q
        induction Q with
        | nil => intro _ _; trivial
        | cons q Q ih => intro h1 h2; exact ⟨h1.1.step hg (h2 q (List.mem_cons_self ..)), h1.2.1, ih h1.2.2 (fun t ht => h2 t (List.mem_cons_of_mem _ ht))⟩
      exact this h.2.2 fun t ht g e => h.2.1 t ht (by rw [hmt]; rfl) g (hrow g e)
  | s :: R, i + 1, r, r', row, h, e, hmt, hg, hrow, hr', hat => by
    have e' : R[i]? = some r := by simpa using e
    have hm : r ∈ R := List.mem_of_getElem? e'
    have hap := h.2.1 r hm (by rw [hmt, Bool.or_true])
    refine ⟨h.1.step hg (fun g e hs => hap g hs (hrow g e)), fun t ht hh => ?_, Rows.put (R := R) (i := i) h.2.2 e' hmt hg hrow hr' hat⟩
    rcases List.mem_or_eq_of_mem_set ht with ht | rfl
    . exact h.2.1 t ht hh
    . intro g h1 h2
      rcases hat g h2 with h3 | h3
      . exact hap g h1 h3
      . have := h.1.lt h1; omega
theorem Rows.mem : ∀ {R : List Rw} {r : Rw}, Rows b mr w R -> r ∈ R -> r.holds b mr w
 | s :: R, r, h, hm => by
  rcases List.mem_cons.1 hm with rfl | hm
  .exact h.1
  .exact Rows.mem h.2.2 hm
theorem Rows.apt : ∀ {R : List Rw} {i j : Nat} {r s : Rw}, Rows b mr w R -> i ≠ j -> R[i]? = some r -> R[j]? = some s -> r.Apt s
 | t :: R, 0, 0, _, _, _, h, _, _ => absurd rfl h
 | t :: R, 0, j + 1, r, s, h, _, h1, h2 => by cases h1; exact h.2.1 s (List.mem_of_getElem? (by simpa using h2))
 | t :: R, i + 1, 0, r, s, h, _, h1, h2 => by cases h2; exact (h.2.1 r (List.mem_of_getElem? (by simpa using h1))).symm
 | t :: R, i + 1, j + 1, r, s, h, hn, h1, h2 => Rows.apt (R := R) (i := i) (j := j) h.2.2 (by omega) (by simpa using h1) (by simpa using h2)
def Jbg : List Nat -> Bool
  | [] => true
  | i :: is => is.all (fun j => !(Nat.beq i j)) && Jbg is
/-- Some of the pieces, in whatever order. -/
theorem Rows.pick : ∀ (is : List Nat), Jbg is = true -> Rows b mr w R -> Rows b mr w (is.filterMap fun i => R[i]?)
  | [], _, _ => trivial
  | i :: is, hn, h => by
    simp only [Jbg, Bool.and_eq_true, List.all_eq_true, Bool.not_eq_true'] at hn
    have ih := Rows.pick is hn.2 h
    simp only [List.filterMap_cons]
    cases hi : R[i]? with
    | none => exact ih
    | some r =>
      refine ⟨h.get hi, fun s hs => ?_, ih⟩
      obtain ⟨j, hj, hs'⟩ := List.mem_filterMap.1 hs
      exact h.apt (fun e => by have := hn.1 j hj; rw [e, Nat.beq_refl] at this; cases this) hi hs'
/-- Pieces that are all new since a world of so many blocks. -/
def News (n : Nat) : List Rw -> Prop
  | [] => True
  | r :: R => (∀ g, r.at_ g -> n <= g) /\ News n R
theorem Rows.append : ∀ {Q : List Rw}, Rows w.heap.size none w' Q -> News w.heap.size Q -> w.grownBy w' none -> Rows b mr w R -> b <= w.heap.size -> (∀ g, mr = some g -> g < w.heap.size) -> Rows b mr w' (Q ++ R)
 | [], _, _, hg, h, _, _ => h.ext hg
 | q :: Q, hq, hn, hg, h, hb, hm => by
  have ih := Rows.append hq.2.2 hn.2 hg h hb hm; refine ⟨?_, fun s hs => ?_, ih⟩
  .cases q with
   | row e z A m c cs => exact ⟨hq.1.1, fun g hg' => .inl (by have := hn.1 g hg'; omega)⟩
   | ch lo hi Pr => exact ⟨hq.1.1, by have := hq.1.2.1; omega, hq.1.2.2.1, hq.1.2.2.2.1, fun g e => .inl (by have := hm g e; have := hq.1.2.1; omega)⟩
   | ro z A m c cs => exact hq.1
   | mu D Pr => exact ⟨hq.1.1, fun g hg' => ⟨(hq.1.2.1 g hg').1, .inl (by have := hn.1 g hg'; omega)⟩, hq.1.2.2⟩
  .rcases List.mem_append.1 hs with hs | hs
   .exact hq.2.1 s hs
   .exact fun _ g h1 h2 => by have := hn.1 g h1; have := h.lt hs g h2; omega
end
/-- It abides every change of cells. -/
def Je0 (X : World -> Prop) : Prop := ∀ w w' row, X w -> w.grownBy w' row -> (∀ g, row = some g -> ∃ o : Obj, w.heap[g]? = some o /\ o.isCells = true) -> X w'
/-- The state of a call: w0 the world at its beginning, mr a row of the caller's that it may turn, R the pieces of its own. -/
structure St (X : World -> Prop) (w0 : World) (mr : Option Nat) (w : World) (R : List Rw) : Prop where
  ext : w0.grownBy w mr
  rows : Rows w0.heap.size mr w R
  x : X w
  cl : Je0 X
  lt : ∀ g, mr = some g -> g < w0.heap.size
def TT : World -> Prop := fun _ => True
theorem QA : Je0 TT := fun _ _ _ _ _ _ => trivial
theorem Jk (w : World) : St TT w none w [] := ⟨World.grownBy.refl w _, trivial, trivial, QA, fun _ h => by cases h⟩
theorem Yb {b : Nat} {w : World} {e z : Nat} {A : Option Addr} {m c : Nat} {cs : List Value} (h : Own b w e z A m c cs) : ∀ g, bl A = some g -> ∃ o : Obj, w.heap[g]? = some o /\ o.isCells = true := by
 intro g hg; rcases h.2 with ⟨h1, _⟩ | ⟨g', cap, cur, h1, h2, h3, _⟩
 .cases h1; cases hg
 .cases h1; cases hg; exact ⟨_, h3, rfl⟩
theorem J8 {a b c : World} {r : Option Nat} (h : a.grownBy b r) (k : b.grownBy c none) : a.grownBy c r :=
 ⟨k.os.trans h.os, k.tape.trans h.tape, k.output.trans h.output, Nat.le_trans h.size k.size, fun i hi hr => (k.block i (Nat.lt_of_lt_of_le hi h.size) (by simp)).trans (h.block i hi hr)⟩
theorem Qq {a b c : World} {r s : Option Nat} (h : a.grownBy b r) (k : b.grownBy c s) (hs : ∀ g, s = some g -> a.heap.size <= g ∨ r = some g) : a.grownBy c r :=
 ⟨k.os.trans h.os, k.tape.trans h.tape, k.output.trans h.output, Nat.le_trans h.size k.size, fun i hi hr => (k.block i (Nat.lt_of_lt_of_le hi h.size) (fun e => by
  rcases hs i e.symm with h1 | h1
  .omega
  .exact hr h1.symm)).trans (h.block i hi hr)⟩
section
variable {X : World -> Prop} {w0 w w' : World} {mr : Option Nat} {R : List Rw}
theorem St.grow (h : St X w0 mr w R) (hg : w.grownBy w' none) : St X w0 mr w' R :=
 ⟨J8 h.ext hg, h.rows.ext hg, h.cl _ _ _ h.x hg (fun _ e => by cases e), h.cl, h.lt⟩
theorem St.size (h : St X w0 mr w R) : w0.heap.size <= w.heap.size := h.ext.size
theorem St.push {r : Rw} (h : St X w0 mr w R) (hg : w.grownBy w' none) (hr : r.holds w0.heap.size mr w') (hnew : ∀ g, r.at_ g -> w.heap.size <= g) : St X w0 mr w' (r :: R) :=
 ⟨J8 h.ext hg, h.rows.push hg hr hnew, h.cl _ _ _ h.x hg (fun _ e => by cases e), h.cl, h.lt⟩
theorem St.own {i e z m c : Nat} {A : Option Addr} {cs : List Value} (h : St X w0 mr w R) (hi : R[i]? = some (.row e z A m c cs)) : Own 0 w e z A m c cs := (h.rows.get hi).1
theorem St.rd {i e z m c : Nat} {A : Option Addr} {cs : List Value} (h : St X w0 mr w R) (hi : R[i]? = some (.row e z A m c cs)) : Rd w.heap.size w z A m c cs := (h.own hi).rd
theorem St.chunk {i lo hi : Nat} {Pr : World -> Prop} (h : St X w0 mr w R) (hR : R[i]? = some (.ch lo hi Pr)) : Pr w := (h.rows.get hR).1
theorem St.put {i e z m c e' z' m' c' : Nat} {A A' : Option Addr} {cs cs' : List Value} (h : St X w0 mr w R) (hi : R[i]? = some (.row e z A m c cs)) (hg : w.grownBy w' (bl A)) (hO : Own 0 w' e' z' A' m' c' cs') (hA : bl A' = bl A ∨ bl A' = some w.heap.size ∨ bl A' = none) :
  St X w0 mr w' (R.set i (.row e' z' A' m' c' cs')) := by
 have hr := h.rows.get hi; refine ⟨Qq h.ext hg hr.2, h.rows.put hi rfl hg (fun g e => e) ⟨hO, fun g e => ?_⟩ (fun g e => ?_), h.cl _ _ _ h.x hg (Yb hr.1), h.cl, h.lt⟩
 .rcases hA with h1 | h1 | h1
  .exact hr.2 g (h1 ▸ e)
  .rw [h1] at e; cases e; exact .inl h.size
  .rw [h1] at e; cases e
 .rcases hA with h1 | h1 | h1
  .exact .inl (show bl A = some g from h1 ▸ e)
  .have e' : bl A' = some g := e; rw [h1] at e'; cases e'; exact .inr (Nat.le_refl _)
  .have e' : bl A' = some g := e; rw [h1] at e'; cases e'
theorem St.pick (is : List Nat) (hn : Jbg is = true) (h : St X w0 mr w R) : St X w0 mr w (is.filterMap fun i => R[i]?) := ⟨h.ext, h.rows.pick is hn, h.x, h.cl, h.lt⟩
theorem St.call {Q : List Rw} (h : St X w0 mr w R) (hg : w.grownBy w' none) (hq : Rows w.heap.size none w' Q) (hn : News w.heap.size Q) : St X w0 mr w' (Q ++ R) :=
 ⟨J8 h.ext hg, hq.append hn hg h.rows h.size (fun g e => Nat.lt_of_lt_of_le (h.lt g e) h.size), h.cl _ _ _ h.x hg (fun _ e => by cases e), h.cl, h.lt⟩
/-- What a caller's list reads. -/
theorem St.ro {B z m c : Nat} {A : Option Addr} {cs : List Value} (h : St X w0 none w R) (hr : Rd B w0 z A m c cs) : Rd B w z A m c cs := hr.ext h.ext
end
end Go.Proofs.Ytgcdbnpenhclfaa
namespace Go.Proofs.Ytgcdbnpenhclfaa
abbrev Rt (w : World) (K : Value -> List Rw -> Prop) : Ending -> World -> Prop := fun e w' => ∃ v Q, e = .returned v /\ w.grownBy w' none /\ Rows w.heap.size none w' Q /\ News w.heap.size Q /\ K v Q
open Go.RowKit
/-! ### operations on the state -/
theorem ti {I : Int} {m : Nat} (h : 0 <= I /\ I < (m : Int)) : I.toNat < m := by omega
theorem tj {I : Int} {m : Nat} (h : 0 <= I /\ I < (m : Int)) : I = ((I.toNat : Nat) : Int) := by omega
theorem JF {B : Nat} {w : World} {A : Option Addr} {m c : Nat} {l : LI} (h : Rd B w 1 A m c (is l)) {I : Int} (hI : 0 <= I /\ I < (m : Int)) : w.cell? ((JL A).add I.toNat) = some (.int .i64 (Go.Proofs.Ytgcdbnpenhclfaa.gi l I)) :=
 h.at_ (Jfo (by have := h.ilen; omega))
theorem Rd.gb {B : Nat} {w : World} {A : Option Addr} {m c : Nat} {l : List Bool} (h : Rd B w 1 A m c (bs l)) {I : Int} (hI : 0 <= I /\ I < (m : Int)) : w.cell? ((JL A).add I.toNat) = some (.bool (Go.Proofs.Ytgcdbnpenhclfaa.gb l I)) :=
 h.at_ (bs_at (by have := h.blen; omega))
theorem Jj4 {w : World} (t : Nat) (cs : Array Value) : Own 0 (w.alloc (.cells cs t)) t cs.size (some ⟨w.heap.size, 0, none⟩) 1 1 cs.toList := (Jba w t cs.size cs rfl).low (Nat.zero_le _)
theorem add_zero (a : Addr) : a.add 0 = a := rfl
section
variable {P : Program} {n : Nat} {ro : Option Nat} {df : List Deferred} {N : JD} {L : Fr} {w w0 : World} {ops : Array Oper} {rest : List Oper}
variable {d : Nat} {ty : TypeId} {pos : String} {af : Array Edge} {X : World -> Prop} {mr : Option Nat} {R : List Rw}
theorem Jky {x : Operand} {t : TypeId} {v : Value} (hx : ev L x = some v) (hn : Nat.blt d n = true) (h : WL P n ro df ops rest N ((d, .pointer (some ⟨w.heap.size, 0, none⟩)) :: L) (w.alloc (.cells v.cells t))) :
  WL P n ro df ops (⟨some d, .box t x, ty, pos, af, none⟩ :: rest) N L w :=
 WL.val rfl rfl hn (fun a ha => by simp [execOp, ha.ev hx, Instr.box, newVar, newRow]) h
theorem JC {x : Operand} {t z : Nat} {v : Value} {cs : List Value} (hS : St X w0 mr w R) (hx : ev L x = some v) (hc : v.cells = cs.toArray) (hz : cs.length = z) (hn : Nat.blt d n = true)
  (h : ∀ g w', St X w0 mr w' (.row t z (some ⟨g, 0, none⟩) 1 1 cs :: R) -> WL P n ro df ops rest N ((d, .pointer (some ⟨g, 0, none⟩)) :: L) w') :
  WL P n ro df ops (⟨some d, .box t x, ty, pos, af, none⟩ :: rest) N L w := by
 refine Jky hx hn (h _ _ (hS.push (World.grownBy_alloc w _ none) ⟨?_, fun g hg => .inl ?_⟩ fun g hg => ?_))
 .have := Jj4 (w := w) t v.cells; rw [hc] at this ⊢
  simpa [hz] using this
 .cases hg; exact hS.size
 .cases hg; exact Nat.le_refl _
theorem SL.alloc {t z by_ : Nat} {zero : Value} {cs : List Value} (hS : St X w0 mr w R) (he : Elem P t z by_ zero) (hc : zero.cells = cs.toArray) (hn : Nat.blt d n = true)
  (h : ∀ g w', St X w0 mr w' (.row t z (some ⟨g, 0, none⟩) 1 1 cs :: R) -> WL P n ro df ops rest N ((d, .pointer (some ⟨g, 0, none⟩)) :: L) w') :
  WL P n ro df ops (⟨some d, .alloc t, ty, pos, af, none⟩ :: rest) N L w := by
 refine WL.alloc he hn fun g w' hg hO hG => ?_; subst hg; rw [hc] at hO; exact h _ _ (hS.push hG ⟨hO.low (Nat.zero_le _), fun g e => .inl (by cases e; exact hS.size)⟩ fun g e => by cases e; exact Nat.le_refl _)
/-- The address of an element. -/
theorem Jj {x i : Operand} {t e : TypeId} {by_ : Nat} {zero : Value} {A : Option Addr} {m c B : Nat} {cs : List Value} {k : IntKind} {I : Int} {wR : World}
    (ht : P.underlying t = some (.slice e)) (he : Elem P e 1 by_ zero) (hR : Rd B wR 1 A m c cs) (hx : ev L x = some (.slice A m c)) (hi : ev L i = some (.int k I)) (hI : 0 <= I /\ I < (m : Int)) (hn : Nat.blt d n = true)
    (h : WL P n ro df ops rest N ((d, .pointer (some ((JL A).add I.toNat))) :: L) w) : WL P n ro df ops (⟨some d, .indexAddr t x i, ty, pos, af, none⟩ :: rest) N L w :=
  Jay I.toNat ht he hx hi (tj hI) (ti hI) hR hn h
/-- A store into one cell of a row, or of a variable. -/
theorem Jy {x y : Operand} {t e z m c by_ : Nat} {zero : Value} {A : Option Addr} {cs cs' : List Value} {v : Value} (i j : Nat) (hS : St X w0 mr w R) (hi : R[i]? = some (.row e z A m c cs)) (he : Elem P t 1 by_ zero)
    (hx : ev L x = some (.pointer (some ((JL A).add j)))) (hy : ev L y = some v) (h1 : v.oneCell' = true) (hj : j < cs.length) (hcs : cs.set j v = cs')
    (h : ∀ w', St X w0 mr w' (R.set i (.row e z A m c cs')) -> WL P n ro df ops rest N L w') : WL P n ro df ops (⟨none, .store t x y, ty, pos, af, none⟩ :: rest) N L w := by
  subst hcs
  obtain ⟨inf, i1, i2, i3, i4⟩ := he.ex
  have hO := hS.own hi
  rcases hO.form with ⟨_, h0, _⟩ | ⟨g, rfl, hg1, hg2⟩
  . have := hO.len; simp [h0] at this; simp [this] at hj
  . have hs := World.ownsRow.stored hO j v
    have hfr := World.ownsRow.frozenAt hO j
    have hce := World.ownsRow.cellAt hO j (by rw [<- hO.len]; exact hj)
    rw [List.getElem?_eq_getElem hj] at hce
    have hadd : (JL (some ⟨g, 0, none⟩)).add j = ⟨g, j, none⟩ := by
      unfold JL Addr.add; simp; intro h; exact h.symm
    have hcs : v.cells = #[v] := by cases v <;> simp_all [Value.cells, Value.oneCell']
    rw [hadd] at hx
    have hz : (⟨g, j, none⟩ : Addr).add 0 = ⟨g, j, none⟩ := rfl
    refine Jex rfl rfl (fun a ha => ?_) (h _ (hS.put hi hs.2 hs.1 (.inl rfl)))
    simp [execOp, ha.ev hx, ha.ev hy, Instr.storeAt, Instr.sureAddr, storeVar, sizeOf, typeInfo, i1, i3, hcs, storeCells, run_store _ _ _ _ _ h1, hce, hfr, hz]
/-- A store of a whole variable. -/
theorem J0 {x y : Operand} {t e z by_ g : Nat} {zero : Value} {cells : Array Value} {old cs : List Value} (i : Nat) (hS : St X w0 mr w R) (hi : R[i]? = some (.row e z (some ⟨g, 0, none⟩) 1 1 old)) (he : Elem P t z by_ zero)
    (hx : ev L x = some (.pointer (some ⟨g, 0, none⟩))) (hy : ev L y = some (.agg cells)) (hc : cells.toList = cs) (hz : cells.size = z) (h1 : cells.toList.all (·.oneCell') = true)
    (h : ∀ w', St X w0 mr w' (R.set i (.row e z (some ⟨g, 0, none⟩) 1 1 cs)) -> WL P n ro df ops rest N L w') : WL P n ro df ops (⟨none, .store t x y, ty, pos, af, none⟩ :: rest) N L w := by
  subst hc
  exact Jhf he hx hy hz h1 (hS.own hi) fun w' hO hG => h w' (hS.put hi hG hO (.inl rfl))
theorem QU {x y : Operand} {t e : TypeId} {z by_ : Nat} {zero : Value} {k k' : IntKind} {J : Int} {cs : List Value} (hS : St X w0 mr w R) (ht : P.underlying t = some (.slice e)) (he : Elem P e z by_ zero)
  (hx : ev L x = some (.int k J)) (hy : ev L y = some (.int k' J)) (hJ : 0 <= J /\ J * (by_ : Int) <= 281474976710656 /\ J <= 281474976710656) (hcs : (madeCells zero.cells (J.toNat * z)).toList = cs) (hn : Nat.blt d n = true)
  (h : ∀ A w', St X w0 mr w' (.row e z A J.toNat J.toNat cs :: R) -> WL P n ro df ops rest N ((d, .slice A J.toNat J.toNat) :: L) w') :
  WL P n ro df ops (⟨some d, .makeSlice t x y, ty, pos, af, none⟩ :: rest) N L w := by
 subst hcs; have h1 : J = ((J.toNat : Nat) : Int) := by omega
 refine Jfx w.heap.size J.toNat ht he hx hy h1 ?_ (by simp only [maxLen]; omega) (Nat.le_refl _) hn fun A w' hA hO hG => h A w' (hS.push hG ⟨hO.low (Nat.zero_le _), fun g hg => .inl ?_⟩ fun g hg => (hO.bl_ge g hg).1)
 .have := hJ.2.1; rw [h1, <- Int.natCast_mul] at this; rw [Nat.mul_comm]; exact Int.ofNat_le.1 this
 .have := (hO.bl_ge g hg).1; have := hS.size; omega
/-- 'append', onto a row of the call's own. -/
theorem SL.append {x y : Operand} {t e : TypeId} {z by_ : Nat} {zero : Value} {A A' : Option Addr} {m c m' c' B : Nat} {cs cs' : List Value} (i mm : Nat) (ls : List Value) (hS : St X w0 mr w R) (hi : R[i]? = some (.row e z A m c cs)) (ht : P.underlying t = some (.slice e)) (he : Elem P e z by_ zero)
    (hR : Rd B w z A' m' c' cs') (h1 : ∀ u ∈ cs', u.oneCell' = true) (hx : ev L x = some (.slice A m c)) (hy : ev L y = some (.slice A' m' c'))
    (hmax : m + m' <= maxLen) (hby : (m + m') * by_ <= 140737488355328) (hmm : m + m' = mm) (hls : cs ++ cs' = ls) (hn : Nat.blt d n = true)
    (h : ∀ A2 c2 w', St X w0 mr w' (R.set i (.row e z A2 mm c2 ls)) -> WL P n ro df ops rest N ((d, .slice A2 mm c2) :: L) w') :
    WL P n ro df ops (⟨some d, .call ⟨.builtin .append, #[x, y], #[t, t]⟩, ty, pos, af, none⟩ :: rest) N L w := by
  refine WL.append mm ls ht he hx hy (hS.own hi) hR h1 hmax hby (Nat.zero_le _) hmm hls hn fun A2 c2 w' hO hG hA => h A2 c2 w' (hS.put hi hG hO ?_)
  rcases hA with h1 | h1
  . exact .inl h1
  . exact .inr (.inl h1)
/-- A literal of a slice of one-cell elements. -/
theorem Qy {t e : TypeId} {by_ : Nat} {zero : Value} {k : Nat} {parts : List (Nat × Operand)} {vs : List Value} (hS : St X w0 mr w R) (ht : P.underlying t = some (.slice e)) (he : Elem P e 1 by_ zero)
    (hx : evs L (parts.map (·.2)) = some vs) (hk : Nat.ble k 1000 = true) (hp : parts.map (·.1) = List.range' 0 k) (hl : vs.length = k) (h1 : ∀ v ∈ vs, v.oneCell' = true) (hn : Nat.blt d n = true)
    (h : ∀ A w', St X w0 mr w' (.row e 1 A k k vs :: R) -> WL P n ro df ops rest N ((d, .slice A k k) :: L) w') :
    WL P n ro df ops (⟨some d, .buildSlice t k parts.toArray, ty, pos, af, none⟩ :: rest) N L w := by
  refine Jkw (b := w.heap.size) ht he hk hx hp hl h1 (Nat.le_refl _) hn fun A w' hA hO hG => h A w' (hS.push hG ⟨hO.low (Nat.zero_le _), fun g hg => .inl ?_⟩ fun g hg => (hO.bl_ge g hg).1)
  have := (hO.bl_ge g hg).1; have := hS.size; omega
/-- A call that leaves what it finds as it is. -/
theorem SL.call {f : FuncId} {fn : Func} {c : Code} {xs : List Operand} {ts : Array TypeId} {vs : List Value} {K : Value -> List Rw -> Prop} (hS : St X w0 mr w R)
    (hc : Calls P f vs.toArray w fun e w' => ∃ v Q, e = .returned v /\ w.grownBy w' none /\ Rows w.heap.size none w' Q /\ News w.heap.size Q /\ K v Q)
    (hf : P.funcs[f]? = some fn) (hb : fn.body = some c) (hnm : (fn.name == "runtime.NumGoroutine") = false) (hx : evs L xs = some vs) (hn : Nat.blt d n = true)
    (h : ∀ v Q w', K v Q -> w.grownBy w' none -> St X w0 mr w' (Q ++ R) -> WL P n ro df ops rest N ((d, v) :: L) w') :
    WL P n ro df ops (⟨some d, .call ⟨.value (.func f), xs.toArray, ts⟩, ty, pos, af, none⟩ :: rest) N L w :=
  WL.call hf hb hnm hx hn (R := fun v w' => ∃ Q, w.grownBy w' none /\ Rows w.heap.size none w' Q /\ News w.heap.size Q /\ K v Q) (hc.mono fun e w' ⟨v, Q, h1, h2⟩ => ⟨v, h1, Q, h2⟩) fun v w' ⟨Q, h1, h2, h3, h4⟩ => h v Q w' h4 h1 (hS.call h1 h2 h3)
end
end Go.Proofs.Ytgcdbnpenhclfaa
namespace Go.Proofs.Ytgcdbnpenhclfaa
open Go.RowKit
/-- All that the operations of a list wait for, some steps back. -/
def Jcd (l : List Oper) : Nat -> List Nat -> List Nat
  | 0, js => js
  | f + 1, js => Jcd l f ((List.range l.length).filter fun j => js.contains j || js.any fun k => (JJ l k).contains j)
theorem Jam {l : List Oper} {p : Nat -> Prop} (hcl : ∀ k, p k -> ∀ j ∈ JJ l k, p j) : ∀ (f : Nat) (js : List Nat), (∀ j ∈ js, p j) -> ∀ j ∈ Jcd l f js, p j
 | 0, _, h => h
 | f + 1, js, h => Jam hcl f _ fun j hj => by
  simp only [List.mem_filter, Bool.or_eq_true, List.contains_iff_mem, List.any_eq_true] at hj; rcases hj.2 with hj | ⟨k, hk, hj⟩
  .exact h j hj
  .exact hcl k (h k hk) j hj
/-- A region of which all operations from m on wait for all that stand ahead of m. -/
def Jb6 (n : Nat) (l : List Oper) (ps : List Plan) (m : Nat) : Bool :=
  ps.length == m && Nat.ble m l.length && (List.range l.length).all (fun i => (JJ l i).all (fun j => Nat.blt j i)) &&
    (List.range l.length).all (fun i => Nat.blt i m || (List.range m).all (fun j => (Jcd l 9 (JJ l i)).contains j)) && (List.range m).all fun i =>
    (match ps[i]? with
     | none => false
     | some p => p.on.all (fun j => (JJ l i).contains j) && p.slots.all (fun t => (List.range m).all fun k => k == i || Jz l k != some t || (JJ l k).contains i)) &&
    (match Jz l i with
     | none => false
     | some d => Nat.blt d n && (List.range m).all fun k => k == i || Jz l k != some d)
/-! ### all orders, one by one -/
/-- What is left of a region, in whatever order, when those in 'listed' have been carried out. -/
structure WA (P : Program) (n : Nat) (ro : Option Nat) (df : List Deferred) (l : List Oper) (N : JD) (fuel : Nat) (listed : List Bool) (L : Fr) (w : World) : Prop where
  out : ∀ a, Has n df a L -> ∀ B, wpAnyIn (Qh ro) 0 P .any l.toArray (Y9 n df N B) fuel listed.toArray a w
theorem Jkz {P : Program} {n : Nat} {ro : Option Nat} {df : List Deferred} {l : List Oper} {N : JD} {listed : List Bool} {L : Fr} {w : World} (hr : Region.ready .any l.toArray listed.toArray = []) (h : N df L w) : WA P n ro df l N 0 listed L w :=
 ⟨fun a ha B => ⟨hr, L, ha, h⟩⟩
theorem WA.step {P : Program} {n : Nat} {ro : Option Nat} {df : List Deferred} {l : List Oper} {N : JD} {fuel : Nat} {listed : List Bool} {L : Fr} {w : World} (r : List Nat) (hr : Region.ready .any l.toArray listed.toArray = r) (hne : r.isEmpty = false)
  (h : ∀ i ∈ r, ∃ o, l[i]? = some o /\ WL P n ro df l.toArray [o] (fun _ L' w' => WA P n ro df l N fuel (listed.set i true) L' w') L w) : WA P n ro df l N (fuel + 1) listed L w := by
 refine ⟨fun a ha B => ⟨fun e => ?_, fun i hi => ?_⟩⟩
 .rw [hr] at e; rw [e] at hne; cases hne
 .rw [hr] at hi; obtain ⟨o, ho, hW⟩ := h i hi; have hW2 := hW.out a ha B; have hend : ∀ a' w', wpListIn (Qh ro) 0 P l.toArray (Y9 n df (fun _ L' w' => WA P n ro df l N fuel (listed.set i true) L' w') B) [] a' w' -> wpAnyIn (Qh ro) 0 P .any l.toArray (Y9 n df N B) fuel (listed.toArray.setIfInBounds i true) a' w' := fun a' w' hq => by
   obtain ⟨L', hL', hq⟩ := hq; have := hq.out a' hL' B
   simpa using this
  unfold wpOpIn; simp only [List.getElem?_toArray, ho]; simp only [wpListIn] at hW2; by_cases hwant : Region.wanted o (yielded l.toArray a.tmps) = true
  .rw [if_pos hwant] at hW2; simp only [hwant, if_true]; refine QH hend (fun e a w hne h => ?_) hW2; cases e <;> first | exact absurd rfl hne | exact h
  .rw [if_neg hwant] at hW2; simp only [hwant, if_false, Bool.false_eq_true]; exact ⟨fun _ _ => trivial, hend _ _ hW2.2⟩
theorem Jk7 {P : Program} {n id : Nat} {ro : Option Nat} {df : List Deferred} {l : List Oper} {N : JD} {B : JN} {L : Fr} {w0 : World} (hm : P.follows .mixedOrders = true)
  (h : ∀ w, w0.grownBy w none -> w.heap = w0.heap -> WA P n ro df l N l.length (List.replicate l.length false) L w) : W P n ro df (.region id l.toArray true) N B L w0 := by
 refine ⟨fun a ha => wpIn_mono (Q := Y9 n df N B) (wpIn_region_any hm ?_) QZ⟩; have := (h { w0 with drawn := w0.drawn + 1 } ⟨rfl, rfl, rfl, Nat.le_refl _, fun _ _ _ => rfl⟩ rfl).out a ha B
 simpa using this
end Go.Proofs.Ytgcdbnpenhclfaa
namespace Go.Proofs.Ytgcdbnpenhclfaa
open Go.RowKit
end Go.Proofs.Ytgcdbnpenhclfaa
namespace Go.Proofs.Ytgcdbnpenhclfaa
open Go.RowKit
theorem sm {A : Option Addr} {m m' c : Nat} (h : m = m') : some (Value.slice A m c) = some (.slice A m' c) := by rw [h]
theorem Qv {B : Nat} {w : World} {A : Option Addr} {m c : Nat} {l : LI} (h : Rd B w 1 A m c (is l)) {I : Int} (hI : 0 <= I /\ I < (m : Nat)) : I.toNat < (is l).length := by rw [Jbj, h.ilen]; omega
theorem bs_lt {B : Nat} {w : World} {A : Option Addr} {m c : Nat} {l : List Bool} (h : Rd B w 1 A m c (bs l)) {I : Int} (hI : 0 <= I /\ I < (m : Nat)) : I.toNat < (bs l).length := by rw [Ji7, h.blen]; omega
theorem Zn {B B' : Nat} {w w' : World} {A A' : Option Addr} {m c m' c' : Nat} {l l' : LI} (h : Rd B w 1 A m c (is l)) (h' : Rd B' w' 1 A' m' c' (is l')) : m + m' = (l ++ l').length := by rw [List.length_append, h.ilen, h'.ilen]
theorem apm {m b : Nat} (h : ((m : Nat) : Int) * (b : Int) <= 140737488355328) (hb : 0 < b := by decide) : m <= maxLen /\ m * b <= 140737488355328 := by
 have h2 : m * b <= 140737488355328 := by rw [<- Int.natCast_mul] at h; exact Int.ofNat_le.1 h
 have h3 : m <= m * b := Nat.le_mul_of_pos_right _ hb; exact ⟨by simp only [maxLen]; omega, h2⟩
theorem apk {m m' b : Nat} (h : ((m : Nat) + (m' : Nat) : Int) * (b : Int) <= 140737488355328) (hb : 0 < b := by decide) : m + m' <= maxLen /\ (m + m') * b <= 140737488355328 := by
 rw [<- Int.natCast_add] at h; exact apm h hb
theorem Jhk {B : Nat} {w : World} {A : Option Addr} {m c : Nat} {l : LI} (h : Rd B w 1 A m c (is l)) (hA : A.isNone = true) : l = [] := by
 have h1 := h.ilen; rcases Nat.eq_zero_or_pos m with h0 | h0
 .exact List.eq_nil_of_length_eq_zero (by omega)
 .obtain ⟨ad, e, _⟩ := h.cells h0; rw [e] at hA; cases hA
theorem Rd.m64 {B : Nat} {w : World} {z : Nat} {A : Option Addr} {m c : Nat} {cs : List Value} (h : Rd B w z A m c cs) : m <= 9223372036854775807 := by
 have := h.cap; have h2 := h.max; simp only [maxLen] at h2; omega
theorem Ja9 {B : Nat} {w : World} {A : Option Addr} {m c : Nat} {l : LI} (h : Rd B w 1 A m c (is l)) {j : Int} (hj : 0 <= j /\ j <= (m : Nat)) : j.toNat = (l.take j.toNat).length := by
 rw [List.length_take, h.ilen]; omega
theorem Jju {B : Nat} {w : World} {A : Option Addr} {m c : Nat} {l : LI} (h : Rd B w 1 A m c (is l)) {j : Int} (hj : 0 <= j /\ j <= (m : Nat)) : Rd B w 1 A (l.take j.toNat).length c (is (l.take j.toNat)) := by
 have := h.take (k := j.toNat) (by omega); rw [Nat.mul_one, Jbi] at this
 rwa [<- Ja9 h hj]
theorem vpart {B : Nat} {w : World} {z : Nat} {A : Option Addr} {m c : Nat} {cs vs : List Value} (h : Rd B w z A m c cs) (o : Nat) (hv : (cs.drop o).take vs.length = vs) : ∀ j u, vs[j]? = some u -> w.cell? (((JL A).add o).add j) = some u := by
 intro j u hu; rw [YN]; refine h.at_ ?_; have hj : j < vs.length := (List.getElem?_eq_some_iff.1 hu).1; rw [<- hv, List.getElem?_take, if_pos hj, List.getElem?_drop] at hu; exact hu
def Rw.isRo : Rw -> Bool
  | .ro .. => true
  | _ => false
theorem YY {b : Nat} {w : World} : ∀ {Q : List Rw}, Rows b none w Q -> Q.all (fun r => !r.isRo) = true -> News b Q
 | [], _, _ => trivial
 | q :: Q, h, hq => by
  simp only [List.all_cons, Bool.and_eq_true, Bool.not_eq_true'] at hq; refine ⟨fun g hg => ?_, YY h.2.2 (by simpa using hq.2)⟩; cases q with
  | row e z A m c cs => exact (h.1.2 g hg).resolve_right (by simp)
  | ch lo hi Pr => have := h.1.2.1; have := hg.1; omega
  | ro z A m c cs => simp [Rw.isRo] at hq
  | mu D Pr => exact (h.1.2.1 g hg).2.resolve_right (by simp)
theorem Jh {P : Program} {f : FuncId} {args : Array Value} {w : World} {K : Value -> List Rw -> World -> Prop} (h : Calls P f args w fun e w' => ∃ v, e = .returned v /\ ∃ Q, K v Q w') :
 Calls P f args w fun e w' => ∃ v Q, e = .returned v /\ K v Q w' := h.mono fun e w' ⟨v, h1, Q, h2⟩ => ⟨v, Q, h1, h2⟩
section
variable {X : World -> Prop} {w0 w w' : World} {mr : Option Nat} {R : List Rw}
theorem St.nil {e z : Nat} (h : St X w0 mr w R) : St X w0 mr w (.row e z none 0 0 [] :: R) :=
 h.push (World.grownBy.refl w none) ⟨World.ownsRow_nil w 0 e z, fun g hg => by cases hg⟩ fun g hg => by cases hg
theorem St.rop {i z m c : Nat} {A : Option Addr} {cs : List Value} (h : St X w0 mr w R) (hi : R[i]? = some (.ro z A m c cs)) : Rd w.heap.size w z A m c cs := (h.rows.get hi).2
theorem List.set_getElem?_self {α : Type} : ∀ {R : List α} {i : Nat} {r : α}, R[i]? = some r -> R.set i r = R
 | [], _, _, h => by simp at h
 | s :: R, 0, _, h => by cases h; rfl
 | s :: R, i + 1, _, h => by
  rw [List.set_cons_succ, List.set_getElem?_self (R := R) (by simpa using h)]
theorem Rows.setRo {b : Nat} : ∀ {R : List Rw} {i e z m c : Nat} {A : Option Addr} {cs : List Value}, Rows b mr w R -> R[i]? = some (.row e z A m c cs) -> 0 < z -> Rows b mr w (R.set i (.ro z A m c cs))
 | r :: R, 0, e, z, m, c, A, cs, h, hi, hz => by
  cases hi; exact ⟨⟨hz, h.1.1.rd⟩, fun s hs hm g h1 h2 => h.2.1 s hs (by rfl) g h1.1 h2, h.2.2⟩
 | r :: R, i + 1, e, z, m, c, A, cs, h, hi, hz => by
  have hi' : R[i]? = some (.row e z A m c cs) := by simpa using hi
  refine ⟨h.1, fun s hs hm g h1 h2 => ?_, Rows.setRo (R := R) (i := i) h.2.2 hi' hz⟩; rcases List.mem_or_eq_of_mem_set hs with hs | rfl
  .exact h.2.1 s hs hm g h1 h2
  .exact h.2.1 _ (List.mem_of_getElem? hi') (by simp [Rw.mut]) g h1 h2.1
theorem St.relen {i e z m m' c : Nat} {A : Option Addr} {cs : List Value} (h : St X w0 mr w R) (hi : R[i]? = some (.row e z A m c cs)) (hm : m = m') : St X w0 mr w (R.set i (.row e z A m' c cs)) := by
 subst hm; rw [List.set_getElem?_self hi]; exact h
/-- A row is only read from here on. -/
theorem St.freeze {i e z m c : Nat} {A : Option Addr} {cs : List Value} (h : St X w0 mr w R) (hi : R[i]? = some (.row e z A m c cs)) (hz : 0 < z := by decide) : St X w0 mr w (R.set i (.ro z A m c cs)) := ⟨h.ext, h.rows.setRo hi hz, h.x, h.cl, h.lt⟩
end
section
variable {P : Program} {n : Nat} {ro : Option Nat} {df : List Deferred} {N : JD} {L : Fr} {w w0 : World} {ops : Array Oper} {rest : List Oper}
variable {d : Nat} {ty : TypeId} {pos : String} {af : Array Edge}
theorem Jf4 {x y : Operand} {t e : TypeId} {z by_ B : Nat} {zero : Value} {A : Option Addr} {m c : Nat} {cs : List Value} {wR : World} {k : IntKind} {J : Int} (ht : P.underlying t = some (.slice e)) (he : Elem P e z by_ zero) (hR : Rd B wR z A m c cs)
  (hx : ev L x = some (.slice A m c)) (hy : ev L y = some (.int k J)) (hJ : 0 <= J /\ J <= (m : Nat)) (hn : Nat.blt d n = true)
  (mm : Nat) (hmm : J.toNat = mm) (h : WL P n ro df ops rest N ((d, .slice A mm c) :: L) w) : WL P n ro df ops (⟨some d, .slice t x none (some y) none, ty, pos, af, none⟩ :: rest) N L w := by
 subst hmm; exact Jkv J.toNat ht he hx hy (by omega) (by have := hR.cap; omega) hn h
theorem Jjr {x : Operand} {f : FuncId} {fn : Func} {c : Code} {xs : List Operand} {ts : Array TypeId} {vs cs : List Value} {K : Value -> List Rw -> Prop} {X : World -> Prop} {mr : Option Nat} {R : List Rw} (hS : St X w0 mr w R)
  (hc : Calls P f (vs ++ cs).toArray w fun e w' => ∃ v Q, e = .returned v /\ w.grownBy w' none /\ Rows w.heap.size none w' Q /\ News w.heap.size Q /\ K v Q)
  (hfv : ev L x = some (.func (.func f) #[] cs.toArray)) (hf : P.funcs[f]? = some fn) (hb : fn.body = some c) (hnm : (fn.name == "runtime.NumGoroutine") = false) (hx : evs L xs = some vs) (hn : Nat.blt d n = true)
  (h : ∀ v Q w', K v Q -> w.grownBy w' none -> St X w0 mr w' (Q ++ R) -> WL P n ro df ops rest N ((d, v) :: L) w') :
  WL P n ro df ops (⟨some d, .call ⟨.value x, xs.toArray, ts⟩, ty, pos, af, none⟩ :: rest) N L w :=
 Jjj hfv hf hb hnm hx hn (R := fun v w' => ∃ Q, w.grownBy w' none /\ Rows w.heap.size none w' Q /\ News w.heap.size Q /\ K v Q) (hc.mono fun e w' ⟨v, Q, h1, h2⟩ => ⟨v, h1, Q, h2⟩) fun v w' ⟨Q, h1, h2, h3, h4⟩ => h v Q w' h4 h1 (hS.call h1 h2 h3)
theorem Jhi {x y : Operand} {tx tb e : TypeId} {A : Option Addr} {m c : Nat} {b : Bool} (hb : A.isNone = b) (hu : P.underlying tx = some (.slice e)) (hx : ev L x = some (.slice A m c)) (hy : ev L y = some (.slice none 0 0)) (hn : Nat.blt d n = true)
  (h : WL P n ro df ops rest N ((d, .bool b) :: L) w) : WL P n ro df ops (⟨some d, .binOp .eql tx x y tb, ty, pos, af, none⟩ :: rest) N L w :=
 WL.val rfl rfl hn (fun a ha => by
  have hq : (Op.equal tx (.slice A m c) (.slice none 0 0)).run P w = .ok b w := by
   have : ∀ k, (Op.equalIn (k + 1) tx (.slice A m c) (.slice none 0 0)).run P w = .ok b w := fun k => by
    rw [Op.equalIn]; subst hb; cases A <;> simp [run_underlying hu]
   exact this 9999
  simp [execOp, eqGuard, binOp, ha.ev hx, ha.ev hy, hq]) h
end
end Go.Proofs.Ytgcdbnpenhclfaa
namespace Go.Proofs.Ytgcdbnpenhclfaa
open Go.RowKit
/-! ### the state in loops over functions -/
/-- The pieces that are only read end below B. -/
def Jae (B : Nat) : List Rw -> Prop
  | [] => True
  | .ch _ hi _ :: R => hi <= B /\ Jae B R
  | _ :: R => Jae B R
theorem Jas {w : World} {p : Addr} {v : Value} {r : Nat} {o : Obj} (h : w.cell? p = some v) (ho : w.heap[r]? = some o) (hc : o.isCells = false) : p.block ≠ r := fun e => by
 obtain ⟨o', h1, h2⟩ := cells_of_cell h; rw [e, ho] at h1; cases h1; rw [h2] at hc; cases hc
theorem Rows.stay {b B : Nat} {w w' : World} {row : Option Nat} (hg : w.grownBy w' row) (hr : ∀ r, row = some r -> B <= r /\ ∃ o : Obj, w.heap[r]? = some o /\ o.isCells = false) :
  ∀ {R : List Rw}, Rows b none w R -> Jae B R -> Rows b none w' R
 | [], _, _ => trivial
 | q :: R, h, hc => by
  have ih : Jae B R := by cases q <;> first | exact hc.2 | exact hc
  refine ⟨h.1.step hg (fun g e hat => ?_), h.2.1, Rows.stay hg hr h.2.2 ih⟩; obtain ⟨h1, o, ho, hoc⟩ := hr g e; cases q with
  | row e z A m c cs =>
   obtain ⟨o', h2, h3⟩ := Yb h.1.1 g hat; rw [ho] at h2; cases h2; rw [h3] at hoc; cases hoc
  | ch lo hi Pr => have := hc.1; have := hat.2; omega
  | ro z A m c cs =>
   obtain ⟨ad, e1, e2, e3⟩ := Rd.cells h.1.2 hat.2; have h4 := hat.1; rw [e1] at h4; cases h4; have hl : 0 < cs.length := by rw [Rd.len h.1.2]; exact Nat.mul_pos hat.2 h.1.1
   exact Jas (e3 0 _ (List.getElem?_eq_getElem hl)) ho hoc (JV _ _)
  | mu D Pr =>
   obtain ⟨⟨o', h2, h3⟩, _⟩ := h.1.2.1 g hat; rw [ho] at h2; cases h2; rw [h3] at hoc; cases hoc
def KO (W1 : World) : World -> Prop := fun w => KeepsOthers W1 w
theorem Jgv (W1 : World) : Je0 (KO W1) := fun w w' row h hg hr => KeepsOthers.trans h (KeepsOthers.of_grownBy hg (fun j o e ho => by obtain ⟨o', h1, h2⟩ := hr j e; rw [ho] at h1; cases h1; exact h2))
section
variable {w0 w w' : World} {R : List Rw}
theorem St.stay {B : Nat} (h : St TT w0 none w R) (hB : w0.heap.size <= B) (hc : Jae B R) {row : Option Nat} (hg : w.grownBy w' row) (hr : ∀ r, row = some r -> B <= r /\ ∃ o : Obj, w.heap[r]? = some o /\ o.isCells = false) : St TT w0 none w' R :=
 ⟨Qq h.ext hg (fun g e => .inl (Nat.le_trans hB (hr g e).1)), h.rows.stay hg hr hc, trivial, QA, h.lt⟩
theorem St.toKO (h : St TT w0 none w R) : St (KO w) w0 none w R := ⟨h.ext, h.rows, KeepsOthers.refl w, Jgv w, h.lt⟩
theorem St.ofKO {W1 : World} (h : St (KO W1) w0 none w R) : St TT w0 none w R := ⟨h.ext, h.rows, trivial, QA, h.lt⟩
def Mrk (D : Nat) : World -> Prop := fun w => w.heap[D]? = some (.deferred (some []))
theorem St.mark {D : Nat} (h : St TT w0 none w R) (hB : w0.heap.size <= D) (hD : w.heap[D]? = some (.deferred (some []))) (hc : Jae D R) : St TT w0 none w (.ch D (D + 1) (Mrk D) :: R) := by
 have hlt : D < w.heap.size := (Array.getElem?_eq_some_iff.1 hD).1; refine ⟨h.ext, ⟨⟨hD, hB, hlt, fun x y hxy hx => (hxy D (Nat.le_refl _) (Nat.lt_succ_self _)).trans hx, fun g e => by cases e⟩, fun s hs hm g h1 h2 => ?_, h.rows⟩, h.x, h.cl, h.lt⟩; have hg : g = D := by have := h1.1; have := h1.2; omega
 subst hg; cases s with
 | row e z A m c cs =>
  obtain ⟨o', h3, h4⟩ := Yb (h.rows.mem hs).1 g h2; rw [hD] at h3; cases h3; cases h4
 | ch => simp [Rw.mut] at hm
 | ro => simp [Rw.mut] at hm
 | mu D Pr =>
  obtain ⟨⟨o', h3, h4⟩, _⟩ := (h.rows.mem hs).2.1 g h2; rw [hD] at h3; cases h3; cases h4
/-- The mark is taken at the function's end. -/
theorem St.taken {D : Nat} (h : St TT w0 none w (.ch D (D + 1) (Mrk D) :: R)) (hc : Jae D R) : w.heap[D]? = some (.deferred (some [])) /\ St TT w0 none (w.putObj D (.deferred none)) R := by
  have hD : w.heap[D]? = some (.deferred (some [])) := h.rows.1.1
  have h2 : St TT w0 none w R := ⟨h.ext, h.rows.2.2, trivial, QA, h.lt⟩
  exact ⟨hD, h2.stay h.rows.1.2.1 hc (grownBy_putObj' w D _) (fun r e => by cases e; exact ⟨Nat.le_refl _, _, hD, rfl⟩)⟩
end
theorem Jkp {B : Nat} {q : Int -> Array Value} {x : Array Value} {ad : Addr} : Jey B (fun w1 => ∃ v : Int, x = q v /\ w1.cell? ad = some (.int .i64 v)) := by
 rintro W W' row ⟨v, h1, h2⟩ hg hr; exact ⟨v, h1, hg.cell h2 (fun e => by obtain ⟨_, o, ho, hc⟩ := hr _ e.symm; exact Jas h2 ho hc rfl)⟩
theorem bw_val {B : Nat} {w : World} {A : Option Addr} {m c j : Nat} {l : LI} {v : Int} (h : Rd B w 1 A m c (is l)) (hj : j < m) (hc : w.cell? ((JL A).add j) = some (.int .i64 v)) : v = gi l ((j : Nat) : Int) := by
 have h1 := h.at_ (Jfo (l := l) (j := j) (by have := h.ilen; omega)); rw [h1] at hc; cases hc; simp [gi]
/-- A loop over a function, on the state: σ: what the rounds turn. -/
theorem Jdi {σ : Type} {P : Program} {n : Nat} {df : List Deferred} {N : JD} {B : JN} {L : Fr} {w w0 : World} {g : Operand} {ps : List Nat} {assign body : Code} {gf : Nat} {fn : Func} {c : Code} {lb : Array Value} {M : World -> Prop} {yv : Nat -> Array Value -> World -> Prop} {cnt : Nat} {wq : World}
    (Inv : Nat -> σ -> Prop) (R : σ -> List Rw) (Ex : Exit -> σ -> Prop) (fr : List Value -> Fr) (s0 : σ) (hS : St TT w0 none w (R s0)) (hI0 : Inv 0 s0) (hch : ∀ s, Jae w.heap.size (R s))
    (hg : ev L g = some (.func (.func gf) #[] lb)) (hf : P.funcs[gf]? = some fn) (hfb : fn.body = some c) (hnm : (fn.name == "runtime.NumGoroutine") = false)
    (hseq : SeqJ P gf lb M yv cnt wq) (hb0 : Below wq.heap.size wq w) (hps : ∀ i x W, yv i x W -> x.size = ps.length) (hyv : ∀ i x, Jey w.heap.size (yv i x)) (hpn : ∀ p ∈ ps, p < n)
    (hM : ∀ i s W1, Inv i s -> St TT w0 none W1 (R s) -> M W1)
    (asg : ∀ (l : Nat) (vs : List Value) (W1 : World), vs.length = ps.length -> W P n (some l) [] assign (fun d' L' w' => d' = [] /\ w' = W1 /\ sub (fr vs) L') (fun _ _ _ _ => False) (Jcf ps vs L) W1)
    (rnd : ∀ (l i : Nat) (x : Array Value) (s : σ) (W1 : World), i < cnt -> yv i x W1 -> Inv i s -> St (KO W1) w0 none W1 (R s) -> W P n (some l) [] body (fun _ _ w' => ∃ s', Inv (i + 1) s' /\ St (KO W1) w0 none w' (R s')) (fun e _ _ w' => ∃ s', JT e = true /\ Ex e s' /\ St (KO W1) w0 none w' (R s')) (fr x.toList) W1)
    (done : ∀ (D : Nat) (s : σ) (w1 : World), Inv cnt s -> w.heap.size <= D -> St TT w0 none w1 (.ch D (D + 1) (Mrk D) :: R s) -> N ({ target := .collected D, args := #[] } :: df) L w1)
    (stop : ∀ (D : Nat) (e : Exit) (s : σ) (w1 : World), JT e = true -> Ex e s -> w.heap.size <= D -> St TT w0 none w1 (.ch D (D + 1) (Mrk D) :: R s) -> exits B ({ target := .collected D, args := #[] } :: df) L w1 e) :
    W P n none df (.rangeFunc g ps.toArray assign body) N B L w := by
  have hsz := hS.size
  have mono : ∀ {a b : Nat} {Q : List Rw}, a <= b -> Jae a Q -> Jae b Q := by
    intro a b Q hab
    induction Q with
    | nil => intro _; trivial
    | cons q Q ih => intro h; cases q <;> first | exact ⟨Nat.le_trans h.1 hab, ih h.2⟩ | exact ih h
  refine Jk1 (I := fun i W => ∃ s, Inv i s /\ St TT w0 none W (R s)) (IX := fun e i W => ∃ s, Ex e s /\ St TT w0 none W (R s)) (fr := fr) hg hf hfb hnm hseq hb0 hps hyv hpn ?_ ?_ ⟨s0, hI0, hS⟩ (fun i W1 ⟨s, h1, h2⟩ => hM i s W1 h1 h2) asg ?_ ?_ ?_
  . rintro i W1 W2 row ⟨s, h1, h2⟩ hgr hr; exact ⟨s, h1, h2.stay hsz (hch s) hgr hr⟩
  . rintro e i W1 W2 row ⟨s, h1, h2⟩ hgr hr; exact ⟨s, h1, h2.stay hsz (hch s) hgr hr⟩
  . rintro l i x W1 hi hx ⟨s, h1, h2⟩
    refine ⟨fun a ha => wpIn_mono ((rnd l i x s W1 hi hx h1 h2.toKO).out a ha) fun e a' w' q => ?_⟩
    cases e with
    | normal => obtain ⟨d', L', hL, s', h3, h4⟩ := q; exact ⟨d', L', hL, h4.x, s', h3, h4.ofKO⟩
    | _ => obtain ⟨d', L', hL, s', h0, h3, h4⟩ := q; exact ⟨d', L', hL, h0, h4.x, s', h3, h4.ofKO⟩
  . rintro D w1 hD ⟨s, h1, h2⟩ hd
    exact done D s w1 h1 hD (h2.mark (Nat.le_trans hsz hD) hd (mono hD (hch s)))
  . rintro D e i w1 hD hi he ⟨s, h1, h2⟩ hd
    exact stop D e s w1 he h1 hD (h2.mark (Nat.le_trans hsz hD) hd (mono hD (hch s)))
end Go.Proofs.Ytgcdbnpenhclfaa
namespace Go.Proofs.Ytgcdbnpenhclfaa
open Go.RowKit
/-! ### regions that draw their order: new rows are apart, copies are the same -/
def vb : Value -> Option Nat
  | .slice A _ _ => bl A
  | .pointer (some a) => some a.block
  | _ => none
/-- What is to be shown of an operation; al: those that yield a new row; cp: those that copy another's value. -/
def obA (P : Program) (n : Nat) (ro : Option Nat) (df : List Deferred) (l : List Oper) (al : Nat -> Bool) (cp : Nat -> Option Nat) (ph : Nat -> Value -> Value -> Prop) (V : Nat -> Value -> World -> Prop) (D : Nat -> Value -> World -> Nat -> Prop) (w0 : World) (i : Nat) (o : Oper) (p : Plan) (base : Fr) : Prop :=
  ∀ w, (p.pure = false -> w0.grownBy w none) -> Jga l V w (fun F => ∀ R : Fr, WL P n ro df l.toArray [o]
    (fun _ L' w' => ∃ u, L' = ((Jz l i).getD 0, u) :: (F ++ R) /\ (if p.pure then w' = w else w.grownBy w' none) /\ V i u w' /\ (al i = true -> ∀ g, D i u w' g -> w.heap.size <= g /\ g < w'.heap.size) /\ (∀ j, cp i = some j -> ∃ u', lk (F ++ R) ((Jz l j).getD 0) = some u' /\ ph i u' u)) (F ++ R) w) p.on base
def Jgl (P : Program) (n : Nat) (ro : Option Nat) (df : List Deferred) (l : List Oper) (al : Nat -> Bool) (cp : Nat -> Option Nat) (ph : Nat -> Value -> Value -> Prop) (V : Nat -> Value -> World -> Prop) (D : Nat -> Value -> World -> Nat -> Prop) (w0 : World) (L : Fr) : Nat -> List Oper -> List Plan -> List Fr -> Prop
  | i, o :: os, p :: ps, b :: bs => (b.map (·.1) = p.slots /\ sub b L /\ obA P n ro df l al cp ph V D w0 i o p b) /\ Jgl P n ro df l al cp ph V D w0 L (i + 1) os ps bs
  | _, [], [], [] => True
  | _, _, _, _ => False
/-- New rows done are apart, copies done are the same. -/
structure Ap (al : Nat -> Bool) (cp : Nat -> Option Nat) (ph : Nat -> Value -> Value -> Prop) (D : Nat -> Value -> World -> Nat -> Prop) (d : Nat -> Bool) (vals : Nat -> Value) (w : World) : Prop where
  lt : ∀ k, d k = true -> al k = true -> ∀ g, D k (vals k) w g -> g < w.heap.size
  ap : ∀ j k, j ≠ k -> d j = true -> d k = true -> al j = true -> al k = true -> ∀ g, D j (vals j) w g -> ¬ D k (vals k) w g
  cp_ : ∀ i j, d i = true -> cp i = some j -> ph i (vals j) (vals i)
end Go.Proofs.Ytgcdbnpenhclfaa
