/- Contracts of functions of the program, and what they lean on: Fk, Fc, V1, V2, V3, V4, V5, V6, V7, Fr, Fs2, Ft. -/
import Derived.Test.YthjpminlkcklgaaTowerTransitiveG7
set_option linter.unusedVariables false
namespace Go.Proofs.Ythjpminlkcklgaa
/-! ### the fields of up to 256 elements, looked at one by one -/
/-- Horner's rule, k coefficients from the top -/
def hz (m : Nat) (c b y : Vec) (n : Nat) : Nat → Vec
  | 0 => vz
  | k + 1 => vadd (tX m c (hz m c b y n k)) (vsm (b (n - 1 - k)) y)
theorem hz_opr {m : Nat} {c b y : Vec} {n : Nat} : ∀ {k : Nat}, k ≤ n → vadd (tXn m c (n - k) (hz m c b y n k)) (opr m c b (n - k) y) = opr m c b n y
  | 0, _ => by simp only [hz, Nat.sub_zero]; rw [tXn_z, z_vadd]
  | k + 1, h => by
    have ih := hz_opr (m := m) (c := c) (b := b) (y := y) (n := n) (k := k) (by omega)
    obtain ⟨r, hr⟩ : ∃ r, n - k = r + 1 := ⟨n - k - 1, by omega⟩
    rw [show n - (k + 1) = r by omega]
    rw [hr] at ih
    rw [← ih]
    show vadd (tXn m c r (vadd (tX m c (hz m c b y n k)) (vsm (b (n - 1 - k)) y))) (opr m c b r y) = vadd (tX m c (tXn m c r (hz m c b y n k))) (vadd (opr m c b r y) (vsm (b r) (tXn m c r y)))
    rw [tXn_add, tXn_sm, tXn_succ, show n - 1 - k = r by omega, vadd_assoc, vadd_comm (vsm _ _)]
theorem hz_all (m : Nat) (c b y : Vec) (n : Nat) : hz m c b y n n = opr m c b n y := by
  have := hz_opr (m := m) (c := c) (b := b) (y := y) (n := n) (k := n) (Nat.le_refl n)
  rw [Nat.sub_self] at this
  rw [← this]; exact (vadd_z _).symm
def dgl (p : Nat) : Nat → Nat → List Nat
  | 0, _ => []
  | n + 1, x => (x % p) :: dgl p n (x / p)
theorem dgl_len (p : Nat) : ∀ n x, (dgl p n x).length = n
  | 0, _ => rfl
  | n + 1, x => by simp [dgl, dgl_len p n]
theorem dgl_at (p : Nat) : ∀ n x i, i < n → (((dgl p n x).getD i 0 : Nat) : Int) = dv p x i
  | 0, _, i, h => by omega
  | n + 1, x, 0, _ => by rw [dv_zero]; rfl
  | n + 1, x, i + 1, h => by
    show (((dgl p n (x / p)).getD i 0 : Nat) : Int) = _
    rw [dgl_at p n (x / p) i (by omega), dv_succ]
@[reducible] noncomputable def hd0 (l : List Nat) : Nat := List.rec (motive := fun _ => Nat) 0 (fun x _ _ => x) l
@[reducible] noncomputable def tl0 (l : List Nat) : List Nat := List.rec (motive := fun _ => List Nat) [] (fun _ l _ => l) l
/-- X u + a y -/
noncomputable def go (p a top : Nat) (cs : List Nat) : Nat → List Nat → List Nat → List Nat :=
  List.rec (motive := fun _ => Nat → List Nat → List Nat → List Nat) (fun _ _ _ => [])
    (fun c _ ih prev us ys => ((prev + (p - c) * top + a * hd0 ys) % p) :: ih (hd0 us) (tl0 us) (tl0 ys)) cs
noncomputable def tp (l : List Nat) : Nat → Nat := List.rec (motive := fun _ => Nat → Nat) (fun d => d) (fun x _ ih _ => ih x) l
noncomputable def mulL (p : Nat) (cs ys gs : List Nat) : List Nat → List Nat :=
  List.rec (motive := fun _ => List Nat → List Nat) (fun acc => acc) (fun g _ ih acc => ih (go p g (tp acc 0) cs 0 acc ys)) gs
noncomputable def az (l : List Nat) : Bool := List.rec (motive := fun _ => Bool) true (fun x _ ih => bif Nat.beq x 0 then ih else false) l
noncomputable def is1 (l : List Nat) : Bool := List.rec (motive := fun _ => Bool) false (fun x t _ => bif Nat.beq x 1 then az t else false) l
noncomputable def run (p : Nat) (cs gs : List Nat) (n : Nat) : List Nat → Bool :=
  Nat.rec (motive := fun _ => List Nat → Bool) (fun y => is1 y) (fun _ ih y => bif is1 y then false else ih (mulL p cs y gs y)) n
noncomputable def subm (p c : Nat) (al : List Nat) : List Nat → List Nat :=
  List.rec (motive := fun _ => List Nat → List Nat) (fun bs => bs) (fun a _ ih bs => ((hd0 bs + (p - a) * c) % p) :: ih (tl0 bs)) al
noncomputable def dvg (p : Nat) (low : List Nat) (k : Nat) : List Nat → Bool :=
  Nat.rec (motive := fun _ => List Nat → Bool) (fun r => az r) (fun _ ih r => ih (subm p (hd0 r) low (tl0 r))) k
/-- 'no i below n has f i' -/
noncomputable def nob (f : Nat → Bool) (n : Nat) : Bool := Nat.rec (motive := fun _ => Bool) true (fun i ih => bif f i then false else ih) n
noncomputable def irrB (p m : Nat) (ml : List Nat) : Bool :=
  nob (fun d => !nob (fun w => dvg p (dgl p (d + 1) w).reverse (m - d) (1 :: ml.reverse)) (p ^ (d + 1))) (m / 2)
noncomputable def cand (p c : Nat) : List Nat := bif Nat.blt c p then [c] else bif Nat.blt c (p + p * p) then [(c - p) / p, (c - p) % p] else [(c - p - p * p) / (p * p), (c - p - p * p) / p % p, (c - p - p * p) % p]
noncomputable def gen1 (p m : Nat) (cs gs : List Nat) : Bool := run p cs gs (p ^ m - 2) (mulL p cs (dgl p m 1) gs (dgl p m 1))
noncomputable def genB (p m : Nat) (cs : List Nat) : Bool := !nob (fun c => gen1 p m cs (cand p (p + p * p + p * p * p - 1 - c))) (p + p * p + p * p * p)
noncomputable def chk (p m lo n : Nat) : Bool := nob (fun v => bif irrB p m (dgl p m (lo + v)) then !genB p m (dgl p m (lo + v)) else false) n

/-! #### what the functions of the check say -/
theorem hd0_eq (l : List Nat) : hd0 l = l.getD 0 0 := by cases l <;> rfl
theorem tl0_at (l : List Nat) (i : Nat) : (tl0 l).getD i 0 = l.getD (i + 1) 0 := by cases l <;> rfl
theorem tl0_len (l : List Nat) : (tl0 l).length = l.length - 1 := by cases l <;> simp [tl0]
theorem go_cons (p a top c : Nat) (cs : List Nat) (prev : Nat) (us ys : List Nat) : go p a top (c :: cs) prev us ys = ((prev + (p - c) * top + a * hd0 ys) % p) :: go p a top cs (hd0 us) (tl0 us) (tl0 ys) := rfl
theorem go_len (p a top : Nat) : ∀ (cs : List Nat) (prev : Nat) (us ys : List Nat), (go p a top cs prev us ys).length = cs.length
  | [], _, _, _ => rfl
  | c :: cs, prev, us, ys => by rw [go_cons, List.length_cons, go_len p a top cs, List.length_cons]
theorem go_at (p a top : Nat) : ∀ (cs : List Nat) (prev : Nat) (us ys : List Nat) (i : Nat), i < cs.length → (go p a top cs prev us ys).getD i 0 = ((if i = 0 then prev else us.getD (i - 1) 0) + (p - cs.getD i 0) * top + a * ys.getD i 0) % p
  | [], _, _, _, i, h => by simp at h
  | c :: cs, prev, us, ys, 0, _ => by rw [go_cons, hd0_eq]; rfl
  | c :: cs, prev, us, ys, i + 1, h => by
    rw [go_cons]
    show (go p a top cs (hd0 us) (tl0 us) (tl0 ys)).getD i 0 = _
    rw [go_at p a top cs _ _ _ i (by simpa using h)]
    cases i with
    | zero => rw [if_pos rfl, if_neg (by omega), hd0_eq, tl0_at]; rfl
    | succ i => rw [if_neg (by omega), if_neg (by omega), tl0_at, tl0_at]; rfl
theorem tp_eq : ∀ (l : List Nat) (d : Nat), 0 < l.length → tp l d = l.getD (l.length - 1) 0
  | [], _, h => by simp at h
  | [x], d, _ => rfl
  | x :: y :: l, d, _ => by
    show tp (y :: l) x = _
    rw [tp_eq (y :: l) x (by simp)]
    simp
def Rep (p m : Nat) (L : List Nat) (v : Vec) : Prop := L.length = m ∧ ∀ i, i < m → ((L.getD i 0 : Nat) : Int) = v i % (p : Int)
/-- Horner's rule over a list -/
def hl (m : Nat) (c y : Vec) : List Nat → Vec → Vec
  | [], u => u
  | g :: gs, u => hl m c y gs (vadd (tX m c u) (vsm g y))
theorem Rep.step {p m : Nat} {cs us ys : List Nat} {c u y : Vec} (hp : 0 < p) (hm : 0 < m) (hc : Rep p m cs c) (hu : Rep p m us u) (hy : Rep p m ys y) (g : Nat) :
    Rep p m (go p g (tp us 0) cs 0 us ys) (vadd (tX m c u) (vsm g y)) := by
  refine ⟨by rw [go_len, hc.1], fun i hi => ?_⟩
  rw [go_at _ _ _ _ _ _ _ _ (by rw [hc.1]; exact hi), tp_eq _ _ (by rw [hu.1]; exact hm), hu.1]
  have h1 := hu.2 (m - 1) (by omega)
  have h2 := hc.2 i hi
  have h3 := hy.2 i hi
  have hlt : cs.getD i 0 ≤ p := by
    have := Int.emod_lt_of_pos (c i) (show (0 : Int) < p by omega)
    omega
  have e : (((if i = 0 then 0 else us.getD (i - 1) 0) : Nat) : Int) % p = (if i = 0 then (0 : Int) else u (i - 1)) % p := by
    split
    · rfl
    · rw [hu.2 (i - 1) (by omega), Int.emod_emod]
  simp only [vadd, vsm, tX, if_pos hi]
  generalize (if i = 0 then 0 else us.getD (i - 1) 0 : Nat) = A at *
  generalize (if i = 0 then (0 : Int) else u (i - 1)) = B at *
  generalize us.getD (m - 1) 0 = T at *
  generalize cs.getD i 0 = C at *
  generalize ys.getD i 0 = Y at *
  have hT : ((T : Nat) : Int) % p = u (m - 1) % p := by rw [h1, Int.emod_emod]
  have hC : ((C : Nat) : Int) % p = c i % p := by rw [h2, Int.emod_emod]
  have hY : ((Y : Nat) : Int) % p = y i % p := by rw [h3, Int.emod_emod]
  obtain ⟨D, hD⟩ : ∃ D, p = C + D := ⟨p - C, by omega⟩
  have hsub : p - C = D := by omega
  rw [hsub]
  have hcast : ((A + D * T + g * Y : Nat) : Int) = ((A : Int) - C * T + g * Y) + p * T := by
    have : (p : Int) = C + D := by omega
    rw [this]; push_cast; rw [Int.add_mul]; omega
  rw [Int.natCast_emod, hcast, Int.add_mul_emod_self_left]
  exact add_cg (sub_cg e (mul_cg hC hT)) (mul_cg rfl hY)
theorem mulL_cons (p : Nat) (cs ys : List Nat) (g : Nat) (gs acc : List Nat) : mulL p cs ys (g :: gs) acc = mulL p cs ys gs (go p g (tp acc 0) cs 0 acc ys) := rfl
theorem Rep.mul {p m : Nat} {cs ys : List Nat} {c y : Vec} (hp : 0 < p) (hm : 0 < m) (hc : Rep p m cs c) (hy : Rep p m ys y) : ∀ {gs us : List Nat} {u : Vec}, Rep p m us u → Rep p m (mulL p cs ys gs us) (hl m c y gs u)
  | [], _, _, h => h
  | g :: gs, us, u, h => by rw [mulL_cons]; exact Rep.mul hp hm hc hy (Rep.step hp hm hc h hy g)
theorem hl_sup {m : Nat} {c y : Vec} (hy : Sup m y) : ∀ {gs : List Nat} {u : Vec}, Sup m u → Sup m (hl m c y gs u)
  | [], _, h => h
  | g :: gs, u, h => hl_sup (gs := gs) (u := vadd (tX m c u) (vsm g y)) hy (Sup.add Sup.tX hy.sm)
/-- a polynomial in X applied to y is a product -/
theorem hl_opr {m : Nat} {c y : Vec} (hy : Sup m y) : ∀ {gs : List Nat} {U : Vec}, hl m c y gs (opr m c y m U) = opr m c y m (hl m c e0 gs U)
  | [], _ => rfl
  | g :: gs, U => by
    show hl m c y gs (vadd (tX m c (opr m c y m U)) (vsm g y)) = opr m c y m (hl m c e0 gs (vadd (tX m c U) (vsm g e0)))
    rw [← hl_opr hy, opr_add, opr_sm, opr_self hy]
    have := opr_tXn m c y m 1 U
    rw [show tXn m c 1 U = tX m c U from rfl, show tXn m c 1 (opr m c y m U) = tX m c (opr m c y m U) from rfl] at this
    rw [this]
theorem e0_sup {m : Nat} (hm : 0 < m) : Sup m e0 := fun i hi => by simp [e0, show i ≠ 0 by omega]
theorem hl_mul {m : Nat} {c y : Vec} (hm : 0 < m) (hy : Sup m y) (gs : List Nat) : hl m c y gs y = vmul m c y (hl m c e0 gs e0) := by
  rw [vmul_comm hy (hl_sup (e0_sup hm) (e0_sup hm))]
  show _ = opr m c y m (hl m c e0 gs e0)
  rw [← hl_opr hy, opr_self hy]
theorem Rep.dv {p m x : Nat} : Rep p m (dgl p m x) (dv p x) := ⟨dgl_len p m x, fun i hi => by rw [dgl_at p m x i hi, dv_mod]⟩
theorem Rep.cg {p m : Nat} {L : List Nat} {u v : Vec} (h : Rep p m L u) (hv : ∀ i, i < m → u i % (p : Int) = v i % (p : Int)) : Rep p m L v := ⟨h.1, fun i hi => by rw [h.2 i hi, hv i hi]⟩
theorem az_cons (x : Nat) (l : List Nat) : az (x :: l) = bif Nat.beq x 0 then az l else false := rfl
theorem az_iff : ∀ l : List Nat, az l = true ↔ ∀ i, i < l.length → l.getD i 0 = 0
  | [] => ⟨fun _ i h => by simp at h, fun _ => rfl⟩
  | x :: l => by
    rw [az_cons]
    cases hx : Nat.beq x 0 with
    | true =>
      have := Nat.eq_of_beq_eq_true hx
      subst this
      rw [show (bif true then az l else false) = az l from rfl, az_iff l]
      constructor
      · intro h i hi
        cases i with
        | zero => rfl
        | succ i => exact h i (by simpa using hi)
      · intro h i hi; exact h (i + 1) (by simpa using hi)
    | false =>
      rw [show (bif false then az l else false) = false from rfl]
      constructor
      · intro h; cases h
      · intro h
        have := h 0 (by simp)
        simp only [List.getD_cons_zero] at this
        subst this; cases hx
theorem is1_iff {p m x : Nat} {L : List Nat} (hp : 2 ≤ p) (hm : 0 < m) (hx : x < p ^ m) (h : Rep p m L (Go.Proofs.Ythjpminlkcklgaa.dv p x)) : is1 L = true ↔ x = 1 := by
  obtain ⟨a, l, rfl⟩ : ∃ a l, L = a :: l := by
    cases L with
    | nil => have := h.1; simp at this; omega
    | cons a l => exact ⟨a, l, rfl⟩
  have hlen : l.length + 1 = m := h.1
  have h0 := h.2 0 hm
  have e : is1 (a :: l) = bif Nat.beq a 1 then az l else false := rfl
  rw [e]
  constructor
  · intro hb
    cases ha : Nat.beq a 1 with
    | false => rw [ha] at hb; cases hb
    | true =>
      rw [ha] at hb
      have hz := (az_iff l).1 hb
      have ha1 := Nat.eq_of_beq_eq_true ha
      subst ha1
      rw [← nm_dv (p := p) (m := m) (by omega) hx, ← nm_dv (p := p) (m := m) (x := 1) (by omega) (Nat.one_lt_pow (by omega) (by omega))]
      refine nm_cg fun i hi => ?_
      rw [dv_one hp, dv_mod, ← dv_mod, ← h.2 i hi]
      cases i with
      | zero =>
        show (1 : Int) = e0 0 % p
        simp only [e0, if_pos]
        exact (Int.emod_eq_of_lt (by omega) (by omega)).symm
      | succ i =>
        show ((l.getD i 0 : Nat) : Int) = e0 (i + 1) % p
        rw [hz i (by omega)]; simp [e0]
  · intro hx1
    subst hx1
    have ha : a = 1 := by
      have : ((a : Nat) : Int) = Go.Proofs.Ythjpminlkcklgaa.dv p 1 0 % p := h0
      rw [dv_mod, dv_one hp] at this; simp [e0] at this; omega
    subst ha
    show az l = true
    refine (az_iff l).2 fun i hi => ?_
    have : ((l.getD i 0 : Nat) : Int) = Go.Proofs.Ythjpminlkcklgaa.dv p 1 (i + 1) % p := h.2 (i + 1) (by omega)
    rw [dv_mod, dv_one hp] at this
    simp only [e0] at this; rw [if_neg (by omega)] at this
    exact Int.ofNat_eq_zero.1 this
/-- the element whose Horner form is the list (a leading 1 ahead of it) -/
def gel (p m : Nat) (c : Vec) (gs : List Nat) : Nat := nm p m (hl m c e0 gs e0)
theorem Rep.next {p m x : Nat} {cs L gs : List Nat} {c : Vec} (hp : 2 ≤ p) (hm : 0 < m) (hx : x < p ^ m) (hc : Rep p m cs c) (h : Rep p m L (Go.Proofs.Ythjpminlkcklgaa.dv p x)) : Rep p m (mulL p cs L gs L) (Go.Proofs.Ythjpminlkcklgaa.dv p (fmul p m c x (gel p m c gs))) := by
  have h1 := Rep.mul (gs := gs) (by omega) hm hc h h
  rw [hl_mul hm (dv_sup hx)] at h1
  refine h1.cg fun i hi => ?_
  have hs := hl_sup (c := c) (gs := gs) (e0_sup hm) (e0_sup hm)
  have e1 := dv_fmul (p := p) (m := m) (c := c) (by omega) hx (y := gel p m c gs)
  have e2 := vcg.mul (m := m) (vcg.refl (p := p) c) (vcg.refl (Go.Proofs.Ythjpminlkcklgaa.dv p x)) (cg_nm (p := p) (m := m) (by omega) hs)
  exact ((e1.trans e2) i).symm
theorem run_succ (p : Nat) (cs gs : List Nat) (n : Nat) (y : List Nat) : run p cs gs (n + 1) y = bif is1 y then false else run p cs gs n (mulL p cs y gs y) := rfl
theorem run_ok {p m : Nat} {cs gs : List Nat} {c : Vec} (hp : 2 ≤ p) (hm : 0 < m) (hc : Rep p m cs c) : ∀ {n : Nat} {L : List Nat} {x : Nat}, x < p ^ m → Rep p m L (Go.Proofs.Ythjpminlkcklgaa.dv p x) → run p cs gs n L = true →
    (∀ k, k < n → fmul p m c x (pw (fmul p m c) (gel p m c gs) k) ≠ 1) ∧ fmul p m c x (pw (fmul p m c) (gel p m c gs) n) = 1
  | 0, L, x, hx, h, hr => by
    refine ⟨fun k hk => by omega, ?_⟩
    show fmul p m c x 1 = 1
    rw [fmul_one hp hm hx]
    exact (is1_iff hp hm hx h).1 hr
  | n + 1, L, x, hx, h, hr => by
    rw [run_succ] at hr
    cases h1 : is1 L with
    | true => rw [h1] at hr; cases hr
    | false =>
      rw [h1] at hr
      have R := CR.mk' (p := p) (m := m) c hp hm
      have hg : gel p m c gs < p ^ m := nm_lt (by omega) _
      have ih := run_ok hp hm hc (fmul_lt (by omega) x _) (Rep.next (gs := gs) hp hm hx hc h) hr
      have e : ∀ k, fmul p m c (fmul p m c x (gel p m c gs)) (pw (fmul p m c) (gel p m c gs) k) = fmul p m c x (pw (fmul p m c) (gel p m c gs) (k + 1)) := fun k => by
        rw [R.Ma hx hg (R.pw_lt _ k), R.Mc hg (R.pw_lt _ k)]; rfl
      refine ⟨fun k hk => ?_, by rw [← e]; exact ih.2⟩
      cases k with
      | zero =>
        show fmul p m c x 1 ≠ 1
        rw [fmul_one hp hm hx]
        intro hx1; rw [(is1_iff hp hm hx h).2 hx1] at h1; cases h1
      | succ k => rw [← e]; exact ih.1 k (by omega)
theorem gen1_ok {p m : Nat} {cs gs : List Nat} {c : Vec} (hp : 2 ≤ p) (hm : 0 < m) (hc : Rep p m cs c) (h : gen1 p m cs gs = true) : Gn (p ^ m) (fmul p m c) (gel p m c gs) := by
  have R := CR.mk' (p := p) (m := m) c hp hm
  have hg : gel p m c gs < p ^ m := nm_lt (by omega) _
  have h1 := Rep.next (gs := gs) hp hm R.one_lt hc Rep.dv
  rw [R.I1 hg] at h1
  obtain ⟨h2, h3⟩ := run_ok hp hm hc hg h1 h
  have hq := R.q2
  have e : ∀ k, fmul p m c (gel p m c gs) (pw (fmul p m c) (gel p m c gs) k) = pw (fmul p m c) (gel p m c gs) (k + 1) := fun k => R.Mc hg (R.pw_lt _ k)
  refine ⟨hg, ?_, fun k h0 hk => ?_⟩
  · rw [show p ^ m - 1 = (p ^ m - 2) + 1 by omega, ← e]; exact h3
  · rw [show k = (k - 1) + 1 by omega, ← e]; exact h2 (k - 1) (by omega)
theorem nob_succ (f : Nat → Bool) (n : Nat) : nob f (n + 1) = bif f n then false else nob f n := rfl
theorem nob_iff (f : Nat → Bool) : ∀ n, nob f n = true ↔ ∀ i, i < n → f i = false
  | 0 => ⟨fun _ i h => by omega, fun _ => rfl⟩
  | n + 1 => by
    rw [nob_succ]
    cases h : f n with
    | true =>
      refine ⟨fun h' => ?_, fun h' => ?_⟩
      · cases h'
      · rw [h' n (by omega)] at h; cases h
    | false =>
      show nob f n = true ↔ _
      rw [nob_iff f n]
      refine ⟨fun h' i hi => ?_, fun h' i hi => h' i (by omega)⟩
      rcases Nat.lt_or_ge i n with h1 | h1
      · exact h' i h1
      · rw [show i = n by omega]; exact h
theorem nob_false (f : Nat → Bool) (n : Nat) (h : nob f n = false) : ∃ i, i < n ∧ f i = true := by
  have hn : ¬ ∀ i, i < n → f i = false := fun h' => by rw [(nob_iff f n).2 h'] at h; cases h
  have := Classical.not_forall.1 hn
  obtain ⟨i, hi⟩ := this
  have h2 := Classical.not_imp.1 hi
  exact ⟨i, h2.1, by cases hf : f i with | true => rfl | false => exact absurd hf h2.2⟩
theorem genB_ok {p m : Nat} {cs : List Nat} {c : Vec} (hp : 2 ≤ p) (hm : 0 < m) (hc : Rep p m cs c) (h : genB p m cs = true) : ∃ g, Gn (p ^ m) (fmul p m c) g := by
  unfold genB at h
  obtain ⟨i, _, hi⟩ := nob_false _ _ (by simpa using h)
  exact ⟨_, gen1_ok hp hm hc hi⟩
/-! #### division by a monic polynomial -/
def rst (p d i : Nat) (l R : Vec) : Vec := fun j => if i ≤ j + d ∧ j < i then (R j - l (j + d - i) * R i) % (p : Int) else R j
def rem (p d : Nat) (l R : Vec) (n : Nat) : Nat → Vec
  | 0 => R
  | k + 1 => rst p d (n - 1 - k) l (rem p d l R n k)
/-- the remainder is 0 -/
def Dvd (p d : Nat) (l R : Vec) (n : Nat) : Prop := ∀ j, j < d → rem p d l R n (n - d) j = 0
def Irr (p m : Nat) (c : Vec) : Prop := ∀ d, 0 < d → 2 * d ≤ m → ∀ w, w < p ^ d → ¬ Dvd p d (dv p w) (fun i => if i = m then 1 else c i) (m + 1)
theorem subm_cons (p c a : Nat) (al bs : List Nat) : subm p c (a :: al) bs = ((hd0 bs + (p - a) * c) % p) :: subm p c al (tl0 bs) := rfl
theorem subm_len (p c : Nat) : ∀ al bs : List Nat, al.length ≤ bs.length → (subm p c al bs).length = bs.length
  | [], _, _ => rfl
  | a :: al, [], h => by simp at h
  | a :: al, b :: bs, h => by
    rw [subm_cons, List.length_cons]
    show (subm p c al bs).length + 1 = _
    rw [subm_len p c al bs (by simpa using h)]; rfl
theorem subm_at (p c : Nat) : ∀ (al bs : List Nat) (t : Nat), (subm p c al bs).getD t 0 = if t < al.length then (bs.getD t 0 + (p - al.getD t 0) * c) % p else bs.getD t 0
  | [], bs, t => by simp; rfl
  | a :: al, bs, 0 => by rw [subm_cons, hd0_eq]; simp
  | a :: al, bs, t + 1 => by
    rw [subm_cons]
    show (subm p c al (tl0 bs)).getD t 0 = _
    rw [subm_at p c al (tl0 bs) t, tl0_at]
    simp
theorem dvg_succ (p : Nat) (low : List Nat) (k : Nat) (r : List Nat) : dvg p low (k + 1) r = dvg p low k (subm p (hd0 r) low (tl0 r)) := rfl
theorem dvg_ok {p d n : Nat} {l R : Vec} {low : List Nat} (hp : 0 < p) (hl : low.length = d) (hlow : ∀ t, t < d → ((low.getD t 0 : Nat) : Int) = l (d - 1 - t)) (hlp : ∀ t, t < d → low.getD t 0 ≤ p) : ∀ (s k : Nat) (r : List Nat), s + k + d = n → r.length = n - k →
    (∀ t, t < n - k → ((r.getD t 0 : Nat) : Int) = rem p d l R n k (n - 1 - k - t)) → (dvg p low s r = true ↔ Dvd p d l R n)
  | 0, k, r, hs, hr, hv => by
    have : n - k = d := by omega
    rw [this] at hr hv
    show az r = true ↔ _
    rw [az_iff, hr]
    have hk : n - d = k := by omega
    unfold Dvd; rw [hk]
    constructor
    · intro h j hj
      have := hv (d - 1 - j) (by omega)
      rw [h (d - 1 - j) (by omega), show n - 1 - k - (d - 1 - j) = j by omega] at this
      exact this.symm
    · intro h t ht
      have := hv t ht
      rw [h (n - 1 - k - t) (by omega)] at this
      exact Int.ofNat_eq_zero.1 this
  | s + 1, k, r, hs, hr, hv => by
    rw [dvg_succ]
    have htl : (tl0 r).length = n - (k + 1) := by rw [tl0_len, hr]; omega
    refine dvg_ok hp hl hlow hlp s (k + 1) _ (by omega) (by rw [subm_len _ _ _ _ (by rw [htl, hl]; omega), htl]) fun t ht => ?_
    rw [subm_at, hl, tl0_at, hd0_eq]
    have h0 := hv 0 (by omega)
    rw [Nat.sub_zero] at h0
    have h1 := hv (t + 1) (by omega)
    rw [show n - 1 - k - (t + 1) = n - 1 - (k + 1) - t by omega] at h1
    show _ = rst p d (n - 1 - k) l (rem p d l R n k) (n - 1 - (k + 1) - t)
    unfold rst
    by_cases htd : t < d
    · rw [if_pos htd, if_pos (by omega)]
      have h2 := hlow t htd
      have h3 := hlp t htd
      rw [show n - 1 - (k + 1) - t + d - (n - 1 - k) = d - 1 - t by omega, ← h0, ← h1, ← h2]
      generalize r.getD (t + 1) 0 = X at *
      generalize low.getD t 0 = Y at *
      generalize r.getD 0 0 = Z at *
      obtain ⟨D, hD⟩ : ∃ D, p = Y + D := ⟨p - Y, by omega⟩
      rw [show p - Y = D by omega, Int.natCast_emod]
      have hcast : ((X + D * Z : Nat) : Int) = ((X : Int) - Y * Z) + p * Z := by
        have : (p : Int) = Y + D := by omega
        rw [this]; push_cast; rw [Int.add_mul]; omega
      rw [hcast, Int.add_mul_emod_self_left]
    · rw [if_neg htd, if_neg (by omega)]; exact h1
theorem getD_rev (l : List Nat) (t : Nat) (h : t < l.length) : l.reverse.getD t 0 = l.getD (l.length - 1 - t) 0 := by
  rw [List.getD_eq_getElem?_getD, List.getD_eq_getElem?_getD, List.getElem?_reverse h]
theorem dv_le {p : Nat} (hp : 0 < p) (x i : Nat) : 0 ≤ dv p x i ∧ dv p x i < p := dv_cn hp x (i + 1) i (by omega)
theorem irrB_iff {p m v : Nat} (hp : 0 < p) (hv : v < p ^ m) : irrB p m (dgl p m v) = true ↔ Irr p m (dv p v) := by
  have key : ∀ d w, 0 < d → 2 * d ≤ m → (dvg p (dgl p d w).reverse (m + 1 - d) (1 :: (dgl p m v).reverse) = true ↔ Dvd p d (dv p w) (fun i => if i = m then 1 else dv p v i) (m + 1)) := fun d w hd h2 => by
    refine dvg_ok hp (by rw [List.length_reverse, dgl_len]) (fun t ht => ?_) (fun t ht => ?_) (m + 1 - d) 0 _ (by omega) (by simp [dgl_len]) fun t ht => ?_
    · rw [getD_rev _ _ (by rw [dgl_len]; exact ht), dgl_len, dgl_at _ _ _ _ (by omega)]
    · rw [getD_rev _ _ (by rw [dgl_len]; exact ht), dgl_len]
      have := dgl_at p d w (d - 1 - t) (by omega)
      have := dv_le hp w (d - 1 - t)
      omega
    · show _ = if m + 1 - 1 - 0 - t = m then (1 : Int) else dv p v (m + 1 - 1 - 0 - t)
      cases t with
      | zero => rw [if_pos (by omega)]; rfl
      | succ t =>
        rw [if_neg (by omega)]
        show (((dgl p m v).reverse.getD t 0 : Nat) : Int) = _
        rw [getD_rev _ _ (by rw [dgl_len]; omega), dgl_len, dgl_at _ _ _ _ (by omega), show m + 1 - 1 - 0 - (t + 1) = m - 1 - t by omega]
  unfold irrB
  rw [nob_iff]
  constructor
  · intro h d hd h2 w hw hD
    have h3 := h (d - 1) (by omega)
    have h4 := (nob_iff _ _).1 (by simpa using h3) w (by rw [show d - 1 + 1 = d by omega]; exact hw)
    rw [show d - 1 + 1 = d by omega, show m - (d - 1) = m + 1 - d by omega, (key d w hd h2).2 hD] at h4
    cases h4
  · intro h d hd
    have : nob (fun w => dvg p (dgl p (d + 1) w).reverse (m - d) (1 :: (dgl p m v).reverse)) (p ^ (d + 1)) = true := (nob_iff _ _).2 fun w hw => by
      cases hb : dvg p (dgl p (d + 1) w).reverse (m - d) (1 :: (dgl p m v).reverse) with
      | false => rfl
      | true =>
        rw [show m - d = m + 1 - (d + 1) by omega] at hb
        exact absurd ((key (d + 1) w (by omega) (by omega)).1 hb) (h (d + 1) (by omega) (by omega) w hw)
    rw [this]; rfl
theorem chk_ok {p m lo n v : Nat} (hp : 2 ≤ p) (hm : 0 < m) (h : chk p m lo n = true) (h1 : lo ≤ v) (h2 : v < lo + n) (hv : v < p ^ m) (hi : Irr p m (dv p v)) : ∃ g, Gn (p ^ m) (fmul p m (dv p v)) g := by
  have h3 := (nob_iff _ _).1 h (v - lo) (by omega)
  simp only [show lo + (v - lo) = v by omega, (irrB_iff (by omega) hv).2 hi, cond_true] at h3
  exact genB_ok hp hm Rep.dv (by simpa using h3)
end Go.Proofs.Ythjpminlkcklgaa
set_option linter.unusedVariables false
namespace Go.Proofs.Ythjpminlkcklgaa
theorem chk_2_2_0 : chk 2 2 0 4 = true := by decide +kernel
theorem chk_2_3_0 : chk 2 3 0 8 = true := by decide +kernel
theorem chk_2_4_0 : chk 2 4 0 16 = true := by decide +kernel
theorem chk_2_5_0 : chk 2 5 0 32 = true := by decide +kernel
theorem chk_2_6_0 : chk 2 6 0 64 = true := by decide +kernel
theorem chk_2_7_0 : chk 2 7 0 64 = true := by decide +kernel
theorem chk_2_7_64 : chk 2 7 64 64 = true := by decide +kernel
theorem chk_2_8_0 : chk 2 8 0 24 = true := by decide +kernel
theorem chk_2_8_24 : chk 2 8 24 24 = true := by decide +kernel
theorem chk_2_8_48 : chk 2 8 48 24 = true := by decide +kernel
theorem chk_2_8_72 : chk 2 8 72 24 = true := by decide +kernel
theorem chk_2_8_96 : chk 2 8 96 24 = true := by decide +kernel
theorem chk_2_8_120 : chk 2 8 120 24 = true := by decide +kernel
theorem chk_2_8_144 : chk 2 8 144 24 = true := by decide +kernel
theorem chk_2_8_168 : chk 2 8 168 24 = true := by decide +kernel
theorem chk_2_8_192 : chk 2 8 192 24 = true := by decide +kernel
theorem chk_2_8_216 : chk 2 8 216 24 = true := by decide +kernel
theorem chk_2_8_240 : chk 2 8 240 16 = true := by decide +kernel
theorem chk_3_2_0 : chk 3 2 0 9 = true := by decide +kernel
theorem chk_3_3_0 : chk 3 3 0 27 = true := by decide +kernel
theorem chk_3_4_0 : chk 3 4 0 64 = true := by decide +kernel
theorem chk_3_4_64 : chk 3 4 64 17 = true := by decide +kernel
theorem chk_3_5_0 : chk 3 5 0 24 = true := by decide +kernel
theorem chk_3_5_24 : chk 3 5 24 24 = true := by decide +kernel
theorem chk_3_5_48 : chk 3 5 48 24 = true := by decide +kernel
theorem chk_3_5_72 : chk 3 5 72 24 = true := by decide +kernel
theorem chk_3_5_96 : chk 3 5 96 24 = true := by decide +kernel
theorem chk_3_5_120 : chk 3 5 120 24 = true := by decide +kernel
theorem chk_3_5_144 : chk 3 5 144 24 = true := by decide +kernel
theorem chk_3_5_168 : chk 3 5 168 24 = true := by decide +kernel
theorem chk_3_5_192 : chk 3 5 192 24 = true := by decide +kernel
theorem chk_3_5_216 : chk 3 5 216 24 = true := by decide +kernel
theorem chk_3_5_240 : chk 3 5 240 3 = true := by decide +kernel
theorem chk_5_2_0 : chk 5 2 0 25 = true := by decide +kernel
theorem chk_5_3_0 : chk 5 3 0 64 = true := by decide +kernel
theorem chk_5_3_64 : chk 5 3 64 61 = true := by decide +kernel
theorem chk_7_2_0 : chk 7 2 0 49 = true := by decide +kernel
theorem chk_11_2_0 : chk 11 2 0 64 = true := by decide +kernel
theorem chk_11_2_64 : chk 11 2 64 57 = true := by decide +kernel
theorem chk_13_2_0 : chk 13 2 0 64 = true := by decide +kernel
theorem chk_13_2_64 : chk 13 2 64 64 = true := by decide +kernel
theorem chk_13_2_128 : chk 13 2 128 41 = true := by decide +kernel
theorem chk1_0 : ([2, 3, 5, 7, 11, 13, 17, 19, 23, 29, 31, 37, 41, 43, 47, 53, 59, 61] : List Nat).all (fun p => genB p 1 [0]) = true := by decide +kernel
theorem chk1_1 : ([67, 71, 73, 79, 83, 89, 97, 101, 103, 107, 109, 113, 127, 131, 137, 139, 149, 151] : List Nat).all (fun p => genB p 1 [0]) = true := by decide +kernel
theorem chk1_2 : ([157, 163, 167, 173, 179, 181, 191, 193, 197, 199, 211, 223, 227, 229, 233, 239, 241, 251] : List Nat).all (fun p => genB p 1 [0]) = true := by decide +kernel
theorem gx_2_2 {v : Nat} (hv : v < 2 ^ 2) (hI : Irr 2 2 (dv 2 v)) : ∃ g, Gn (2 ^ 2) (fmul 2 2 (dv 2 v)) g := by
  have hv2 : v < 4 := hv
  exact chk_ok (by decide) (by decide) chk_2_2_0 (by omega) (by omega) hv hI
theorem gx_2_3 {v : Nat} (hv : v < 2 ^ 3) (hI : Irr 2 3 (dv 2 v)) : ∃ g, Gn (2 ^ 3) (fmul 2 3 (dv 2 v)) g := by
  have hv2 : v < 8 := hv
  exact chk_ok (by decide) (by decide) chk_2_3_0 (by omega) (by omega) hv hI
theorem gx_2_4 {v : Nat} (hv : v < 2 ^ 4) (hI : Irr 2 4 (dv 2 v)) : ∃ g, Gn (2 ^ 4) (fmul 2 4 (dv 2 v)) g := by
  have hv2 : v < 16 := hv
  exact chk_ok (by decide) (by decide) chk_2_4_0 (by omega) (by omega) hv hI
theorem gx_2_5 {v : Nat} (hv : v < 2 ^ 5) (hI : Irr 2 5 (dv 2 v)) : ∃ g, Gn (2 ^ 5) (fmul 2 5 (dv 2 v)) g := by
  have hv2 : v < 32 := hv
  exact chk_ok (by decide) (by decide) chk_2_5_0 (by omega) (by omega) hv hI
theorem gx_2_6 {v : Nat} (hv : v < 2 ^ 6) (hI : Irr 2 6 (dv 2 v)) : ∃ g, Gn (2 ^ 6) (fmul 2 6 (dv 2 v)) g := by
  have hv2 : v < 64 := hv
  exact chk_ok (by decide) (by decide) chk_2_6_0 (by omega) (by omega) hv hI
theorem gx_2_7 {v : Nat} (hv : v < 2 ^ 7) (hI : Irr 2 7 (dv 2 v)) : ∃ g, Gn (2 ^ 7) (fmul 2 7 (dv 2 v)) g := by
  have hv2 : v < 128 := hv
  rcases Nat.lt_or_ge v 64 with h | h
  · exact chk_ok (by decide) (by decide) chk_2_7_0 (by omega) (by omega) hv hI
  exact chk_ok (by decide) (by decide) chk_2_7_64 (by omega) (by omega) hv hI
theorem gx_2_8 {v : Nat} (hv : v < 2 ^ 8) (hI : Irr 2 8 (dv 2 v)) : ∃ g, Gn (2 ^ 8) (fmul 2 8 (dv 2 v)) g := by
  have hv2 : v < 256 := hv
  rcases Nat.lt_or_ge v 24 with h | h
  · exact chk_ok (by decide) (by decide) chk_2_8_0 (by omega) (by omega) hv hI
  rcases Nat.lt_or_ge v 48 with h | h
  · exact chk_ok (by decide) (by decide) chk_2_8_24 (by omega) (by omega) hv hI
  rcases Nat.lt_or_ge v 72 with h | h
  · exact chk_ok (by decide) (by decide) chk_2_8_48 (by omega) (by omega) hv hI
  rcases Nat.lt_or_ge v 96 with h | h
  · exact chk_ok (by decide) (by decide) chk_2_8_72 (by omega) (by omega) hv hI
  rcases Nat.lt_or_ge v 120 with h | h
  · exact chk_ok (by decide) (by decide) chk_2_8_96 (by omega) (by omega) hv hI
  rcases Nat.lt_or_ge v 144 with h | h
  · exact chk_ok (by decide) (by decide) chk_2_8_120 (by omega) (by omega) hv hI
  rcases Nat.lt_or_ge v 168 with h | h
  · exact chk_ok (by decide) (by decide) chk_2_8_144 (by omega) (by omega) hv hI
  rcases Nat.lt_or_ge v 192 with h | h
  · exact chk_ok (by decide) (by decide) chk_2_8_168 (by omega) (by omega) hv hI
  rcases Nat.lt_or_ge v 216 with h | h
  · exact chk_ok (by decide) (by decide) chk_2_8_192 (by omega) (by omega) hv hI
  rcases Nat.lt_or_ge v 240 with h | h
  · exact chk_ok (by decide) (by decide) chk_2_8_216 (by omega) (by omega) hv hI
  exact chk_ok (by decide) (by decide) chk_2_8_240 (by omega) (by omega) hv hI
theorem gx_3_2 {v : Nat} (hv : v < 3 ^ 2) (hI : Irr 3 2 (dv 3 v)) : ∃ g, Gn (3 ^ 2) (fmul 3 2 (dv 3 v)) g := by
  have hv2 : v < 9 := hv
  exact chk_ok (by decide) (by decide) chk_3_2_0 (by omega) (by omega) hv hI
theorem gx_3_3 {v : Nat} (hv : v < 3 ^ 3) (hI : Irr 3 3 (dv 3 v)) : ∃ g, Gn (3 ^ 3) (fmul 3 3 (dv 3 v)) g := by
  have hv2 : v < 27 := hv
  exact chk_ok (by decide) (by decide) chk_3_3_0 (by omega) (by omega) hv hI
theorem gx_3_4 {v : Nat} (hv : v < 3 ^ 4) (hI : Irr 3 4 (dv 3 v)) : ∃ g, Gn (3 ^ 4) (fmul 3 4 (dv 3 v)) g := by
  have hv2 : v < 81 := hv
  rcases Nat.lt_or_ge v 64 with h | h
  · exact chk_ok (by decide) (by decide) chk_3_4_0 (by omega) (by omega) hv hI
  exact chk_ok (by decide) (by decide) chk_3_4_64 (by omega) (by omega) hv hI
theorem gx_3_5 {v : Nat} (hv : v < 3 ^ 5) (hI : Irr 3 5 (dv 3 v)) : ∃ g, Gn (3 ^ 5) (fmul 3 5 (dv 3 v)) g := by
  have hv2 : v < 243 := hv
  rcases Nat.lt_or_ge v 24 with h | h
  · exact chk_ok (by decide) (by decide) chk_3_5_0 (by omega) (by omega) hv hI
  rcases Nat.lt_or_ge v 48 with h | h
  · exact chk_ok (by decide) (by decide) chk_3_5_24 (by omega) (by omega) hv hI
  rcases Nat.lt_or_ge v 72 with h | h
  · exact chk_ok (by decide) (by decide) chk_3_5_48 (by omega) (by omega) hv hI
  rcases Nat.lt_or_ge v 96 with h | h
  · exact chk_ok (by decide) (by decide) chk_3_5_72 (by omega) (by omega) hv hI
  rcases Nat.lt_or_ge v 120 with h | h
  · exact chk_ok (by decide) (by decide) chk_3_5_96 (by omega) (by omega) hv hI
  rcases Nat.lt_or_ge v 144 with h | h
  · exact chk_ok (by decide) (by decide) chk_3_5_120 (by omega) (by omega) hv hI
  rcases Nat.lt_or_ge v 168 with h | h
  · exact chk_ok (by decide) (by decide) chk_3_5_144 (by omega) (by omega) hv hI
  rcases Nat.lt_or_ge v 192 with h | h
  · exact chk_ok (by decide) (by decide) chk_3_5_168 (by omega) (by omega) hv hI
  rcases Nat.lt_or_ge v 216 with h | h
  · exact chk_ok (by decide) (by decide) chk_3_5_192 (by omega) (by omega) hv hI
  rcases Nat.lt_or_ge v 240 with h | h
  · exact chk_ok (by decide) (by decide) chk_3_5_216 (by omega) (by omega) hv hI
  exact chk_ok (by decide) (by decide) chk_3_5_240 (by omega) (by omega) hv hI
theorem gx_5_2 {v : Nat} (hv : v < 5 ^ 2) (hI : Irr 5 2 (dv 5 v)) : ∃ g, Gn (5 ^ 2) (fmul 5 2 (dv 5 v)) g := by
  have hv2 : v < 25 := hv
  exact chk_ok (by decide) (by decide) chk_5_2_0 (by omega) (by omega) hv hI
theorem gx_5_3 {v : Nat} (hv : v < 5 ^ 3) (hI : Irr 5 3 (dv 5 v)) : ∃ g, Gn (5 ^ 3) (fmul 5 3 (dv 5 v)) g := by
  have hv2 : v < 125 := hv
  rcases Nat.lt_or_ge v 64 with h | h
  · exact chk_ok (by decide) (by decide) chk_5_3_0 (by omega) (by omega) hv hI
  exact chk_ok (by decide) (by decide) chk_5_3_64 (by omega) (by omega) hv hI
theorem gx_7_2 {v : Nat} (hv : v < 7 ^ 2) (hI : Irr 7 2 (dv 7 v)) : ∃ g, Gn (7 ^ 2) (fmul 7 2 (dv 7 v)) g := by
  have hv2 : v < 49 := hv
  exact chk_ok (by decide) (by decide) chk_7_2_0 (by omega) (by omega) hv hI
theorem gx_11_2 {v : Nat} (hv : v < 11 ^ 2) (hI : Irr 11 2 (dv 11 v)) : ∃ g, Gn (11 ^ 2) (fmul 11 2 (dv 11 v)) g := by
  have hv2 : v < 121 := hv
  rcases Nat.lt_or_ge v 64 with h | h
  · exact chk_ok (by decide) (by decide) chk_11_2_0 (by omega) (by omega) hv hI
  exact chk_ok (by decide) (by decide) chk_11_2_64 (by omega) (by omega) hv hI
theorem gx_13_2 {v : Nat} (hv : v < 13 ^ 2) (hI : Irr 13 2 (dv 13 v)) : ∃ g, Gn (13 ^ 2) (fmul 13 2 (dv 13 v)) g := by
  have hv2 : v < 169 := hv
  rcases Nat.lt_or_ge v 64 with h | h
  · exact chk_ok (by decide) (by decide) chk_13_2_0 (by omega) (by omega) hv hI
  rcases Nat.lt_or_ge v 128 with h | h
  · exact chk_ok (by decide) (by decide) chk_13_2_64 (by omega) (by omega) hv hI
  exact chk_ok (by decide) (by decide) chk_13_2_128 (by omega) (by omega) hv hI
noncomputable def prL : List Nat := [2, 3, 5, 7, 11, 13, 17, 19, 23, 29, 31, 37, 41, 43, 47, 53, 59, 61, 67, 71, 73, 79, 83, 89, 97, 101, 103, 107, 109, 113, 127, 131, 137, 139, 149, 151, 157, 163, 167, 173, 179, 181, 191, 193, 197, 199, 211, 223, 227, 229, 233, 239, 241, 251]
theorem prL_all : (List.range 257).all (fun p => prL.contains p || Nat.blt p 2 || (List.range p).any (fun e => Nat.ble 2 e && Nat.beq (p % e) 0)) = true := by decide +kernel
theorem prL_mem {p : Nat} (hp : IsLf p p) (h : p ≤ 256) : p ∈ prL := by
  have h1 := List.all_eq_true.1 prL_all p (List.mem_range.2 (by omega))
  simp only [Bool.or_eq_true, List.contains_iff_mem, List.any_eq_true, List.mem_range, Bool.and_eq_true] at h1
  rcases h1 with (h1 | h1) | ⟨e, he, h2, h3⟩
  · exact h1
  · have := hp.two; have := Nat.le_of_ble_eq_true h1; omega
  · have := hp.min e (Nat.le_of_ble_eq_true h2) (Nat.eq_of_beq_eq_true h3); omega
theorem gx_1 {p : Nat} (hp : IsLf p p) (h : p ≤ 256) : ∃ g, Gn (p ^ 1) (fmul p 1 (dv p 0)) g := by
  have hm := prL_mem hp h
  have hg : genB p 1 [0] = true := by
    unfold prL at hm
    rw [show ([2, 3, 5, 7, 11, 13, 17, 19, 23, 29, 31, 37, 41, 43, 47, 53, 59, 61, 67, 71, 73, 79, 83, 89, 97, 101, 103, 107, 109, 113, 127, 131, 137, 139, 149, 151, 157, 163, 167, 173, 179, 181, 191, 193, 197, 199, 211, 223, 227, 229, 233, 239, 241, 251] : List Nat) = ([2, 3, 5, 7, 11, 13, 17, 19, 23, 29, 31, 37, 41, 43, 47, 53, 59, 61] : List Nat) ++ ([67, 71, 73, 79, 83, 89, 97, 101, 103, 107, 109, 113, 127, 131, 137, 139, 149, 151] : List Nat) ++ ([157, 163, 167, 173, 179, 181, 191, 193, 197, 199, 211, 223, 227, 229, 233, 239, 241, 251] : List Nat) from rfl] at hm
    simp only [List.mem_append] at hm
    rcases hm with (h | h) | h
    · exact List.all_eq_true.1 chk1_0 p h
    · exact List.all_eq_true.1 chk1_1 p h
    · exact List.all_eq_true.1 chk1_2 p h
  refine genB_ok hp.two (by decide) ⟨rfl, fun i hi => ?_⟩ hg
  rw [show i = 0 by omega, dv_z]; simp [vz]
/-- p and m of a field with more than p elements -/
theorem pm_cases {p m : Nat} (hp : IsLf p p) (hm : 2 ≤ m) (hq : p ^ m ≤ 256) : (p = 2 ∧ m = 2) ∨ (p = 2 ∧ m = 3) ∨ (p = 2 ∧ m = 4) ∨ (p = 2 ∧ m = 5) ∨ (p = 2 ∧ m = 6) ∨ (p = 2 ∧ m = 7) ∨ (p = 2 ∧ m = 8) ∨ (p = 3 ∧ m = 2) ∨ (p = 3 ∧ m = 3) ∨ (p = 3 ∧ m = 4) ∨ (p = 3 ∧ m = 5) ∨ (p = 5 ∧ m = 2) ∨ (p = 5 ∧ m = 3) ∨ (p = 7 ∧ m = 2) ∨ (p = 11 ∧ m = 2) ∨ (p = 13 ∧ m = 2) := by
  have h2 := hp.two
  have hpow : ∀ k, k ≤ m → p ^ k ≤ 256 := fun k hk => Nat.le_trans (Nat.pow_le_pow_right (by omega) hk) hq
  have hp2 : p ≤ 16 := by
    rcases Nat.lt_or_ge 16 p with h | h
    · have h1 := hpow 2 hm
      have h3 : 17 ^ 2 ≤ p ^ 2 := Nat.pow_le_pow_left h 2
      omega
    · exact h
  have hnd : ∀ e, 2 ≤ e → e < p → p % e ≠ 0 := fun e he hlt h0 => by have := hp.min e he h0; omega
  have hc : p = 2 ∨ p = 3 ∨ p = 5 ∨ p = 7 ∨ p = 11 ∨ p = 13 := by
    have h3 := hnd 2 (by omega)
    have h4 := hnd 3 (by omega)
    omega
  rcases hc with rfl | rfl | rfl | rfl | rfl | rfl
  · have : m ≤ 8 := by
      rcases Nat.lt_or_ge 8 m with h | h
      · have := hpow 9 h; omega
      · exact h
    omega
  · have : m ≤ 5 := by
      rcases Nat.lt_or_ge 5 m with h | h
      · have := hpow 6 h; omega
      · exact h
    omega
  · have : m ≤ 3 := by
      rcases Nat.lt_or_ge 3 m with h | h
      · have := hpow 4 h; omega
      · exact h
    omega
  · have : m ≤ 2 := by
      rcases Nat.lt_or_ge 2 m with h | h
      · have := hpow 3 h; omega
      · exact h
    omega
  · have : m ≤ 2 := by
      rcases Nat.lt_or_ge 2 m with h | h
      · have := hpow 3 h; omega
      · exact h
    omega
  · have : m ≤ 2 := by
      rcases Nat.lt_or_ge 2 m with h | h
      · have := hpow 3 h; omega
      · exact h
    omega
/-- every description of a field has an element of the order q - 1 -/
theorem gen_ex {p m v : Nat} (hp : IsLf p p) (hm : 0 < m) (hq : p ^ m ≤ 256) (hv : v < p ^ m) (h1 : m = 1 → v = 0) (hI : Irr p m (dv p v)) : ∃ g, Gn (p ^ m) (fmul p m (dv p v)) g := by
  rcases Nat.lt_or_ge m 2 with h | h
  · have : m = 1 := by omega
    subst this
    rw [h1 rfl]
    exact gx_1 hp (by simpa using hq)
  · rcases pm_cases hp h hq with ⟨rfl, rfl⟩ | ⟨rfl, rfl⟩ | ⟨rfl, rfl⟩ | ⟨rfl, rfl⟩ | ⟨rfl, rfl⟩ | ⟨rfl, rfl⟩ | ⟨rfl, rfl⟩ | ⟨rfl, rfl⟩ | ⟨rfl, rfl⟩ | ⟨rfl, rfl⟩ | ⟨rfl, rfl⟩ | ⟨rfl, rfl⟩ | ⟨rfl, rfl⟩ | ⟨rfl, rfl⟩ | ⟨rfl, rfl⟩ | ⟨rfl, rfl⟩
    · exact gx_2_2 hv hI
    · exact gx_2_3 hv hI
    · exact gx_2_4 hv hI
    · exact gx_2_5 hv hI
    · exact gx_2_6 hv hI
    · exact gx_2_7 hv hI
    · exact gx_2_8 hv hI
    · exact gx_3_2 hv hI
    · exact gx_3_3 hv hI
    · exact gx_3_4 hv hI
    · exact gx_3_5 hv hI
    · exact gx_5_2 hv hI
    · exact gx_5_3 hv hI
    · exact gx_7_2 hv hI
    · exact gx_11_2 hv hI
    · exact gx_13_2 hv hI
end Go.Proofs.Ythjpminlkcklgaa
set_option linter.unusedVariables false
set_option linter.unusedSimpArgs false
namespace Go.Proofs.Ythjpminlkcklgaa
/-! ### the simplest functions -/
def vo (l : List Int) : Vec := fun i => l.getD i 0
theorem gi_nat (l : List Int) (i : Nat) : gi l (i : Int) = vo l i := rfl
theorem si_nat (l : List Int) (i : Nat) (x : Int) : si l (i : Int) x = l.set i x := rfl
theorem tmodN (a b : Nat) : (a : Int).tmod (b : Int) = ((a % b : Nat) : Int) := rfl
theorem tdivN (a b : Nat) : (a : Int).tdiv (b : Int) = ((a / b : Nat) : Int) := rfl
theorem vo_set (l : List Int) (i j : Nat) (x : Int) : vo (l.set i x) j = if i = j ∧ i < l.length then x else vo l j := by
  unfold vo
  rw [List.getD_eq_getElem?_getD, List.getD_eq_getElem?_getD, List.getElem?_set]
  by_cases h : i = j
  · subst h
    by_cases h2 : i < l.length
    · simp [h2]
    · simp [h2]
  · simp [h]
theorem vo_rep (n : Nat) (i : Nat) : vo (List.replicate n (0 : Int)) i = 0 := by
  unfold vo
  rw [List.getD_eq_getElem?_getD, List.getElem?_replicate]
  split <;> rfl
theorem vo_hi {l : List Int} {i : Nat} (h : l.length ≤ i) : vo l i = 0 := by
  unfold vo; rw [List.getD_eq_getElem?_getD, List.getElem?_eq_none h]; rfl
theorem vo_ext {l o : List Int} (h : l.length = o.length) (hv : ∀ i, i < l.length → vo l i = vo o i) : l = o := by
  refine List.ext_getElem h fun i h1 h2 => ?_
  have := hv i h1
  unfold vo at this
  rw [List.getD_eq_getElem?_getD, List.getD_eq_getElem?_getD, List.getElem?_eq_getElem h1, List.getElem?_eq_getElem h2] at this
  exact this
theorem small {x : Int} (h : -1000000000000 ≤ x) (h2 : x ≤ 1000000000000) : I64 x := ⟨by omega, by omega⟩
theorem smallN {n : Nat} (h : n ≤ 1000000000000) : I64 (n : Int) := small (by omega) (by omega)
def dgi (p n x : Nat) : List Int := (dgl p n x).map fun (a : Nat) => (a : Int)
theorem dgi_len (p n x : Nat) : (dgi p n x).length = n := by simp [dgi, dgl_len]
theorem dgi_at {p n x i : Nat} (h : i < n) : vo (dgi p n x) i = dv p x i := by
  rw [← dgl_at p n x i h]
  unfold vo dgi
  rw [List.getD_eq_getElem?_getD, List.getElem?_map, List.getD_eq_getElem?_getD]
  rw [List.getElem?_eq_getElem (by rw [dgl_len]; exact h)]; rfl
theorem v_okIf {b : Bool} {Q : Int → Prop} (h : Q (if b = true then 0 else 1)) : V_okIf b Q := by
  cases b
  · exact ⟨fun h' => absurd h' (by decide), fun _ => h⟩
  · exact ⟨fun _ => h, fun h' => absurd h' (by decide)⟩
theorem lf_root {n k : Nat} (hn : 2 ≤ n) (hk : n < k * k) (h : ∀ e, e < k → 2 ≤ e → n % e ≠ 0) : IsLf n n := by
  refine ⟨hn, Nat.mod_self n, fun e he hm => ?_⟩
  rcases Nat.lt_or_ge e k with hc | hc
  · exact absurd hm (h e hc he)
  · obtain ⟨t, ht⟩ := Nat.dvd_of_mod_eq_zero hm
    have hq1 : t < k := by
      rcases Nat.lt_or_ge t k with h1 | h1
      · exact h1
      · have := Nat.mul_le_mul hc h1; omega
    rcases Nat.lt_or_ge t 2 with h2 | h2
    · have : t = 0 ∨ t = 1 := by omega
      rcases this with rfl | rfl
      · omega
      · omega
    · exact absurd (Nat.mod_eq_zero_of_dvd ⟨e, by rw [ht, Nat.mul_comm]⟩) (h t hq1 h2)
theorem v_leastDivisor {x : Nat} {Q : Int → Prop} (h2 : 2 ≤ x) (hx : x ≤ 256) (h : ∀ d : Nat, IsLf x d → Q d) : V_leastDivisor x Q := by
  refine ⟨fun z => ∃ k : Nat, z = k ∧ 2 ≤ k ∧ k ≤ 17 ∧ ∀ e, e < k → 2 ≤ e → x % e ≠ 0, fun z => (20 - z).toNat, ⟨2, rfl, by omega, by omega, fun e _ _ => by omega⟩, ?_⟩
  rintro _ ⟨k, rfl, hk2, hk, hm⟩
  dsimp only
  have e1 : ((k : Nat) : Int) * (k : Int) = ((k * k : Nat) : Int) := by push_cast; rfl
  have hb : k * k ≤ 17 * 17 := Nat.mul_le_mul hk hk
  rw [e1]
  refine ⟨small (by omega) (by omega), fun hle => ⟨by omega, ?_, ?_⟩, fun hgt => ?_⟩
  · intro h0
    rw [tmodN] at h0
    refine h k ⟨hk2, by omega, fun e he h3 => ?_⟩
    rcases Nat.lt_or_ge e k with hc | hc
    · exact absurd h3 (hm e hc he)
    · exact hc
  · intro h0
    rw [tmodN] at h0
    have hk16 : k ≤ 16 := by
      rcases Nat.lt_or_ge 16 k with hc | hc
      · have := Nat.mul_le_mul hc hc; omega
      · exact hc
    refine ⟨small (by omega) (by omega), ⟨k + 1, by push_cast; rfl, by omega, by omega, fun e he h3 => ?_⟩, by omega⟩
    rcases Nat.lt_or_ge e k with hc | hc
    · exact hm e hc h3
    · rw [show e = k by omega]; omega
  · exact h x (lf_root h2 (by omega) hm)
theorem IsLf.uniq {n d e : Nat} (h : IsLf n d) (h' : IsLf n e) : d = e := Nat.le_antisymm (h.min e h'.two h'.dvd) (h'.min d h.two h.dvd)
theorem v_isPrime {x : Int} {Q : Bool → Prop} (hx : x ≤ 256) (h : ∀ b : Bool, (b = true ↔ 2 ≤ x ∧ IsLf x.toNat x.toNat) → Q b) : V_isPrime x Q := by
  refine ⟨fun h2 => ?_, fun h2 => h false ⟨fun h' => by (cases h'), fun h' => absurd h'.1 h2⟩⟩
  obtain ⟨n, rfl⟩ := Int.eq_ofNat_of_zero_le (show 0 ≤ x by omega)
  refine v_leastDivisor (by omega) (by omega) fun d hd => h _ ?_
  rw [decide_eq_true_iff, Int.toNat_natCast]
  constructor
  · intro he
    have : d = n := by omega
    subst this
    exact ⟨h2, hd⟩
  · rintro ⟨_, hn⟩; rw [hd.uniq hn]
theorem v_rprime {x : Nat} {Q : Bool → Prop} (h2 : 2 ≤ x) (hx : x ≤ 256) (h : ∀ b : Bool, (b = true ↔ IsLf x x) → Q b) : V_rprime x Q := by
  refine ⟨fun z => ∃ k : Nat, z = k ∧ 2 ≤ k ∧ k ≤ x ∧ ∀ e, e < k → 2 ≤ e → x % e ≠ 0, fun z => (x - z).toNat, ⟨2, rfl, by omega, by omega, fun e _ _ => by omega⟩, ?_⟩
  rintro _ ⟨k, rfl, hk2, hk, hm⟩
  dsimp only
  refine ⟨fun hlt => ⟨by omega, fun h0 => ?_, fun h0 => ?_⟩, fun hge => ?_⟩
  · rw [tmodN] at h0
    refine h false ⟨fun h' => by (cases h'), fun hp => ?_⟩
    have := hp.min k hk2 (by omega); omega
  · rw [tmodN] at h0
    refine ⟨small (by omega) (by omega), ⟨k + 1, by push_cast; rfl, by omega, by omega, fun e he h3 => ?_⟩, by omega⟩
    rcases Nat.lt_or_ge e k with hc | hc
    · exact hm e hc h3
    · rw [show e = k by omega]; omega
  · refine h true ⟨fun _ => ⟨h2, Nat.mod_self x, fun e he h0 => ?_⟩, fun _ => rfl⟩
    rcases Nat.lt_or_ge e x with hc | hc
    · exact absurd h0 (hm e (by omega) he)
    · exact hc
theorem pow_mono {p a b : Nat} (hp : 0 < p) (h : a ≤ b) : p ^ a ≤ p ^ b := Nat.pow_le_pow_right hp h
theorem v_order {p : Nat} {M : Int} {mf : List Int} {Q : Int → Prop} (hp : 2 ≤ p) (hp2 : p ≤ 256) (h : ∀ r : Int, (p ^ M.toNat ≤ 256 → r = ((p ^ M.toNat : Nat) : Int)) → (256 < p ^ M.toNat → 256 < r) → Q r) : V_order p M mf Q := by
  refine ⟨fun r => (p ^ M.toNat ≤ 256 → r = ((p ^ M.toNat : Nat) : Int)) ∧ (256 < p ^ M.toNat → 256 < r), ⟨fun z i => ∃ k : Nat, i = k ∧ k ≤ M.toNat ∧ z = ((p ^ k : Nat) : Int) ∧ p ^ k ≤ 65536 ∧ k ≤ 16, fun z i => (20 - i).toNat, ⟨0, rfl, Nat.zero_le _, by simp, by simp, by omega⟩, ?_⟩, fun r hr => h r hr.1 hr.2⟩
  rintro _ _ ⟨k, rfl, hk, rfl, hb, hk16⟩
  dsimp only
  refine ⟨fun hlt => ⟨fun hle => ?_, fun hgt => ?_⟩, fun hge => ?_⟩
  · have hk8 : p ^ k ≤ 256 := by omega
    have hkk : k < 16 := by
      rcases Nat.lt_or_ge k 16 with hc | hc
      · exact hc
      · have h1 := pow_mono (p := p) (by omega) hc
        have h2 : 2 ^ 16 ≤ p ^ 16 := Nat.pow_le_pow_left hp 16
        omega
    have e1 : ((p ^ k : Nat) : Int) * (p : Int) = ((p ^ (k + 1) : Nat) : Int) := by rw [Nat.pow_succ]; push_cast; rfl
    have hb2 : p ^ (k + 1) ≤ 65536 := by
      rw [Nat.pow_succ]
      have := Nat.mul_le_mul hk8 hp2; omega
    rw [e1]
    exact ⟨small (by omega) (by omega), small (by omega) (by omega), ⟨k + 1, by push_cast; rfl, by omega, rfl, hb2, by omega⟩, by omega⟩
  · have := pow_mono (p := p) (by omega) hk
    exact ⟨fun h' => by omega, fun _ => by omega⟩
  · have : k = M.toNat := by omega
    subst this
    exact ⟨fun _ => rfl, fun h' => by omega⟩
/-- the order, or 0 -/
def ordR (P M : Int) : Int := if 2 ≤ P ∧ 1 ≤ M ∧ P.toNat ^ M.toNat ≤ 256 then ((P.toNat ^ M.toNat : Nat) : Int) else 0
theorem v_rOrder {P M : Int} {mf : List Int} {Q : Int → Prop} (h : Q (ordR P M)) : V_rOrder P M mf Q := by
  refine ⟨fun h1 => ?_, fun h1 => ⟨fun h2 => ?_, fun h2 => ⟨fun h3 => ?_, fun h3 => ?_⟩⟩⟩
  · rw [ordR, if_neg (by omega)] at h; exact h
  · rw [ordR, if_neg (by omega)] at h; exact h
  · rw [ordR, if_neg] at h
    · exact h
    · rintro ⟨h4, h5, h6⟩
      have e1 : 2 ^ 9 ≤ P.toNat ^ 9 := Nat.pow_le_pow_left (by omega) 9
      have e2 := pow_mono (p := P.toNat) (by omega) (show 9 ≤ M.toNat by omega)
      omega
  · obtain ⟨p, rfl⟩ := Int.eq_ofNat_of_zero_le (show 0 ≤ P by omega)
    obtain ⟨m, rfl⟩ := Int.eq_ofNat_of_zero_le (show 0 ≤ M by omega)
    refine ⟨fun z i => ∃ k : Nat, i = k ∧ k ≤ m ∧ z = ((p ^ k : Nat) : Int) ∧ p ^ k ≤ 256, fun z i => (20 - i).toNat, ⟨0, rfl, Nat.zero_le _, by simp, by simp⟩, ?_⟩
    rintro _ _ ⟨k, rfl, hk, rfl, hb⟩
    dsimp only
    rw [show (256 : Int) = ((256 : Nat) : Int) from rfl, tdivN]
    have hd : 256 / p ≤ 256 := Nat.div_le_self _ _
    have hdm : ∀ a, a ≤ 256 / p ↔ a * p ≤ 256 := fun a => Nat.le_div_iff_mul_le (show 0 < p by omega)
    generalize 256 / p = D at *
    refine ⟨fun hlt => ⟨⟨by omega, small (by omega) (by omega)⟩, fun hgt => ?_, fun hle => ?_⟩, fun hge => ?_⟩
    · rw [ordR, if_neg] at h
      · exact h
      · rintro ⟨_, _, h6⟩
        simp only [Int.toNat_natCast] at h6
        have h7 : p ^ (k + 1) ≤ 256 := Nat.le_trans (pow_mono (by omega) (by omega)) h6
        rw [Nat.pow_succ] at h7
        have := (hdm _).2 h7
        omega
    · have h7 : p ^ (k + 1) ≤ 256 := by rw [Nat.pow_succ]; exact (hdm _).1 (by omega)
      have e1 : ((p ^ k : Nat) : Int) * (p : Int) = ((p ^ (k + 1) : Nat) : Int) := by rw [Nat.pow_succ]; push_cast; rfl
      rw [e1]
      exact ⟨small (by omega) (by omega), small (by omega) (by omega), ⟨k + 1, by push_cast; rfl, by omega, rfl, h7⟩, by omega⟩
    · have : k = m := by omega
      subst this
      rw [ordR, if_pos ⟨by omega, by omega, by simpa using hb⟩] at h
      simpa using h
theorem div_pow_succ (x p i : Nat) : x / p ^ i / p = x / p ^ (i + 1) := by rw [Nat.div_div_eq_div_mul, Nat.pow_succ]
theorem v_digits {p n x : Nat} {Q : List Int → Prop} (hp : 0 < p) (hn : n ≤ 1000) (hx : x ≤ 1000) (h : Q (dgi p n x)) : V_digits p n x Q := by
  refine ⟨⟨by omega, by omega, by omega⟩, fun l z i => ∃ k : Nat, i = k ∧ k ≤ n ∧ z = ((x / p ^ k : Nat) : Int) ∧ l.length = n ∧ ∀ j, j < k → vo l j = dv p x j, fun l z i => (n - i).toNat, ⟨0, rfl, Nat.zero_le _, by simp, by simp, fun j hj => by omega⟩, ?_⟩
  rintro l _ _ ⟨k, rfl, hk, rfl, hl, hv⟩
  dsimp only
  have hd : x / p ^ k ≤ x := Nat.div_le_self _ _
  have hd2 : x / p ^ k / p ≤ x / p ^ k := Nat.div_le_self _ _
  rw [tdivN, tmodN, si_nat]
  simp only [Int.toNat_natCast]
  refine ⟨fun hlt => ⟨by omega, ⟨by omega, by omega⟩, ⟨by omega, smallN (by omega)⟩, small (by omega) (by omega), ⟨k + 1, by push_cast; rfl, by omega, by rw [div_pow_succ], by rw [List.length_set, hl], fun j hj => ?_⟩, by omega⟩, fun hge => ?_⟩
  · rw [vo_set]
    by_cases hjk : k = j
    · subst hjk
      rw [if_pos ⟨rfl, by omega⟩]; rfl
    · rw [if_neg (by omega)]; exact hv j (by omega)
  · have : l = dgi p n x := vo_ext (by rw [hl, dgi_len]) fun j hj => by rw [hv j (by omega), dgi_at (by omega)]
    rw [this]; exact h
theorem v_rdigits {p n x : Nat} {Q : List Int → Prop} (hp : 0 < p) (hn : n ≤ 1000) (hx : x ≤ 1000) (h : Q (dgi p n x)) : V_rdigits x p n Q := by
  refine ⟨⟨by omega, by omega, by omega⟩, fun l z i => ∃ k : Nat, i = k ∧ k ≤ n ∧ z = ((x / p ^ k : Nat) : Int) ∧ l.length = n ∧ ∀ j, j < k → vo l j = dv p x j, fun l z i => (n - i).toNat, ⟨0, rfl, Nat.zero_le _, by simp, by simp, fun j hj => by omega⟩, ?_⟩
  rintro l _ _ ⟨k, rfl, hk, rfl, hl, hv⟩
  dsimp only
  have hd : x / p ^ k ≤ x := Nat.div_le_self _ _
  have hd2 : x / p ^ k / p ≤ x / p ^ k := Nat.div_le_self _ _
  rw [tdivN, tmodN, si_nat]
  simp only [Int.toNat_natCast]
  refine ⟨fun hlt => ⟨by omega, ⟨by omega, by omega⟩, ⟨by omega, smallN (by omega)⟩, small (by omega) (by omega), ⟨k + 1, by push_cast; rfl, by omega, by rw [div_pow_succ], by rw [List.length_set, hl], fun j hj => ?_⟩, by omega⟩, fun hge => ?_⟩
  · rw [vo_set]
    by_cases hjk : k = j
    · subst hjk
      rw [if_pos ⟨rfl, by omega⟩]; rfl
    · rw [if_neg (by omega)]; exact hv j (by omega)
  · have : l = dgi p n x := vo_ext (by rw [hl, dgi_len]) fun j hj => by rw [hv j (by omega), dgi_at (by omega)]
    rw [this]; exact h
theorem v_successor {p m x : Nat} {mf : List Int} {Q : Int → Prop} (hp : 2 ≤ p) (hp2 : p ≤ 256) (hx : x ≤ 256) (h : Q ((if x % p = p - 1 then x - x % p else x + 1 : Nat) : Int)) : V_successor p m mf x Q := by
  have hm := Nat.mod_lt x (show 0 < p by omega)
  have hm2 := Nat.mod_le x p
  refine ⟨by omega, small (by omega) (by omega), fun h0 => ⟨by omega, ?_⟩, fun h0 => ?_⟩
  · rw [tmodN] at h0 ⊢
    rw [if_pos (by omega)] at h
    refine ⟨small (by omega) (by omega), ?_⟩
    rw [show (x : Int) - ((x % p : Nat) : Int) = ((x - x % p : Nat) : Int) by omega]; exact h
  · rw [tmodN] at h0
    rw [if_neg (by omega)] at h
    exact ⟨small (by omega) (by omega), by push_cast at h ⊢; exact h⟩
theorem v_clone {l : List Int} {Q : List Int → Prop} (hl : l.length ≤ 1000000) (h : Q l) : V_clone l Q := by
  intro b hb
  refine ⟨fun h1 => by rw [← hb h1]; exact h, fun _ => ⟨by omega, by simpa using h⟩⟩
end Go.Proofs.Ythjpminlkcklgaa
set_option linter.unusedVariables false
set_option linter.unusedSimpArgs false
namespace Go.Proofs.Ythjpminlkcklgaa
/-! ### the test of a description -/
theorem any_iff {l : List Int} {f : Int → Bool} : l.any f = true ↔ ∃ i, i < l.length ∧ f (vo l i) = true := by
  rw [List.any_eq_true]
  constructor
  · rintro ⟨x, hx, hf⟩
    obtain ⟨i, hi, rfl⟩ := List.mem_iff_getElem.1 hx
    refine ⟨i, hi, ?_⟩
    unfold vo; rw [List.getD_eq_getElem?_getD, List.getElem?_eq_getElem hi]; exact hf
  · rintro ⟨i, hi, hf⟩
    unfold vo at hf
    rw [List.getD_eq_getElem?_getD, List.getElem?_eq_getElem hi] at hf
    exact ⟨l[i], List.getElem_mem hi, hf⟩
theorem v_contains {l : List Int} {p : Int → (Bool → Prop) → Prop} {f : Int → Bool} {Q : Bool → Prop} (hl : l.length ≤ 1000000000) (hp : ∀ x (R : Bool → Prop), R (f x) → p x R) (h : Q (l.any f)) : V_contains l p Q := by
  refine ⟨fun z => ∃ k : Nat, z = k ∧ k ≤ l.length ∧ ∀ j, j < k → f (vo l j) = false, fun z => (l.length - z).toNat, ⟨0, rfl, Nat.zero_le _, fun j hj => by omega⟩, ?_⟩
  rintro _ ⟨k, rfl, hk, hv⟩
  dsimp only
  refine ⟨fun hlt => ⟨⟨by omega, by omega⟩, hp _ _ ⟨fun hb => ?_, fun hb => ⟨small (by omega) (by omega), ⟨k + 1, by push_cast; rfl, by omega, fun j hj => ?_⟩, by omega⟩⟩⟩, fun hge => ?_⟩
  · rw [any_iff.2 ⟨k, by omega, hb⟩] at h
    rw [decide_eq_true (by omega)]; exact h
  · rw [gi_nat] at hb
    by_cases hjk : j = k
    · subst hjk; exact hb
    · exact hv j (by omega)
  · have : l.any f = false := by
      cases hb : l.any f with
      | false => rfl
      | true =>
        obtain ⟨i, hi, hf⟩ := any_iff.1 hb
        rw [hv i (by omega)] at hf; cases hf
    rw [this] at h
    exact h
theorem red_eq {p : Nat} {a l c : Int} (hp : 0 < p) (ha : 0 ≤ a) (hl : l ≤ p) (hc : 0 ≤ c) : (a + ((p : Int) - l) * c).tmod p = (a - l * c) % (p : Int) := by
  have h1 : 0 ≤ ((p : Int) - l) * c := Int.mul_nonneg (by omega) hc
  rw [Int.tmod_eq_emod_of_nonneg (by omega)]
  have : a + ((p : Int) - l) * c = (a - l * c) + p * c := by rw [Int.sub_mul]; omega
  rw [this, Int.add_mul_emod_self_left]
theorem rem_cn {p d n : Nat} {l R : Vec} (hp : 0 < p) {N : Nat} (hR : Cn p N R) : ∀ k, Cn p N (rem p d l R n k)
  | 0 => hR
  | k + 1 => fun j hj => by
    show 0 ≤ rst _ _ _ _ _ j ∧ rst _ _ _ _ _ j < _
    unfold rst
    split
    · exact ⟨Int.emod_nonneg _ (by omega), Int.emod_lt_of_pos _ (by omega)⟩
    · exact rem_cn hp hR k j hj
theorem bd_mul {a b : Int} {p : Nat} (hp : p ≤ 256) (ha : 0 ≤ a ∧ a ≤ p) (hb : 0 ≤ b ∧ b ≤ p) : 0 ≤ a * b ∧ a * b ≤ 65536 := by
  obtain ⟨x, rfl⟩ := Int.eq_ofNat_of_zero_le ha.1
  obtain ⟨y, rfl⟩ := Int.eq_ofNat_of_zero_le hb.1
  have : x * y ≤ 256 * 256 := Nat.mul_le_mul (by omega) (by omega)
  have e : ((x : Int)) * (y : Int) = ((x * y : Nat) : Int) := by push_cast; rfl
  rw [e]; omega
theorem take_vo {l : List Int} {n i : Nat} (h : i < n) : vo (l.take n) i = vo l i := by
  unfold vo
  rw [List.getD_eq_getElem?_getD, List.getD_eq_getElem?_getD, List.getElem?_take, if_pos h]
theorem v_divides {p : Nat} {l o : List Int} {Q : Bool → Prop} (hp : 0 < p) (hp2 : p ≤ 256) (hl : Cn p l.length (vo l)) (ho : Cn p o.length (vo o)) (hd : 0 < l.length) (hdn : l.length ≤ o.length) (hn : o.length ≤ 1000)
    (h : ∀ b : Bool, (b = true ↔ Dvd p l.length (vo l) (vo o) o.length) → Q b) : V_divides p l o Q := by
  refine v_clone (by omega) ⟨small (by omega) (by omega), ?_⟩
  generalize hdd : l.length = d at *
  generalize hnn : o.length = n at *
  refine ⟨fun x z => ∃ k : Nat, z = (n : Int) - 1 - k ∧ k ≤ n - d ∧ x.length = n ∧ ∀ j, j < n → vo x j = rem p d (vo l) (vo o) n k j, fun x z => (z + 1).toNat, ⟨0, by omega, by omega, hnn, fun j _ => rfl⟩, ?_⟩
  rintro x _ ⟨k, rfl, hk, hx, hv⟩
  dsimp only
  have hc := rem_cn (d := d) (l := vo l) (n := n) hp ho k
  refine ⟨fun hle => ?_, fun hgt => ?_⟩
  · obtain ⟨i, hi⟩ : ∃ i : Nat, (n : Int) - 1 - k = i := ⟨n - 1 - k, by omega⟩
    rw [hi]
    have hin : i = n - 1 - k := by omega
    refine ⟨fun y z => ∃ t : Nat, z = t ∧ t ≤ d ∧ y.length = n ∧ ∀ j, j < n → vo y j = if i ≤ j + d ∧ j + d < i + t then rem p d (vo l) (vo o) n (k + 1) j else rem p d (vo l) (vo o) n k j, fun y z => (d - z).toNat, ⟨0, rfl, Nat.zero_le _, hx, fun j hj => by rw [if_neg (by omega)]; exact hv j hj⟩, ?_⟩
    rintro y _ ⟨t, rfl, ht, hy, hw⟩
    dsimp only
    have e1 : (i : Int) - (d : Int) + (t : Int) = ((i - d + t : Nat) : Int) := by omega
    rw [e1, gi_nat, gi_nat, gi_nat, si_nat]
    have hyi : vo y i = rem p d (vo l) (vo o) n k i := by rw [hw i (by omega), if_neg (by omega)]
    refine ⟨fun hlt => ?_, fun hge => ?_⟩
    · have hyj : vo y (i - d + t) = rem p d (vo l) (vo o) n k (i - d + t) := by rw [hw _ (by omega), if_neg (by omega)]
      have c1 := hl t (by omega)
      have c2 := hc i (by omega)
      have c3 := hc (i - d + t) (by omega)
      rw [hyi, hyj]
      have c4 := bd_mul (a := (p : Int) - vo l t) (b := rem p d (vo l) (vo o) n k i) hp2 ⟨by omega, by omega⟩ ⟨c2.1, by omega⟩
      refine ⟨⟨by omega, by omega⟩, small (by omega) (by omega), small (by omega) (by omega), ⟨by omega, by omega⟩, small (by omega) (by omega), ⟨by omega, by omega⟩, small (by omega) (by omega), small (by omega) (by omega), by omega, ⟨by omega, by omega⟩, small (by omega) (by omega), ⟨t + 1, by push_cast; rfl, by omega, by rw [List.length_set, hy], fun j hj => ?_⟩, by omega⟩
      rw [vo_set]
      by_cases hjt : i - d + t = j
      · subst hjt
        rw [if_pos ⟨rfl, by omega⟩, if_pos (by omega), red_eq hp c3.1 (by omega) c2.1]
        show _ = rst p d (n - 1 - k) (vo l) (rem p d (vo l) (vo o) n k) (i - d + t)
        unfold rst
        rw [← hin, if_pos (by omega), show i - d + t + d - i = t by omega]
      · rw [if_neg (fun h => hjt h.1), hw j hj]
        by_cases hc2 : i ≤ j + d ∧ j + d < i + t
        · rw [if_pos hc2, if_pos (by omega)]
        · rw [if_neg hc2, if_neg (by omega)]
    · refine ⟨small (by omega) (by omega), ⟨k + 1, by omega, by omega, hy, fun j hj => ?_⟩, by omega⟩
      rw [hw j hj]
      have htd : t = d := by omega
      by_cases hc2 : i ≤ j + d ∧ j + d < i + t
      · rw [if_pos hc2]
      · rw [if_neg hc2]
        show _ = rst p d (n - 1 - k) (vo l) (rem p d (vo l) (vo o) n k) j
        unfold rst
        rw [← hin, if_neg (by omega)]
  · refine ⟨⟨by omega, by omega⟩, v_contains (f := fun x => decide (x ≠ 0)) (by rw [List.length_take]; omega) (fun x R hR => hR) (h _ ?_)⟩
    have hkk : k = n - d := by omega
    have hlen : (x.take (d : Int).toNat).length = d := by rw [List.length_take]; omega
    rw [Bool.not_eq_true']
    constructor
    · intro hb j hj
      have h2 : ¬ (x.take (d : Int).toNat).any (fun x => decide (x ≠ 0)) = true := by rw [hb]; decide
      rw [any_iff] at h2
      have h3 : decide (vo (x.take (d : Int).toNat) j ≠ 0) = false := by
        cases hc3 : decide (vo (x.take (d : Int).toNat) j ≠ 0) with
        | false => rfl
        | true => exact absurd ⟨j, by omega, hc3⟩ h2
      rw [take_vo (by simpa using hj), hv j (by omega), hkk] at h3
      have h4 := of_decide_eq_false h3
      omega
    · intro hD
      cases hb : (x.take (d : Int).toNat).any (fun x => decide (x ≠ 0)) with
      | false => rfl
      | true =>
        obtain ⟨i, hi, hf⟩ := any_iff.1 hb
        rw [take_vo (by simpa using (by omega : i < d)), hv i (by omega), hkk, hD i (by omega)] at hf
        exact absurd hf (by decide)
theorem vo_snoc (o : List Int) : vo (o ++ [(1 : Int)]) = fun i => if i = o.length then 1 else vo o i := by
  funext i
  unfold vo
  rw [List.getD_eq_getElem?_getD, List.getD_eq_getElem?_getD]
  rcases Nat.lt_trichotomy i o.length with h | h | h
  · rw [List.getElem?_append_left h, if_neg (by omega)]
  · subst h; simp
  · rw [if_neg (by omega), List.getElem?_eq_none (by simp; omega), List.getElem?_eq_none (by omega)]
theorem snoc_cn {p : Nat} {o : List Int} (hp : 2 ≤ p) (ho : Cn p o.length (vo o)) : Cn p (o.length + 1) (vo (o ++ [(1 : Int)])) := fun i hi => by
  rw [vo_snoc]
  dsimp only
  split
  · omega
  · exact ho i (by omega)
theorem v_rdivides {p : Nat} {l o : List Int} {Q : Bool → Prop} (hp : 2 ≤ p) (hp2 : p ≤ 256) (hl : Cn p l.length (vo l)) (ho : Cn p o.length (vo o)) (hd : 0 < l.length) (hdn : l.length ≤ o.length) (hn : o.length ≤ 1000)
    (h : ∀ b : Bool, (b = true ↔ Dvd p l.length (vo l) (fun i => if i = o.length then 1 else vo o i) (o.length + 1)) → Q b) : V_rdivides l o p Q := by
  unfold V_rdivides
  simp only [List.nil_append]
  rw [← vo_snoc] at h
  have hcR := snoc_cn hp ho
  have hnn : (o ++ [(1 : Int)]).length = o.length + 1 := by simp
  refine ⟨by omega, by omega, small (by omega) (by omega), ?_⟩
  generalize hdd : l.length = d at *
  generalize hN : o.length + 1 = n at *
  generalize hoo : o ++ [(1 : Int)] = r at *
  refine ⟨fun x z => ∃ k : Nat, z = (n : Int) - 1 - k ∧ k ≤ n - d ∧ x.length = n ∧ ∀ j, j < n → vo x j = if j + k < n then rem p d (vo l) (vo r) n k j else 0, fun x z => (z + 1).toNat, ⟨0, by omega, by omega, hnn, fun j hj => by rw [if_pos (by omega)]; rfl⟩, ?_⟩
  rintro x _ ⟨k, rfl, hk, hx, hv⟩
  dsimp only
  have hc := rem_cn (d := d) (l := vo l) (n := n) (p := p) (by omega) hcR k
  refine ⟨fun hle => ⟨⟨by omega, by omega⟩, ?_⟩, fun hgt => ?_⟩
  · obtain ⟨i, hi⟩ : ∃ i : Nat, (n : Int) - 1 - k = i := ⟨n - 1 - k, by omega⟩
    rw [hi]
    have hin : i = n - 1 - k := by omega
    have hxi : vo x i = rem p d (vo l) (vo r) n k i := by rw [hv i (by omega), if_pos (by omega)]
    refine ⟨fun y z => ∃ t : Nat, z = t ∧ t ≤ d ∧ y.length = n ∧ ∀ j, j < n → vo y j = if i ≤ j + d ∧ j + d < i + t then rem p d (vo l) (vo r) n (k + 1) j else vo x j, fun y z => (d - z).toNat, ⟨0, rfl, Nat.zero_le _, hx, fun j hj => by rw [if_neg (by omega)]⟩, ?_⟩
    rintro y _ ⟨t, rfl, ht, hy, hw⟩
    dsimp only
    have e1 : (i : Int) - (d : Int) + (t : Int) = ((i - d + t : Nat) : Int) := by omega
    rw [e1, gi_nat, gi_nat, gi_nat, si_nat, si_nat]
    refine ⟨fun hlt => ?_, fun hge => ?_⟩
    · have hyj : vo y (i - d + t) = rem p d (vo l) (vo r) n k (i - d + t) := by rw [hw _ (by omega), if_neg (by omega), hv _ (by omega), if_pos (by omega)]
      have c1 := hl t (by omega)
      have c2 := hc i (by omega)
      have c3 := hc (i - d + t) (by omega)
      rw [hxi, hyj]
      have c4 := bd_mul (a := (p : Int) - rem p d (vo l) (vo r) n k i) (b := vo l t) hp2 ⟨by omega, by omega⟩ ⟨c1.1, by omega⟩
      refine ⟨small (by omega) (by omega), small (by omega) (by omega), small (by omega) (by omega), small (by omega) (by omega), ⟨by omega, by omega⟩, small (by omega) (by omega), ⟨by omega, by omega⟩, small (by omega) (by omega), small (by omega) (by omega), by omega, ⟨by omega, by omega⟩, small (by omega) (by omega), ⟨t + 1, by push_cast; rfl, by omega, by rw [List.length_set, hy], fun j hj => ?_⟩, by omega⟩
      rw [vo_set]
      by_cases hjt : i - d + t = j
      · subst hjt
        rw [if_pos ⟨rfl, by omega⟩, if_pos (by omega), red_eq (by omega) c3.1 (by omega) c1.1]
        show _ = rst p d (n - 1 - k) (vo l) (rem p d (vo l) (vo r) n k) (i - d + t)
        unfold rst
        rw [← hin, if_pos (by omega), show i - d + t + d - i = t by omega, Int.mul_comm]
      · rw [if_neg (fun h => hjt h.1), hw j hj]
        by_cases hc2 : i ≤ j + d ∧ j + d < i + t
        · rw [if_pos hc2, if_pos (by omega)]
        · rw [if_neg hc2, if_neg (by omega)]
    · refine ⟨⟨by omega, by omega⟩, small (by omega) (by omega), ⟨k + 1, by omega, by omega, by rw [List.length_set, hy], fun j hj => ?_⟩, by omega⟩
      rw [vo_set]
      by_cases hij : i = j
      · subst hij
        rw [if_pos ⟨rfl, by omega⟩, if_neg (by omega)]
      · rw [if_neg (fun h => hij h.1), hw j hj]
        have htd : t = d := by omega
        by_cases hc2 : i ≤ j + d ∧ j + d < i + t
        · rw [if_pos hc2, if_pos (by omega)]
        · rw [if_neg hc2, hv j hj]
          by_cases hjk : j + k < n
          · rw [if_pos hjk, if_pos (by omega)]
            show _ = rst p d (n - 1 - k) (vo l) (rem p d (vo l) (vo r) n k) j
            unfold rst
            rw [← hin, if_neg (by omega)]
          · rw [if_neg hjk, if_neg (by omega)]
  · have hkk : k = n - d := by omega
    refine ⟨fun z => ∃ t : Nat, z = t ∧ t ≤ n ∧ ∀ j, j < t → vo x j = 0, fun z => (n - z).toNat, ⟨0, rfl, Nat.zero_le _, fun j hj => by omega⟩, ?_⟩
    rintro _ ⟨t, rfl, ht, hz⟩
    dsimp only
    rw [gi_nat]
    refine ⟨fun hlt => ⟨⟨by omega, by omega⟩, fun hne => ?_, fun heq => ⟨small (by omega) (by omega), ⟨t + 1, by push_cast; rfl, by omega, fun j hj => ?_⟩, by omega⟩⟩, fun hge => ?_⟩
    · refine h false ⟨fun h' => absurd h' (by decide), fun hD => ?_⟩
      rw [hv t (by omega)] at hne
      by_cases hc2 : t + k < n
      · rw [if_pos hc2, hkk, hD t (by omega)] at hne; exact absurd rfl hne
      · rw [if_neg hc2] at hne; exact absurd rfl hne
    · by_cases hjt : j = t
      · subst hjt; omega
      · exact hz j (by omega)
    · refine h true ⟨fun _ j hj => ?_, fun _ => rfl⟩
      have h1 := hz j (by omega)
      rw [hv j (by omega), if_pos (by omega), hkk] at h1
      exact h1
theorem dgi_vo {p d w : Nat} (hw : w < p ^ d) : vo (dgi p d w) = dv p w := by
  funext i
  rcases Nat.lt_or_ge i d with h | h
  · exact dgi_at h
  · rw [vo_hi (by rw [dgi_len]; exact h), dv_hi hw h]
theorem dgi_cn {p d w : Nat} (hp : 0 < p) (hw : w < p ^ d) (n : Nat) : Cn p n (vo (dgi p d w)) := by rw [dgi_vo hw]; exact dv_cn hp w n
theorem v_isIrr {p m : Nat} {mf : List Int} {Q : Bool → Prop} (hp : 2 ≤ p) (hp2 : p ≤ 256) (hm : mf.length = m) (hq : p ^ m ≤ 256) (hc : Cn p m (vo mf))
    (h : ∀ b : Bool, (b = true ↔ Irr p m (vo mf)) → Q b) : V_isIrreducible p m mf Q := by
  have hm9 : m ≤ 8 := by
    rcases Nat.lt_or_ge 8 m with h1 | h1
    · have e1 : 2 ^ 9 ≤ p ^ 9 := Nat.pow_le_pow_left (by omega) 9
      have e2 := pow_mono (p := p) (by omega) (show 9 ≤ m by omega)
      omega
    · exact h1
  refine v_clone (by omega) ⟨by omega, ?_⟩
  have hlen : (mf ++ [(1 : Int)]).length = m + 1 := by simp [hm]
  have hcs : Cn p (m + 1) (vo (mf ++ [(1 : Int)])) := by have := snoc_cn hp (o := mf) (by rw [hm]; exact hc); rwa [hm] at this
  have hpd : ∀ d, 2 * d ≤ m → p ^ d ≤ 256 := fun d hd => Nat.le_trans (pow_mono (by omega) (by omega)) hq
  refine ⟨fun a b => ∃ d : Nat, a = d ∧ 1 ≤ d ∧ 2 * (d - 1) ≤ m ∧ b = ((p ^ d : Nat) : Int) ∧ p ^ d ≤ 65536 ∧ ∀ e, 0 < e → e < d → 2 * e ≤ m → ∀ w, w < p ^ e → ¬ Dvd p e (dv p w) (fun i => if i = m then 1 else vo mf i) (m + 1), fun a b => (20 - a).toNat, ⟨1, rfl, by omega, by omega, by simp, by simp; omega, fun e h1 h2 => by omega⟩, ?_⟩
  rintro _ _ ⟨d, rfl, hd1, hd2, rfl, hdp, hnd⟩
  dsimp only
  refine ⟨small (by omega) (by omega), fun hle => ?_, fun hgt => ?_⟩
  · have hpd' := hpd d (by omega)
    refine ⟨fun z => ∃ w : Nat, z = w ∧ w ≤ p ^ d ∧ ∀ u, u < w → ¬ Dvd p d (dv p u) (fun i => if i = m then 1 else vo mf i) (m + 1), fun z => ((p ^ d : Nat) - z).toNat, ⟨0, rfl, Nat.zero_le _, fun u hu => by omega⟩, ?_⟩
    rintro _ ⟨w, rfl, hw, hnw⟩
    dsimp only
    refine ⟨fun hlt => ?_, fun hge => ?_⟩
    · have hw2 : w < p ^ d := by omega
      refine ⟨_, v_digits (by omega) (by omega) (by omega) rfl, ?_⟩
      have hdl := dgi_len p d w
      refine (?_ : ∃ r : Bool, V_divides p (dgi p d w) (mf ++ [(1 : Int)]) (fun q => q = r) ∧ _)
      by_cases hD : Dvd p d (dv p w) (fun i => if i = m then 1 else vo mf i) (m + 1)
      · refine ⟨true, v_divides (by omega) hp2 (by rw [hdl]; exact dgi_cn (by omega) hw2 d) (by rw [hlen]; exact hcs) (by omega) (by omega) (by omega) fun b hb => ?_, fun _ => ?_, fun h' => absurd h' (by decide)⟩
        · rw [hdl, hlen, dgi_vo hw2, vo_snoc, hm] at hb
          exact hb.2 hD
        · exact h false ⟨fun h' => absurd h' (by decide), fun hI => absurd hD (hI d (by omega) (by omega) w hw2)⟩
      · refine ⟨false, v_divides (by omega) hp2 (by rw [hdl]; exact dgi_cn (by omega) hw2 d) (by rw [hlen]; exact hcs) (by omega) (by omega) (by omega) fun b hb => ?_, fun h' => absurd h' (by decide), fun _ => ?_⟩
        · rw [hdl, hlen, dgi_vo hw2, vo_snoc, hm] at hb
          cases b with
          | false => rfl
          | true => exact absurd (hb.1 rfl) hD
        · refine ⟨small (by omega) (by omega), ⟨w + 1, by push_cast; rfl, by omega, fun u hu => ?_⟩, by omega⟩
          by_cases huw : u = w
          · subst huw; exact hD
          · exact hnw u (by omega)
    · have e1 : ((p ^ d : Nat) : Int) * (p : Int) = ((p ^ (d + 1) : Nat) : Int) := by rw [Nat.pow_succ]; push_cast; rfl
      have hb2 : p ^ (d + 1) ≤ 65536 := by
        rw [Nat.pow_succ]
        have := Nat.mul_le_mul hpd' hp2; omega
      rw [e1]
      refine ⟨small (by omega) (by omega), smallN (by omega), ⟨d + 1, by push_cast; rfl, by omega, by omega, rfl, hb2, fun e he0 he h2 u hu => ?_⟩, by omega⟩
      by_cases hed : e = d
      · subst hed; exact hnw u (by omega)
      · exact hnd e he0 (by omega) h2 u hu
  · exact h true ⟨fun _ e he0 h2 u hu => hnd e he0 (by omega) h2 u hu, fun _ => rfl⟩
theorem v_rirr {p m : Nat} {mf : List Int} {Q : Bool → Prop} (hp : 2 ≤ p) (hp2 : p ≤ 256) (hm : mf.length = m) (hq : p ^ m ≤ 256) (hc : Cn p m (vo mf))
    (h : ∀ b : Bool, (b = true ↔ Irr p m (vo mf)) → Q b) : V_rirr mf p Q := by
  have hm9 : m ≤ 8 := by
    rcases Nat.lt_or_ge 8 m with h1 | h1
    · have e1 : 2 ^ 9 ≤ p ^ 9 := Nat.pow_le_pow_left (by omega) 9
      have e2 := pow_mono (p := p) (by omega) (show 9 ≤ m by omega)
      omega
    · exact h1
  unfold V_rirr
  rw [hm]
  have hpd : ∀ d, 2 * d ≤ m → p ^ d ≤ 256 := fun d hd => Nat.le_trans (pow_mono (by omega) (by omega)) hq
  refine ⟨fun b a => ∃ d : Nat, a = d + 1 ∧ 2 * d ≤ m ∧ b = ((p ^ d : Nat) : Int) ∧ ∀ e, 0 < e → e ≤ d → 2 * e ≤ m → ∀ w, w < p ^ e → ¬ Dvd p e (dv p w) (fun i => if i = m then 1 else vo mf i) (m + 1), fun b a => (20 - a).toNat, ⟨0, rfl, by omega, by simp, fun e h1 h2 => by omega⟩, ?_⟩
  rintro _ _ ⟨d, rfl, hd2, rfl, hnd⟩
  dsimp only
  have hpd' := hpd d hd2
  refine ⟨small (by omega) (by omega), fun hle => ?_, fun hgt => ?_⟩
  · have e1 : ((p ^ d : Nat) : Int) * (p : Int) = ((p ^ (d + 1) : Nat) : Int) := by rw [Nat.pow_succ]; push_cast; rfl
    have hpd2 := hpd (d + 1) (by omega)
    rw [e1]
    refine ⟨smallN (by omega), ?_⟩
    refine ⟨fun z => ∃ w : Nat, z = w ∧ w ≤ p ^ (d + 1) ∧ ∀ u, u < w → ¬ Dvd p (d + 1) (dv p u) (fun i => if i = m then 1 else vo mf i) (m + 1), fun z => ((p ^ (d + 1) : Nat) - z).toNat, ⟨0, rfl, Nat.zero_le _, fun u hu => by omega⟩, ?_⟩
    rintro _ ⟨w, rfl, hw, hnw⟩
    dsimp only
    rw [show (d : Int) + 1 = ((d + 1 : Nat) : Int) by push_cast; rfl]
    refine ⟨fun hlt => ?_, fun hge => ?_⟩
    · have hw2 : w < p ^ (d + 1) := by omega
      have hdl := dgi_len p (d + 1) w
      refine v_rdigits (by omega) (by omega) (by omega) (v_rdivides hp hp2 (by rw [hdl]; exact dgi_cn (by omega) hw2 _) (by rw [hm]; exact hc) (by omega) (by omega) (by omega) fun b hb => ?_)
      rw [hdl, hm, dgi_vo hw2] at hb
      refine ⟨fun hb1 => ?_, fun hb0 => ?_⟩
      · exact h false ⟨fun h' => absurd h' (by decide), fun hI => absurd (hb.1 hb1) (hI (d + 1) (by omega) (by omega) w hw2)⟩
      · refine ⟨small (by omega) (by omega), ⟨w + 1, by push_cast; rfl, by omega, fun u hu => ?_⟩, by omega⟩
        by_cases huw : u = w
        · subst huw; intro hD; rw [hb.2 hD] at hb0; exact absurd hb0 (by decide)
        · exact hnw u (by omega)
    · refine ⟨small (by omega) (by omega), ⟨d + 1, rfl, by omega, rfl, fun e he0 he h2 u hu => ?_⟩, by omega⟩
      by_cases hed : e = d + 1
      · subst hed; exact hnw u (by omega)
      · exact hnd e he0 (by omega) h2 u hu
  · exact h true ⟨fun _ e he0 h2 u hu => hnd e he0 (by omega) h2 u hu, fun _ => rfl⟩
/-! a description of a field -/
structure FV (P M : Int) (mf : List Int) (p m v : Nat) : Prop where
  eP : P = p
  eM : M = m
  pr : IsLf p p
  m0 : 0 < m
  q : p ^ m ≤ 256
  vlt : v < p ^ m
  m1 : m = 1 → mf = [] ∧ v = 0
  m2 : m ≠ 1 → mf = dgi p m v
  irr : Irr p m (dv p v)
def Valid (P M : Int) (mf : List Int) : Prop := ∃ p m v, FV P M mf p m v
open Classical in
noncomputable def ck (P M : Int) (mf : List Int) : Int := if Valid P M mf then 0 else 1
theorem ck_ok {P M : Int} {mf : List Int} (h : Valid P M mf) : ck P M mf = 0 := if_pos h
theorem ck_no {P M : Int} {mf : List Int} (h : ¬ Valid P M mf) : ck P M mf = 1 := if_neg h
theorem irr_one (p : Nat) (c : Vec) : Irr p 1 c := fun d h1 h2 => by omega
theorem valid_one {p : Nat} (hp : IsLf p p) (hq : p ≤ 256) : FV p ((1 : Nat) : Int) [] p 1 0 := ⟨rfl, rfl, hp, by omega, by simpa using hq, by have := hp.two; simp; omega, fun _ => ⟨rfl, rfl⟩, fun h => absurd rfl h, irr_one p _⟩
theorem cn_list {p m : Nat} {mf : List Int} (hp : 0 < p) (hl : mf.length = m) (hc : Cn p m (vo mf)) : nm p m (vo mf) < p ^ m ∧ mf = dgi p m (nm p m (vo mf)) ∧ vo mf = dv p (nm p m (vo mf)) := by
  have hlt := nm_lt (m := m) hp (vo mf)
  have he : mf = dgi p m (nm p m (vo mf)) := vo_ext (by rw [hl, dgi_len]) fun i hi => by
    have h1 := hc i (by omega)
    rw [dgi_at (by omega), dv_nm hp _ (by omega), Int.emod_eq_of_lt h1.1 h1.2]
  exact ⟨hlt, he, by have := congrArg vo he; rw [dgi_vo hlt] at this; exact this⟩
theorem FV.cn {P M : Int} {mf : List Int} {p m v : Nat} (h : FV P M mf p m v) (hm : m ≠ 1) : mf.length = m ∧ Cn p m (vo mf) ∧ Irr p m (vo mf) := by
  have := h.pr.two
  rw [h.m2 hm]
  exact ⟨dgi_len p m v, dgi_cn (by omega) h.vlt m, by rw [dgi_vo h.vlt]; exact h.irr⟩
theorem FV.vo {P M : Int} {mf : List Int} {p m v : Nat} (h : FV P M mf p m v) : Go.Proofs.Ythjpminlkcklgaa.vo mf = dv p v := by
  by_cases hm : m = 1
  · rw [(h.m1 hm).1, (h.m1 hm).2, dv_z]; rfl
  · rw [h.m2 hm, dgi_vo h.vlt]
theorem v_check {P M : Int} {mf : List Int} {Q : Int → Prop} (h : Q (ck P M mf)) : V_check P M mf Q := by
  refine ⟨fun h1 => ?_, fun h1 => v_isPrime (by omega) fun b hb => ⟨fun hb0 => ?_, fun hb1 => ?_⟩⟩
  · rw [ck_no] at h
    · exact h
    · rintro ⟨p, m, v, hV⟩
      have e1 := pow_mono (p := p) (by have := hV.pr.two; omega) hV.m0
      have := hV.q
      have := hV.eP
      rw [show p ^ (0 + 1) = p from Nat.pow_one p] at e1
      omega
  · rw [ck_no] at h
    · exact h
    · rintro ⟨p, m, v, hV⟩
      have := hV.pr.two
      have : b = true := hb.2 ⟨by rw [hV.eP]; omega, by rw [hV.eP]; exact hV.pr⟩
      rw [this] at hb0; exact absurd hb0 (by decide)
  · have hbt : b = true := by cases b <;> first | rfl | exact absurd hb1 (by decide)
    obtain ⟨hP2, hPr⟩ := hb.1 hbt
    obtain ⟨p, rfl⟩ := Int.eq_ofNat_of_zero_le (show 0 ≤ P by omega)
    rw [Int.toNat_natCast] at hPr
    refine ⟨fun h2 => ?_, fun h2 => v_order (by omega) (by omega) fun r hr1 hr2 => ⟨fun h3 => ?_, fun h3 => ?_⟩⟩
    · rw [ck_no] at h
      · exact h
      · rintro ⟨p', m, v, hV⟩
        have := hV.m0; have := hV.eM; omega
    · rw [ck_no] at h
      · exact h
      · rintro ⟨p', m, v, hV⟩
        have e1 := hV.eM; have e2 := hV.eP; have e3 := hV.q
        have : p = p' := by omega
        subst this
        rw [e1, Int.toNat_natCast] at hr1
        have := hr1 e3; omega
    · obtain ⟨m, rfl⟩ := Int.eq_ofNat_of_zero_le (show 0 ≤ M by omega)
      rw [Int.toNat_natCast] at hr1 hr2
      have hq : p ^ m ≤ 256 := by
        rcases Nat.lt_or_ge 256 (p ^ m) with hc | hc
        · exact absurd (hr2 hc) h3
        · exact hc
      refine ⟨fun h4 => v_okIf ?_, fun h4 => ⟨fun h5 => ?_, fun h5 => ?_⟩⟩
      · have hm1 : m = 1 := by omega
        subst hm1
        by_cases hl : mf = []
        · subst hl
          rw [ck_ok ⟨_, _, _, valid_one hPr (by omega)⟩] at h
          simpa using h
        · rw [ck_no] at h
          · simpa [hl] using h
          · rintro ⟨p', m, v, hV⟩
            exact hl (hV.m1 (by have := hV.eM; omega)).1
      · rw [ck_no] at h
        · exact h
        · rintro ⟨p', m', v, hV⟩
          have e1 := hV.eM
          have := (hV.cn (by omega)).1
          omega
      · have hlen : mf.length = m := by omega
        have hm8 : mf.length ≤ 1000000000 := by
          have := Nat.lt_two_pow_self (n := m)
          have e1 : 2 ^ m ≤ p ^ m := Nat.pow_le_pow_left (by omega) m
          omega
        refine v_contains (f := fun x => if x < 0 then true else decide ((p : Int) ≤ x)) hm8 (fun x R hR => ⟨fun hx => by simpa [hx] using hR, fun hx => by simpa [hx] using hR⟩) ⟨fun hb6 => ?_, fun hb6 => ?_⟩
        · rw [ck_no] at h
          · exact h
          · rintro ⟨p', m', v, hV⟩
            have e1 := hV.eM; have e2 := hV.eP
            have e3 : p = p' := by omega
            have e4 : m = m' := by omega
            subst e3; subst e4
            obtain ⟨i, hi, hf⟩ := any_iff.1 hb6
            have hcn := (hV.cn (by omega)).2.1 i (by omega)
            rw [if_neg (by omega)] at hf
            have := of_decide_eq_true hf
            omega
        · have hcn : Cn p m (vo mf) := fun i hi => by
            have h6 : ¬ mf.any (fun x => if x < 0 then true else decide ((p : Int) ≤ x)) = true := by rw [hb6]; decide
            rw [any_iff] at h6
            by_cases hx : vo mf i < 0
            · exact absurd ⟨i, by omega, by rw [if_pos hx]⟩ h6
            · by_cases hx2 : (p : Int) ≤ vo mf i
              · exact absurd ⟨i, by omega, by rw [if_neg hx, decide_eq_true hx2]⟩ h6
              · omega
          have hcl := cn_list (by omega) hlen hcn
          refine v_isIrr (by omega) (by omega) hlen hq hcn fun b2 hb2 => v_okIf ?_
          by_cases hI : Irr p m (vo mf)
          · rw [hb2.2 hI, if_pos rfl]
            rw [ck_ok ⟨p, m, nm p m (vo mf), rfl, rfl, hPr, by omega, hq, hcl.1, fun e => by omega, fun _ => hcl.2.1, by rw [← hcl.2.2]; exact hI⟩] at h
            exact h
          · rw [if_neg (fun e => hI (hb2.1 e))]
            rw [ck_no] at h
            · exact h
            · rintro ⟨p', m', v, hV⟩
              have e1 := hV.eM; have e2 := hV.eP
              have e3 : p = p' := by omega
              have e4 : m = m' := by omega
              subst e3; subst e4
              exact hI (hV.cn (by omega)).2.2
theorem v_rCheck {P M : Int} {mf : List Int} {Q : Int → Prop} (h : Q (ck P M mf)) : V_rCheck P M mf Q := by
  refine v_rOrder ⟨fun h0 => ?_, fun h0 => ?_⟩
  · rw [ck_no] at h
    · exact h
    · rintro ⟨p, m, v, hV⟩
      have h1 := hV.pr.two; have h2 := hV.m0; have h3 := hV.q
      rw [hV.eP, hV.eM, ordR, if_pos ⟨by omega, by omega, by simpa using h3⟩] at h0
      have h4 : 0 < p ^ m := Nat.pow_pos (by omega)
      simp only [Int.toNat_natCast] at h0
      omega
  · unfold ordR at h0
    by_cases hc : 2 ≤ P ∧ 1 ≤ M ∧ P.toNat ^ M.toNat ≤ 256
    · obtain ⟨h1, h2, hq⟩ := hc
      obtain ⟨p, rfl⟩ := Int.eq_ofNat_of_zero_le (show 0 ≤ P by omega)
      obtain ⟨m, rfl⟩ := Int.eq_ofNat_of_zero_le (show 0 ≤ M by omega)
      simp only [Int.toNat_natCast] at hq
      have hp256 : p ≤ 256 := by
        have := pow_mono (p := p) (by omega) (show 1 ≤ m by omega)
        rw [Nat.pow_one] at this; omega
      refine v_rprime (by omega) hp256 fun b hb => ⟨fun hb0 => ?_, fun hb1 => ?_⟩
      · rw [ck_no] at h
        · exact h
        · rintro ⟨p', m', v, hV⟩
          have e2 := hV.eP
          have e3 : p = p' := by omega
          subst e3
          rw [hb.2 hV.pr] at hb0; exact absurd hb0 (by decide)
      · have hbt : b = true := by cases b <;> first | rfl | exact absurd hb1 (by decide)
        have hPr := hb.1 hbt
        refine ⟨fun h4 => ⟨fun h5 => ?_, fun h5 => ?_⟩, fun h4 => ⟨fun h5 => ?_, fun h5 => ?_⟩⟩
        · rw [ck_no] at h
          · exact h
          · rintro ⟨p', m', v, hV⟩
            have e1 := hV.eM
            have := (hV.m1 (by omega)).1
            rw [this] at h5; exact h5 rfl
        · have hm1 : m = 1 := by omega
          subst hm1
          have hl : mf = [] := List.length_eq_zero_iff.1 (by omega)
          subst hl
          rw [ck_ok ⟨_, _, _, valid_one hPr hp256⟩] at h
          exact h
        · rw [ck_no] at h
          · exact h
          · rintro ⟨p', m', v, hV⟩
            have e1 := hV.eM
            have := (hV.cn (by omega)).1
            omega
        · have hlen : mf.length = m := by omega
          refine ⟨fun z => ∃ k : Nat, z = k ∧ k ≤ m ∧ Cn p k (vo mf), fun z => (m - z).toNat, ⟨0, rfl, Nat.zero_le _, fun i hi => by omega⟩, ?_⟩
          rintro _ ⟨k, rfl, hk, hcn⟩
          dsimp only
          rw [gi_nat]
          have hno : ¬ (0 ≤ vo mf k ∧ vo mf k < p) → k < m → ¬ Valid p m mf := by
            rintro hbad hkm ⟨p', m', v, hV⟩
            have e1 := hV.eM; have e2 := hV.eP
            have e3 : p = p' := by omega
            have e4 : m = m' := by omega
            subst e3; subst e4
            exact hbad ((hV.cn (by omega)).2.1 k hkm)
          have hm8 : m ≤ 1000000000 := by
            have := Nat.lt_two_pow_self (n := m)
            have e1 : 2 ^ m ≤ p ^ m := Nat.pow_le_pow_left (by omega) m
            omega
          refine ⟨fun hlt => ⟨fun hneg => ⟨⟨by omega, by omega⟩, ?_⟩, fun hpos => ⟨⟨by omega, by omega⟩, ⟨by omega, by omega⟩, fun hbig => ?_, fun hsm => ⟨small (by omega) (by omega), ⟨k + 1, by push_cast; rfl, by omega, fun i hi => ?_⟩, by omega⟩⟩⟩, fun hge => ?_⟩
          · rw [ck_no (hno (by omega) (by omega))] at h; exact h
          · rw [ck_no (hno (by omega) (by omega))] at h; exact h
          · by_cases hik : i = k
            · subst hik; omega
            · exact hcn i (by omega)
          · have hkm : k = m := by omega
            subst hkm
            have hcl := cn_list (by omega) hlen hcn
            refine v_rirr (by omega) hp256 hlen hq hcn fun b2 hb2 => ⟨fun hb3 => ?_, fun hb3 => ?_⟩
            · rw [ck_no] at h
              · exact h
              · rintro ⟨p', m', v, hV⟩
                have e1 := hV.eM; have e2 := hV.eP
                have e3 : p = p' := by omega
                have e4 : k = m' := by omega
                subst e3; subst e4
                rw [hb2.2 (hV.cn (by omega)).2.2] at hb3; exact absurd hb3 (by decide)
            · have hbt2 : b2 = true := by cases b2 <;> first | rfl | exact absurd hb3 (by decide)
              rw [ck_ok ⟨p, k, nm p k (vo mf), rfl, rfl, hPr, by omega, hq, hcl.1, fun e => by omega, fun _ => hcl.2.1, by rw [← hcl.2.2]; exact hb2.1 hbt2⟩] at h
              exact h
    · rw [if_neg hc] at h0; exact absurd rfl h0
end Go.Proofs.Ythjpminlkcklgaa
set_option linter.unusedVariables false
set_option linter.unusedSimpArgs false
namespace Go.Proofs.Ythjpminlkcklgaa
/-! ### products, powers, units -/
theorem can_list {p m : Nat} {r : List Int} {u : Vec} (hp : 0 < p) (hl : r.length = m) (hv : ∀ i, i < m → vo r i = u i % (p : Int)) : r = dgi p m (nm p m u) :=
  vo_ext (by rw [hl, dgi_len]) fun i hi => by rw [hv i (by omega), dgi_at (by omega), dv_nm hp _ (by omega)]
theorem vl_step (p i : Nat) (l : List Int) (n : Nat) (h : i < n) : vl p (i + 1) (fun t => vo l (n - (i + 1) + t)) = vo l (n - (i + 1)) + (p : Int) * vl p i (fun t => vo l (n - i + t)) := by
  show vo l (n - (i + 1) + 0) + (p : Int) * vl p i (fun t => vo l (n - (i + 1) + (t + 1))) = _
  rw [Nat.add_zero]
  have : (fun t => vo l (n - (i + 1) + (t + 1))) = fun t => vo l (n - i + t) := by
    funext t; rw [show n - (i + 1) + (t + 1) = n - i + t by omega]
  rw [this]
theorem vl_part {p : Nat} {l : List Int} {n i : Nat} (hp : 2 ≤ p) (hc : Cn p n (vo l)) (hq : p ^ n ≤ 256) (hi : i ≤ n) : 0 ≤ vl p i (fun t => vo l (n - i + t)) ∧ vl p i (fun t => vo l (n - i + t)) < 256 := by
  have h1 := vl_bd (p := p) (n := i) (v := fun t => vo l (n - i + t)) (by omega) (fun t ht => hc (n - i + t) (by omega))
  have h2 := pow_mono (p := p) (by omega) hi
  omega
theorem v_fromDigits {p : Nat} {l : List Int} {Q : Int → Prop} (hp : 2 ≤ p) (hp2 : p ≤ 256) (hc : Cn p l.length (vo l)) (hq : p ^ l.length ≤ 256) (h : Q (vl p l.length (vo l))) : V_fromDigits p l Q := by
  refine ⟨fun i z => i ≤ l.length ∧ z = vl p i (fun t => vo l (l.length - i + t)), ⟨Nat.zero_le _, rfl⟩, ?_, ?_⟩
  · rintro i hi _ ⟨_, rfl⟩
    have h1 := vl_part hp hc hq (i := i) (by omega)
    have h2 := vl_part hp hc hq (i := i + 1) (by omega)
    rw [vl_step p i l l.length hi] at h2
    have h3 := bd_mul (a := vl p i (fun t => vo l (l.length - i + t))) (b := p) (p := 256) (by omega) ⟨h1.1, by omega⟩ ⟨by omega, by omega⟩
    rw [show ((l.length - 1 - i : Nat) : Int) = ((l.length - (i + 1) : Nat) : Int) by omega, gi_nat]
    refine ⟨small (by omega) (by omega), ?_, by omega, ?_⟩
    · rw [Int.mul_comm, Int.add_comm]; exact small (by omega) (by omega)
    · rw [vl_step p i l l.length hi, Int.mul_comm, Int.add_comm]
  · rintro _ ⟨_, rfl⟩
    have : (fun t => vo l (l.length - l.length + t)) = vo l := by funext t; rw [Nat.sub_self, Nat.zero_add]
    rw [this]; exact h
theorem v_rValue {p : Nat} {M : Int} {mf l : List Int} {Q : Int → Prop} (hp : 2 ≤ p) (hp2 : p ≤ 256) (hl : l.length ≤ 1000) (hc : Cn p l.length (vo l)) (hq : p ^ l.length ≤ 256) (h : Q (vl p l.length (vo l))) : V_rValue p M mf l Q := by
  refine ⟨small (by omega) (by omega), fun z j => ∃ i : Nat, j = (l.length : Int) - 1 - i ∧ i ≤ l.length ∧ z = vl p i (fun t => vo l (l.length - i + t)), fun z j => (j + 1).toNat, ⟨0, by omega, Nat.zero_le _, rfl⟩, ?_⟩
  rintro _ _ ⟨i, rfl, hi, rfl⟩
  dsimp only
  refine ⟨fun hge => ?_, fun hlt => ?_⟩
  · have h1 := vl_part hp hc hq (i := i) (by omega)
    have h2 := vl_part hp hc hq (i := i + 1) (by omega)
    rw [vl_step p i l l.length (by omega)] at h2
    have h3 := bd_mul (a := vl p i (fun t => vo l (l.length - i + t))) (b := p) (p := 256) (by omega) ⟨h1.1, by omega⟩ ⟨by omega, by omega⟩
    rw [show (l.length : Int) - 1 - i = ((l.length - (i + 1) : Nat) : Int) by omega, gi_nat]
    refine ⟨small (by omega) (by omega), ⟨by omega, by omega⟩, ?_, small (by omega) (by omega), ⟨i + 1, by omega, by omega, ?_⟩, by omega⟩
    · rw [Int.mul_comm, Int.add_comm]; exact small (by omega) (by omega)
    · rw [vl_step p i l l.length (by omega), Int.mul_comm, Int.add_comm]
  · have hil : i = l.length := by omega
    subst hil
    have : (fun t => vo l (l.length - l.length + t)) = vo l := by funext t; rw [Nat.sub_self, Nat.zero_add]
    rw [this]; exact h
theorem vl_dgi {p m x : Nat} (hp : 0 < p) (hx : x < p ^ m) : vl p (dgi p m x).length (vo (dgi p m x)) = (x : Int) := by
  rw [dgi_len, dgi_vo hx, vl_dv hp hx]
namespace FV
variable {P M : Int} {mf : List Int} {p m v : Nat} (F : FV P M mf p m v)
include F
theorem p2 : 2 ≤ p := F.pr.two
theorem pq : p ≤ p ^ m := by
  have := pow_mono (p := p) (by have := F.pr.two; omega) F.m0
  rwa [show p ^ (0 + 1) = p from Nat.pow_one p] at this
theorem p256 : p ≤ 256 := Nat.le_trans F.pq F.q
theorem m8 : m ≤ 8 := by
  rcases Nat.lt_or_ge 8 m with h1 | h1
  · have e1 : 2 ^ 9 ≤ p ^ 9 := Nat.pow_le_pow_left F.p2 9
    have e2 := pow_mono (p := p) (by have := F.p2; omega) (show 9 ≤ m by omega)
    have := F.q
    omega
  · exact h1
theorem ring : CR (p ^ m) (fadd p m) (fmul p m (dv p v)) := CR.mk' _ F.p2 F.m0
theorem gen : ∃ g, Gn (p ^ m) (fmul p m (dv p v)) g := gen_ex F.pr F.m0 F.q F.vlt (fun h => (F.m1 h).2) F.irr
end FV
def sh (v : Vec) : Vec := fun i => if i = 0 then 0 else v (i - 1)
theorem tX_sh {m : Nat} {c v : Vec} {i : Nat} (hi : i < m) : tX m c v i = sh v i - c i * v (m - 1) := by simp only [tX, if_pos hi, sh]
theorem v_timesX {P M : Int} {mf : List Int} {p m v : Nat} (F : FV P M mf p m v) {x : Nat} {Q : List Int → Prop} (hx : x < p ^ m) (h : Q (dgi p m (nm p m (tX m (dv p v) (dv p x))))) : V_timesX P M mf (dgi p m x) Q := by
  have hp := F.p2
  have hp2 := F.p256
  have hm0 := F.m0
  have hm8 := F.m8
  rw [F.eP, F.eM]
  have hlen := dgi_len p m x
  have hcx := dv_cn (p := p) (by omega) x m
  refine ⟨small (by omega) (by omega), ⟨by omega, by omega⟩, ⟨by omega, by omega⟩, ⟨by omega, by omega⟩, ?_⟩
  generalize hA : (si ((dgi p m x).take ((1 : Int).toNat) ++ (dgi p m x).take (min (dgi p m x).length ((dgi p m x).length - ((1 : Int).toNat))) ++ (dgi p m x).drop ((1 : Int).toNat + (min (dgi p m x).length ((dgi p m x).length - ((1 : Int).toNat))))) (0 : Int) (0 : Int)) = A
  have hAl : A.length = m := by
    rw [← hA]
    show (List.set _ _ _).length = m
    rw [List.length_set]
    simp only [List.length_append, List.length_take, List.length_drop, hlen]
    show min 1 m + min (min m (m - 1)) m + (m - (1 + min m (m - 1))) = m
    omega
  have hAv : ∀ i, i < m → vo A i = sh (dv p x) i := fun i hi => by
    unfold sh
    rw [← hA]
    show vo (List.set _ 0 0) i = _
    rw [vo_set]
    by_cases h0 : i = 0
    · subst h0
      rw [if_pos ⟨rfl, by simp only [List.length_append, List.length_take, hlen]; show 0 < min 1 m + _ + _; omega⟩, if_pos rfl]
    · rw [if_neg (fun h => h0 h.1.symm), if_neg h0]
      have e1 : ((dgi p m x).take ((1 : Int).toNat)).length = 1 := by rw [List.length_take, hlen]; show min 1 m = 1; omega
      have e2 : (min (dgi p m x).length ((dgi p m x).length - ((1 : Int).toNat))) = m - 1 := by rw [hlen]; show min m (m - 1) = m - 1; omega
      rw [e2]
      have e3 : ((dgi p m x).take (m - 1)).length = m - 1 := by rw [List.length_take, hlen]; omega
      unfold vo
      rw [List.getD_eq_getElem?_getD, List.append_assoc, List.getElem?_append_right (by omega), e1, List.getElem?_append_left (by omega), List.getElem?_take, if_pos (by omega)]
      have := dgi_at (p := p) (x := x) (i := i - 1) (n := m) (by omega)
      unfold vo at this
      rw [List.getD_eq_getElem?_getD] at this
      exact this
  rw [show (m : Int) - 1 = ((m - 1 : Nat) : Int) by omega, gi_nat, dgi_at (by omega)]
  have hshift : ∀ i, i < m → 0 ≤ sh (dv p x) i ∧ sh (dv p x) i < p := fun i hi => by
    unfold sh
    split
    · omega
    · exact hcx (i - 1) (by omega)
  refine ⟨fun h0 => ?_, fun h0 => ?_⟩
  · rw [can_list (p := p) (u := tX m (dv p v) (dv p x)) (by omega) hAl fun i hi => ?_]
    · exact h
    · have := hshift i hi
      rw [hAv i hi]
      rw [tX_sh hi, h0, Int.mul_zero, Int.sub_zero, Int.emod_eq_of_lt this.1 this.2]
  · have hml : mf.length ≤ m := by
      by_cases hm1 : m = 1
      · rw [(F.m1 hm1).1]; simp
      · rw [F.m2 hm1, dgi_len]; omega
    have hcv := dv_cn (p := p) (by omega) v m
    have ht := hcx (m - 1) (by omega)
    refine ⟨fun l z => ∃ k : Nat, z = k ∧ k ≤ mf.length ∧ l.length = m ∧ ∀ i, i < m → vo l i = if i < k then tX m (dv p v) (dv p x) i % (p : Int) else vo A i, fun l z => (mf.length - z).toNat, ⟨0, rfl, Nat.zero_le _, hAl, fun i hi => by rw [if_neg (by omega)]⟩, ?_⟩
    rintro l _ ⟨k, rfl, hk, hl, hv⟩
    dsimp only
    rw [gi_nat, gi_nat, si_nat, F.vo]
    refine ⟨fun hlt => ?_, fun hge => ?_⟩
    · have c1 := hcv k (by omega)
      have c2 := hshift k (by omega)
      have c3 := bd_mul (a := (p : Int) - dv p v k) (b := dv p x (m - 1)) hp2 ⟨by omega, by omega⟩ ⟨ht.1, by omega⟩
      rw [hv k (by omega), if_neg (by omega), hAv k (by omega)]
      refine ⟨⟨by omega, by omega⟩, ⟨by omega, by omega⟩, small (by omega) (by omega), small (by omega) (by omega), small (by omega) (by omega), by omega, ⟨by omega, by omega⟩, small (by omega) (by omega), ⟨k + 1, by push_cast; rfl, by omega, by rw [List.length_set, hl], fun i hi => ?_⟩, by omega⟩
      rw [vo_set]
      by_cases hki : k = i
      · subst hki
        rw [if_pos ⟨rfl, by omega⟩, if_pos (by omega), red_eq (by omega) c2.1 (by omega) ht.1, tX_sh hi]
      · rw [if_neg (fun h => hki h.1), hv i hi]
        by_cases hik : i < k
        · rw [if_pos hik, if_pos (by omega)]
        · rw [if_neg hik, if_neg (by omega)]
    · rw [can_list (p := p) (u := tX m (dv p v) (dv p x)) (by omega) hl fun i hi => ?_]
      · exact h
      · rw [hv i hi]
        by_cases hik : i < k
        · rw [if_pos hik]
        · rw [if_neg hik]
          have hm1 : m = 1 := by
            by_cases hm1 : m = 1
            · exact hm1
            · rw [F.m2 hm1, dgi_len] at hge hk; omega
          have hi0 : i = 0 := by omega
          rw [hAv i hi, tX_sh hi, (F.m1 hm1).2, dv_z]
          subst hi0; simp [sh, vz]
theorem hz_z {m : Nat} {c b y : Vec} {n : Nat} : ∀ {k : Nat}, k ≤ n → (∀ i, n - k ≤ i → i < n → b i = 0) → hz m c b y n k = vz
  | 0, _, _ => rfl
  | k + 1, hk, h => by
    show vadd (tX m c (hz m c b y n k)) (vsm (b (n - 1 - k)) y) = vz
    rw [hz_z (k := k) (by omega) (fun i h1 h2 => h i (by omega) h2), h (n - 1 - k) (by omega) (by omega), tX_z]
    funext i; simp [vadd, vsm, vz]
theorem hz_sup {m : Nat} {c b y : Vec} {n : Nat} (hy : Sup m y) : ∀ k, Sup m (hz m c b y n k)
  | 0 => Sup.z
  | k + 1 => Sup.add Sup.tX hy.sm
theorem rep_z (p m : Nat) : List.replicate m (0 : Int) = dgi p m 0 := vo_ext (by simp [dgi_len]) fun i hi => by
  rw [vo_rep, dgi_at (by simpa using hi), dv_z]; rfl
theorem nm_z {p m : Nat} (hp : 0 < p) : nm p m vz = 0 := by rw [← dv_z p, nm_dv hp (Nat.pow_pos hp)]
theorem v_product {P M : Int} {mf : List Int} {p m v : Nat} (F : FV P M mf p m v) {o : List Int} {x y : Nat} {Q : List Int → Prop} (ho : o.length = m) (hx : x < p ^ m) (hy : y < p ^ m) (h : Q (dgi p m (fmul p m (dv p v) x y))) : V_product P M mf o (dgi p m x) (dgi p m y) Q := by
  have hp := F.p2
  have hp2 := F.p256
  have hm0 := F.m0
  have hm8 := F.m8
  obtain rfl := F.eP
  obtain rfl := F.eM
  have hlx := dgi_len p m x
  have hly := dgi_len p m y
  have hcx := dv_cn (p := p) (by omega) x m
  have hcy := dv_cn (p := p) (by omega) y m
  refine ⟨small (by omega) (by omega), fun z => ∃ k : Nat, z = k ∧ k < m ∧ ∀ i, k < i → i < m → dv p y i = 0, ⟨fun z => ∃ k : Nat, z = k ∧ k < m ∧ ∀ i, k < i → i < m → dv p y i = 0, fun z => z.toNat, ⟨m - 1, by omega, by omega, fun i h1 h2 => by omega⟩, ?_⟩, ?_⟩
  · rintro _ ⟨k, rfl, hk, hzz⟩
    dsimp only
    refine ⟨fun hlt => ⟨⟨by omega, by omega⟩, fun h0 => ⟨small (by omega) (by omega), ⟨k - 1, by omega, by omega, fun i h1 h2 => ?_⟩, by omega⟩, fun _ => ⟨k, rfl, hk, hzz⟩⟩, fun _ => ⟨k, rfl, hk, hzz⟩⟩
    rw [gi_nat, dgi_at hk] at h0
    by_cases hik : i = k
    · subst hik; exact h0
    · exact hzz i (by omega) h2
  · rintro _ ⟨k0, rfl, hk0, hzz⟩
    refine ⟨fun l z => ∃ k : Nat, z = (m : Int) - 1 - k ∧ k ≤ m ∧ l = dgi p m (nm p m (hz m (dv p v) (dv p y) (dv p x) m k)), fun l z => (z + 1).toNat, ⟨m - 1 - k0, by omega, by omega, ?_⟩, ?_⟩
    · rw [hz_z (by omega) (fun i h1 h2 => hzz i (by omega) h2), nm_z (by omega), ho, rep_z p m]
    · rintro _ _ ⟨k, rfl, hk, rfl⟩
      dsimp only
      refine ⟨fun hge => v_timesX F (nm_lt (by omega) _) ?_, fun hlt => ?_⟩
      · have hs := hz_sup (c := dv p v) (b := dv p y) (n := m) (dv_sup hx) k
        rw [nm_vcg (vcg.tX (vcg.refl _) (cg_nm (by omega) hs))]
        generalize hT : tX m (dv p v) (hz m (dv p v) (dv p y) (dv p x) m k) = T
        have hnT := nm_lt (p := p) (m := m) (by omega) T
        refine ⟨fun l z => ∃ t : Nat, z = t ∧ t ≤ m ∧ l.length = m ∧ ∀ i, i < m → vo l i = if i < t then (T i + dv p y (m - 1 - k) * dv p x i) % (p : Int) else T i % (p : Int), fun l z => (m - z).toNat, ⟨0, rfl, Nat.zero_le _, dgi_len _ _ _, fun i hi => by rw [if_neg (by omega), dgi_at hi, dv_nm (by omega) _ hi]⟩, ?_⟩
        rintro l _ ⟨t, rfl, ht, hl, hv⟩
        dsimp only
        rw [show (m : Int) - 1 - k = ((m - 1 - k : Nat) : Int) by omega, gi_nat, gi_nat, gi_nat, si_nat]
        rw [hlx]
        refine ⟨fun hlt => ?_, fun hge2 => ?_⟩
        · rw [hv t (by omega), if_neg (by omega), dgi_at (by omega), dgi_at (by omega)]
          have c1 := hcy (m - 1 - k) (by omega)
          have c2 := hcx t (by omega)
          have c3 := bd_mul (a := dv p y (m - 1 - k)) (b := dv p x t) hp2 ⟨c1.1, by omega⟩ ⟨c2.1, by omega⟩
          have c4 : 0 ≤ T t % (p : Int) ∧ T t % (p : Int) < p := ⟨Int.emod_nonneg _ (by omega), Int.emod_lt_of_pos _ (by omega)⟩
          refine ⟨⟨by omega, by omega⟩, ⟨by omega, by omega⟩, ⟨by omega, by omega⟩, small (by omega) (by omega), small (by omega) (by omega), by omega, ⟨by omega, by omega⟩, small (by omega) (by omega), ⟨t + 1, by push_cast; rfl, by omega, by rw [List.length_set, hl], fun i hi => ?_⟩, by omega⟩
          rw [vo_set]
          by_cases hti : t = i
          · subst hti
            rw [if_pos ⟨rfl, by omega⟩, if_pos (by omega), Int.tmod_eq_emod_of_nonneg (by omega)]
            exact add_cg (Int.emod_emod _ _) rfl
          · rw [if_neg (fun h => hti h.1), hv i hi]
            by_cases hit : i < t
            · rw [if_pos hit, if_pos (by omega)]
            · rw [if_neg hit, if_neg (by omega)]
        · refine ⟨small (by omega) (by omega), ⟨k + 1, by omega, by omega, ?_⟩, by omega⟩
          refine can_list (by omega) hl fun i hi => ?_
          rw [hv i hi, if_pos (by omega)]
          show _ = (vadd (tX m (dv p v) (hz m (dv p v) (dv p y) (dv p x) m k)) (vsm (dv p y (m - 1 - k)) (dv p x))) i % _
          rw [hT]; rfl
      · have hkm : k = m := by omega
        subst hkm
        rw [hz_all]
        exact h
/-- the first n powers -/
def pwl (M : Nat → Nat → Nat) (x n : Nat) : List Int := (List.range n).map fun k => ((pw M x k : Nat) : Int)
theorem pwl_len (M : Nat → Nat → Nat) (x n : Nat) : (pwl M x n).length = n := by simp [pwl]
theorem pwl_at {M : Nat → Nat → Nat} {x n i : Nat} (h : i < n) : vo (pwl M x n) i = ((pw M x i : Nat) : Int) := by
  unfold vo pwl
  rw [List.getD_eq_getElem?_getD, List.getElem?_map, List.getElem?_range h]; rfl
theorem pwl_succ (M : Nat → Nat → Nat) (x n : Nat) : pwl M x (n + 1) = pwl M x n ++ [((pw M x n : Nat) : Int)] := by simp [pwl, List.range_succ]
/-- n is the least positive exponent that gives 1 -/
structure Od (M : Nat → Nat → Nat) (x n : Nat) : Prop where
  pos : 0 < n
  one : pw M x n = 1
  least : ∀ k, 0 < k → k < n → pw M x k ≠ 1
theorem v_powers {P M : Int} {mf : List Int} {p m v : Nat} (F : FV P M mf p m v) {x : Nat} {Q : List Int → Prop} (h0 : 0 < x) (hx : x < p ^ m)
    (h : ∀ n, Od (fmul p m (dv p v)) x n → n ≤ p ^ m - 1 → Q (pwl (fmul p m (dv p v)) x n)) : V_powers P M mf x Q := by
  have hp := F.p2
  have hp2 := F.p256
  have hm0 := F.m0
  have hm8 := F.m8
  have hq := F.q
  have R := F.ring
  obtain ⟨g, G⟩ := F.gen
  have hone := G.xone R h0 hx
  have hq2 := R.q2
  obtain rfl := F.eP
  obtain rfl := F.eM
  refine v_order hp hp2 fun r hr _ => ?_
  rw [Int.toNat_natCast] at hr
  rw [hr hq]
  refine ⟨⟨by omega, by omega, by omega⟩, by omega, _, v_digits (by omega) (by omega) (by omega) rfl, _, v_digits (by omega) (by omega) (by omega) rfl, ⟨by omega, by omega, by omega⟩, ?_⟩
  refine ⟨fun l z a b => ∃ k : Nat, 0 < k ∧ k ≤ p ^ m - 1 ∧ l = pwl (fmul p m (dv p v)) x k ∧ z = ((pw (fmul p m (dv p v)) x k : Nat) : Int) ∧ a = dgi p m (pw (fmul p m (dv p v)) x k) ∧ b.length = m ∧ ∀ j, 0 < j → j < k → pw (fmul p m (dv p v)) x j ≠ 1, fun l z a b => 300 - l.length, ⟨1, by omega, by omega, rfl, by rw [R.pw_one hx], by rw [R.pw_one hx], by simp, fun j h1 h2 => by omega⟩, ?_⟩
  rintro _ _ _ b ⟨k, hk0, hk, rfl, rfl, rfl, hb, hno⟩
  dsimp only
  refine ⟨fun hne => ?_, fun heq => ?_⟩
  · have hkq : k < p ^ m - 1 := by
      rcases Nat.lt_or_ge k (p ^ m - 1) with hc | hc
      · exact hc
      · have : k = p ^ m - 1 := by omega
        rw [this, hone] at hne; exact absurd rfl hne
    rw [pwl_len]
    refine ⟨by omega, ?_⟩
    refine v_product F hb (R.pw_lt x k) hx ?_
    have hlt := R.pw_lt x (k + 1)
    refine v_fromDigits hp hp2 (by rw [dgi_len]; exact dgi_cn (by omega) hlt _) (by rw [dgi_len]; exact hq) ?_
    have hvd := vl_dgi (p := p) (m := m) (by omega) hlt
    refine ⟨⟨k + 1, by omega, by omega, (pwl_succ _ _ _).symm, hvd, rfl, dgi_len _ _ _, fun j h1 h2 => ?_⟩, ?_⟩
    · by_cases hjk : j = k
      · subst hjk; intro e; rw [e] at hne; exact hne rfl
      · exact hno j h1 (by omega)
    · rw [List.length_append, pwl_len]; simp; omega
  · refine h k ⟨hk0, ?_, hno⟩ hk
    have : ((pw (fmul p m (dv p v)) x k : Nat) : Int) = 1 := by
      by_cases hc : ((pw (fmul p m (dv p v)) x k : Nat) : Int) = 1
      · exact hc
      · exact absurd hc heq
    omega
end Go.Proofs.Ythjpminlkcklgaa
set_option linter.unusedVariables false
set_option linter.unusedSimpArgs false
namespace Go.Proofs.Ythjpminlkcklgaa
/-! ### New -/
theorem gb_nat (l : List Bool) (i : Nat) : gb l (i : Int) = l.getD i false := rfl
theorem sb_nat (l : List Bool) (i : Nat) (x : Bool) : sb l (i : Int) x = l.set i x := rfl
theorem getD_setb (l : List Bool) (i j : Nat) (x : Bool) : (l.set i x).getD j false = if i = j ∧ i < l.length then x else l.getD j false := by
  rw [List.getD_eq_getElem?_getD, List.getD_eq_getElem?_getD, List.getElem?_set]
  by_cases h : i = j
  · subst h
    by_cases h2 : i < l.length
    · simp [h2]
    · simp [h2]
  · simp [h]
theorem v_units {P M : Int} {mf : List Int} {p m v : Nat} (F : FV P M mf p m v) {Q : List Int → Prop}
    (h : ∀ g, Gn (p ^ m) (fmul p m (dv p v)) g → Q (pwl (fmul p m (dv p v)) g (p ^ m - 1))) : V_units ⟨P, M, mf, ((p ^ m : Nat) : Int), [], [], []⟩ Q := by
  have hq := F.q
  have R := F.ring
  have hq2 := R.q2
  obtain ⟨g0, G0⟩ := F.gen
  generalize hqq : p ^ m = q at *
  generalize hMM : fmul p m (dv p v) = Mu at *
  refine ⟨⟨by show (0 : Int) ≤ q; omega, by show (q : Int) * 1 ≤ _; omega, by show (q : Int) ≤ _; omega⟩, ⟨by omega, by show (0 : Int) < ((((q : Nat) : Int).toNat : Nat) : Int); omega⟩, ?_⟩
  refine ⟨smallN (by omega), fun i x s => s.length = q ∧ s.getD 0 false = true ∧ (∀ j, j < i → ¬ Gn q Mu j) ∧ ∀ j, j < q → s.getD j false = true → ¬ Gn q Mu j, fun x s => ∃ g, Gn q Mu g ∧ x = pwl Mu g (q - 1), ?_, ?_, ?_, ?_⟩
  · have h0 : ¬ Gn q Mu 0 := fun G => by
      have := G.one
      rw [R.zero_pw (by omega)] at this; omega
    dsimp only
    rw [show (0 : Int) = ((0 : Nat) : Int) from rfl, sb_nat]
    refine ⟨by rw [List.length_set, List.length_replicate]; exact Int.toNat_natCast q, ?_, fun j hj => by omega, fun j hj hs => ?_⟩
    · rw [getD_setb, if_pos ⟨rfl, by rw [List.length_replicate, Int.toNat_natCast]; omega⟩]
    · rw [getD_setb] at hs
      by_cases hj0 : 0 = j
      · rw [← hj0]; exact h0
      · rw [if_neg (fun h => hj0 h.1), List.getD_eq_getElem?_getD, List.getElem?_replicate] at hs
        split at hs <;> exact absurd hs (by decide)
  · rintro i hi x s ⟨hs, hs0, hno, hsn⟩
    dsimp only at hi ⊢
    rw [Int.toNat_natCast] at hi
    rw [gb_nat]
    refine ⟨⟨by omega, by rw [Int.toNat_natCast]; omega⟩, fun hb => ⟨hs, hs0, fun j hj => ?_, hsn⟩, fun hb => ?_⟩
    · by_cases hji : j = i
      · subst hji; exact hsn j hi hb
      · exact hno j (by omega)
    · have hi0 : 0 < i := by
        rcases Nat.eq_zero_or_pos i with h0 | h0
        · subst h0; rw [hs0] at hb; exact absurd hb (by decide)
        · exact h0
      refine v_powers F hi0 (by rw [hqq]; exact hi) fun n O hn => ?_
      rw [hMM] at O ⊢
      rw [hqq] at hn
      rw [pwl_len]
      refine ⟨small (by omega) (by omega), fun he => ?_, fun hne => ?_⟩
      · have hnq : n = q - 1 := by omega
        subst hnq
        exact ⟨i, ⟨hi, O.one, O.least⟩, rfl⟩
      · have hnq : n < q - 1 := by omega
        have hnG : ∀ k, ¬ Gn q Mu (pw Mu i k) := fun k G => by
          have h1 : pw Mu (pw Mu i k) n = 1 := by rw [R.pw_pw hi, Nat.mul_comm, ← R.pw_pw hi, O.one, R.one_pw]
          exact G.no n O.pos hnq h1
        refine ⟨fun s' z => ∃ k : Nat, z = k ∧ k ≤ n ∧ s'.length = q ∧ s'.getD 0 false = true ∧ ∀ j, j < q → s'.getD j false = true → ¬ Gn q Mu j, fun s' z => (n - z).toNat, ⟨0, rfl, Nat.zero_le _, hs, hs0, hsn⟩, ?_⟩
        rintro s' _ ⟨k, rfl, hk, hs', hs0', hsn'⟩
        dsimp only
        rw [gi_nat]
        refine ⟨fun hlt => ?_, fun hge => ⟨hs', hs0', fun j hj => ?_, hsn'⟩⟩
        · rw [pwl_at (by omega), sb_nat]
          have hlt2 := R.pw_lt i k
          refine ⟨⟨by omega, by omega⟩, ⟨by omega, by rw [Int.toNat_natCast]; omega⟩, small (by omega) (by omega), ⟨k + 1, by push_cast; rfl, by omega, by rw [List.length_set, hs'], ?_, fun j hj hj2 => ?_⟩, by omega⟩
          · rw [getD_setb]; split
            · rfl
            · exact hs0'
          · rw [getD_setb] at hj2
            by_cases hjk : pw Mu i k = j
            · rw [← hjk]; exact hnG k
            · rw [if_neg (fun h => hjk h.1)] at hj2
              exact hsn' j hj hj2
        · by_cases hji : j = i
          · subst hji
            have := hnG 1
            rwa [R.pw_one hi] at this
          · exact hno j (by omega)
  · rintro x s ⟨hs, hs0, hno, hsn⟩
    have := G0.lt
    exact absurd G0 (hno g0 (by show g0 < ((q : Nat) : Int).toNat; rw [Int.toNat_natCast]; exact this))
  · rintro x s ⟨g, G, rfl⟩
    exact h g G
/-- the record that New makes -/
structure GFk (F : GFv) (p m v g : Nat) : Prop where
  fv : FV F.P F.M F.mod p m v
  q : F.q = ((p ^ m : Nat) : Int)
  G : Gn (p ^ m) (fmul p m (dv p v)) g
  el : F.exp.length = 2 * (p ^ m - 1)
  ev : ∀ k, k < 2 * (p ^ m - 1) → vo F.exp k = ((pw (fmul p m (dv p v)) g k : Nat) : Int)
  ll : F.log.length = p ^ m
  l0 : vo F.log 0 = -1
  lv : ∀ k, k < p ^ m - 1 → vo F.log (pw (fmul p m (dv p v)) g k) = (k : Int)
  al : F.above.length = p ^ m - 1
  av : ∀ k, k < p ^ m - 1 → vo F.above k = vo F.log (fadd p m (pw (fmul p m (dv p v)) g k) 1)
theorem succ_fadd {p m x : Nat} (hp : 2 ≤ p) (hm : 0 < m) (hx : x < p ^ m) : (if x % p = p - 1 then x - x % p else x + 1) = fadd p m x 1 := by
  have hmd := Nat.mod_add_div x p
  have hlt := Nat.mod_lt x (show 0 < p by omega)
  obtain ⟨n, rfl⟩ : ∃ n, m = n + 1 := ⟨m - 1, by omega⟩
  have hxd : x / p < p ^ n := by rw [Nat.div_lt_iff_lt_mul (by omega), ← Nat.pow_succ]; exact hx
  generalize hA : x / p = a at *
  generalize hR : x % p = r at *
  have key : ∀ y s, y = s + p * a → s < p → s = (r + 1) % p → y = fadd p (n + 1) x 1 := fun y s hy hs hsr => by
    have hyd : y / p = a := by rw [hy, Nat.add_mul_div_left _ _ (by omega), Nat.div_eq_of_lt hs, Nat.zero_add]
    have hym : y % p = s := by rw [hy, Nat.add_mul_mod_self_left, Nat.mod_eq_of_lt hs]
    have hyl : y < p ^ (n + 1) := by
      have h1 : p * (a + 1) ≤ p * p ^ n := Nat.mul_le_mul_left p hxd
      rw [Nat.pow_succ', hy]
      rw [Nat.mul_add, Nat.mul_one] at h1
      omega
    refine (nm_eq (by omega) hyl fun i hi => ?_).symm
    cases i with
    | zero =>
      simp only [vadd]
      rw [dv_zero, dv_zero, dv_zero, hym, hR, Nat.mod_eq_of_lt (show 1 < p by omega), hsr]
      push_cast; rfl
    | succ i =>
      simp only [vadd]
      rw [dv_succ, dv_succ, dv_succ, hyd, hA, Nat.div_eq_of_lt (show 1 < p by omega), dv_z]
      simp only [vz]
      rw [Int.add_zero, dv_mod]
  by_cases hc : r = p - 1
  · rw [if_pos hc]
    refine key (x - r) 0 (by omega) (by omega) ?_
    rw [hc, show p - 1 + 1 = p by omega, Nat.mod_self]
  · rw [if_neg hc]
    exact key (x + 1) (r + 1) (by omega) (by omega) (Nat.mod_eq_of_lt (by omega)).symm
theorem vo_app {a b : List Int} {i : Nat} : vo (a ++ b) i = if i < a.length then vo a i else vo b (i - a.length) := by
  unfold vo
  rw [List.getD_eq_getElem?_getD]
  split
  · rename_i h
    rw [List.getElem?_append_left h, List.getD_eq_getElem?_getD]
  · rename_i h
    rw [List.getElem?_append_right (by omega), List.getD_eq_getElem?_getD]
theorem v_New {P M : Int} {mf : List Int} {Q : Option GFv × Int → Prop} (hno : ¬ Valid P M mf → Q (none, 1)) (h : ∀ (F : GFv) (p m v g : Nat), GFk F p m v g → F.P = P → F.M = M → F.mod = mf → Q (some F, 0)) : V_New P M mf Q := by
  refine v_check ?_
  by_cases hV : Valid P M mf
  · rw [ck_ok hV]
    refine ⟨fun h1 => absurd rfl h1, fun _ => ?_⟩
    obtain ⟨p, m, v, F⟩ := hV
    obtain rfl := F.eP
    obtain rfl := F.eM
    have hp := F.p2
    have hp2 := F.p256
    have hm0 := F.m0
    have hm8 := F.m8
    have hq := F.q
    have R := F.ring
    have hq2 := R.q2
    have hml : mf.length ≤ 1000000 := by
      by_cases hm1 : m = 1
      · rw [(F.m1 hm1).1]; simp
      · rw [F.m2 hm1, dgi_len]; omega
    have hJ : V_cloneF p m mf (fun q => match q with | (r27, r28, x29) => V_order p m mf (fun r34 => r27 = p ∧ r28 = m ∧ x29 = mf ∧ r34 = ((p ^ m : Nat) : Int))) := v_clone hml (v_order hp hp2 fun r hr _ => by
      rw [Int.toNat_natCast] at hr
      exact ⟨rfl, rfl, rfl, hr hq⟩)
    refine ⟨fun a b c d => a = p ∧ b = m ∧ c = mf ∧ d = ((p ^ m : Nat) : Int), hJ, ?_⟩
    rintro _ _ _ _ ⟨rfl, rfl, rfl, rfl⟩
    refine v_units F fun g G => ?_
    have hg := G.lt
    generalize hqq : p ^ m = q at *
    generalize hMM : fmul p m (dv p v) = Mu at *
    rw [pwl_len]
    have hql : (List.replicate ((q : Nat) : Int).toNat (0 : Int)).length = q := by rw [List.length_replicate, Int.toNat_natCast]
    rw [Int.toNat_natCast, Int.toNat_natCast]
    rw [Int.toNat_natCast] at hql
    refine ⟨⟨by omega, by omega, by omega⟩, ⟨by omega, by omega, by omega⟩, ⟨by omega, by omega⟩, ?_⟩
    refine ⟨fun l z => ∃ k : Nat, z = k ∧ k ≤ q - 1 ∧ l.length = q ∧ vo l 0 = -1 ∧ ∀ t, t < k → vo l (pw Mu g t) = (t : Int), fun l z => (q - z).toNat, ⟨0, rfl, Nat.zero_le _, ?_, ?_, fun t ht => by omega⟩, ?_⟩
    · rw [show (0 : Int) = ((0 : Nat) : Int) from rfl, si_nat, List.length_set]; exact hql
    · rw [show si (List.replicate q (0 : Int)) 0 (-1) = (List.replicate q (0 : Int)).set 0 (-1) from rfl, vo_set, if_pos ⟨rfl, by rw [hql]; omega⟩]
    · rintro l _ ⟨k, rfl, hk, hl, hl0, hlv⟩
      dsimp only
      rw [gi_nat]
      refine ⟨fun hlt => ?_, fun hge => ?_⟩
      · rw [pwl_at (by omega), si_nat]
        have hlt2 := R.pw_lt g k
        refine ⟨⟨by omega, by omega⟩, ⟨by omega, by omega⟩, small (by omega) (by omega), ⟨k + 1, by push_cast; rfl, by omega, by rw [List.length_set, hl], ?_, fun t ht => ?_⟩, by omega⟩
        · rw [vo_set, if_neg (fun h => G.ne0 R k h.1)]; exact hl0
        · rw [vo_set]
          by_cases htk : t = k
          · subst htk; rw [if_pos ⟨rfl, by rw [hl]; exact hlt2⟩]
          · rw [if_neg (fun h => G.inj R (show t < k by omega) (by omega) h.1.symm)]
            exact hlv t (by omega)
      · have hkq : k = q - 1 := by omega
        subst hkq
        refine ⟨⟨by omega, by omega, by omega⟩, fun a z => ∃ k : Nat, z = k ∧ k ≤ q - 1 ∧ a.length = q - 1 ∧ ∀ t, t < k → vo a t = vo l (fadd p m (pw Mu g t) 1), fun a z => (q - z).toNat, ⟨0, rfl, Nat.zero_le _, by simp, fun t ht => by omega⟩, ?_⟩
        rintro a _ ⟨k, rfl, hk, hal, hav⟩
        dsimp only
        rw [gi_nat]
        refine ⟨fun hlt => ?_, fun hge => ?_⟩
        · rw [pwl_at (by omega)]
          have hlt2 := R.pw_lt g k
          have hsl := R.Al (pw Mu g k) 1
          have hsf := succ_fadd hp hm0 (x := pw Mu g k) (by rw [hqq]; exact hlt2)
          refine ⟨⟨by omega, by omega⟩, _, v_successor hp hp2 (by omega) rfl, ?_⟩
          rw [hsf, gi_nat, si_nat]
          refine ⟨⟨by omega, by omega⟩, ⟨by omega, by omega⟩, small (by omega) (by omega), ⟨k + 1, by push_cast; rfl, by omega, by rw [List.length_set, hal], fun t ht => ?_⟩, by omega⟩
          rw [vo_set]
          by_cases htk : k = t
          · subst htk; rw [if_pos ⟨rfl, by omega⟩]
          · rw [if_neg (fun h => htk h.1)]; exact hav t (by omega)
        · have hkq : k = q - 1 := by omega
          subst hkq
          subst hMM
          subst hqq
          refine h _ p m v g ⟨F, rfl, G, ?_, fun k hk2 => ?_, hl, hl0, hlv, hal, hav⟩ rfl rfl rfl
          · simp only [List.length_append, pwl_len]; omega
          · show vo (pwl _ g _ ++ pwl _ g _) k = _
            rw [vo_app, pwl_len]
            by_cases hkl : k < p ^ m - 1
            · rw [if_pos hkl, pwl_at hkl]
            · rw [if_neg hkl, pwl_at (by omega)]
              have := G.per R (k - (p ^ m - 1)) 1
              rw [Nat.mul_one, show k - (p ^ m - 1) + (p ^ m - 1) = k by omega] at this
              rw [this]
  · rw [ck_no hV]
    exact ⟨fun _ => hno hV, fun h1 => absurd (show (1 : Int) ≠ 0 by decide) h1⟩
end Go.Proofs.Ythjpminlkcklgaa
set_option linter.unusedVariables false
set_option linter.unusedSimpArgs false
namespace Go.Proofs.Ythjpminlkcklgaa
/-! ### the reference's arithmetic -/
/-- the element that x stands for -/
def inE (q : Nat) (x : Int) : Nat := if 0 ≤ x ∧ x < q then x.toNat else 0
theorem inE_lt {q : Nat} (hq : 0 < q) (x : Int) : inE q x < q := by unfold inE; split <;> omega
theorem inE_nat {q x : Nat} (h : x < q) : inE q (x : Int) = x := by unfold inE; rw [if_pos (by omega)]; rfl
section
variable {P M : Int} {mf : List Int} {p m v : Nat}
theorem FV.ord (F : FV P M mf p m v) : ordR P M = ((p ^ m : Nat) : Int) := by
  rw [F.eP, F.eM, ordR, if_pos]
  · simp
  · have := F.p2; have := F.m0; have := F.q
    exact ⟨by omega, by omega, by simpa using this⟩
theorem FV.i64 (F : FV P M mf p m v) : I64 P := by
  have := F.p256; rw [F.eP]; exact small (by omega) (by omega)
theorem v_rIs (F : FV P M mf p m v) {x : Int} {Q : Bool → Prop} (h : Q (decide (0 ≤ x ∧ x < ((p ^ m : Nat) : Int)))) : V_rIs P M mf x Q := by
  refine ⟨fun h0 => v_rOrder ?_, fun h0 => ?_⟩
  · rw [F.ord]; simpa [h0] using h
  · simpa [h0] using h
theorem v_rIn (F : FV P M mf p m v) {x : Int} {Q : Int → Prop} (h : Q ((inE (p ^ m) x : Nat) : Int)) : V_rIn P M mf x Q := by
  refine v_rIs F ⟨fun hb => ?_, fun hb => ?_⟩
  · have hb := of_decide_eq_true hb
    unfold inE at h
    rw [if_pos hb] at h
    rwa [Int.toNat_of_nonneg hb.1] at h
  · have hb := of_decide_eq_false hb
    unfold inE at h
    rw [if_neg hb] at h
    exact h
theorem v_rDigits (F : FV P M mf p m v) {x : Int} {Q : List Int → Prop} (h : Q (dgi p m (inE (p ^ m) x))) : V_rDigits P M mf x Q := by
  have hp := F.p2
  have hq := F.q
  have hm8 := F.m8
  have hlt := inE_lt F.ring.pos x
  refine ⟨_, v_rIn F rfl, _, ?_, h⟩
  rw [F.eP, F.eM]
  exact v_rdigits (by omega) (by omega) (by omega) rfl
theorem v_rVal (F : FV P M mf p m v) {l : List Int} {u : Vec} {Q : Int → Prop} (hl : l.length = m) (hv : ∀ i, i < m → vo l i = u i % (p : Int)) (h : Q ((nm p m u : Nat) : Int)) : V_rValue P M mf l Q := by
  have hp := F.p2
  rw [can_list (by omega) hl hv, F.eP]
  have hlt := nm_lt (p := p) (m := m) (by omega) u
  refine v_rValue hp F.p256 (by rw [dgi_len]; have := F.m8; omega) (by rw [dgi_len]; exact dgi_cn (by omega) hlt _) (by rw [dgi_len]; exact F.q) ?_
  rw [vl_dgi (by omega) hlt]; exact h
theorem v_rAdd (F : FV P M mf p m v) {x y : Int} {Q : Int → Prop} (h : Q ((fadd p m (inE (p ^ m) x) (inE (p ^ m) y) : Nat) : Int)) : V_rAdd P M mf x y Q := by
  have hp := F.p2
  have hp2 := F.p256
  have hm8 := F.m8
  have hx := inE_lt F.ring.pos x
  have hy := inE_lt F.ring.pos y
  refine v_rDigits F (v_rDigits F ?_)
  generalize inE (p ^ m) x = a at *
  generalize inE (p ^ m) y = b at *
  have hla := dgi_len p m a
  have hlb := dgi_len p m b
  rw [hla]
  refine ⟨fun l z => ∃ k : Nat, z = k ∧ k ≤ m ∧ l.length = m ∧ ∀ i, i < m → vo l i = if i < k then (vadd (dv p a) (dv p b)) i % (p : Int) else dv p a i, fun l z => (m - z).toNat, ⟨0, rfl, Nat.zero_le _, hla, fun i hi => by rw [if_neg (by omega), dgi_at hi]⟩, ?_⟩
  rintro l _ ⟨k, rfl, hk, hl, hv⟩
  dsimp only
  rw [gi_nat, gi_nat, si_nat]
  refine ⟨fun hlt => ?_, fun hge => v_rVal F hl (fun i hi => by rw [hv i hi, if_pos (by omega)]) h⟩
  rw [hv k (by omega), if_neg (by omega), dgi_at (by omega)]
  have c1 := dv_le (p := p) (by omega) a k
  have c2 := dv_le (p := p) (by omega) b k
  refine ⟨⟨by omega, by omega⟩, ⟨by omega, by omega⟩, small (by omega) (by omega), by rw [F.eP]; omega, ⟨by omega, by omega⟩, small (by omega) (by omega), ⟨k + 1, by push_cast; rfl, by omega, by rw [List.length_set, hl], fun i hi => ?_⟩, by omega⟩
  rw [vo_set]
  by_cases hki : k = i
  · subst hki
    rw [if_pos ⟨rfl, by omega⟩, if_pos (by omega), F.eP, Int.tmod_eq_emod_of_nonneg (by omega)]; rfl
  · rw [if_neg (fun h => hki h.1), hv i hi]
    by_cases hik : i < k
    · rw [if_pos hik, if_pos (by omega)]
    · rw [if_neg hik, if_neg (by omega)]
end
/-! the product by convolution -/
theorem opr_upd {p m : Nat} {c w w' u : Vec} {s : Int} {k : Nat} (hk : w' k % (p : Int) = (w k + s) % (p : Int)) (ho : ∀ i, i ≠ k → w' i = w i) : ∀ n, vcg p (opr m c w' n u) (vadd (opr m c w n u) (if k < n then vsm s (tXn m c k u) else vz))
  | 0 => fun i => by simp [opr, vadd, vz]
  | n + 1 => fun i => by
    have ih := opr_upd hk ho (m := m) (c := c) (u := u) n i
    show (opr m c w' n u i + w' n * tXn m c n u i) % (p : Int) = ((opr m c w n u i + w n * tXn m c n u i) + (if k < n + 1 then vsm s (tXn m c k u) else vz) i) % (p : Int)
    rcases Nat.lt_trichotomy k n with h | h | h
    · rw [if_pos (by omega)]
      rw [if_pos h] at ih
      rw [ho n (by omega)]
      have := add_cg ih (rfl : (w n * tXn m c n u i) % (p : Int) = _)
      rw [this]
      congr 1
      show opr m c w n u i + (vsm s (tXn m c k u)) i + _ = _
      omega
    · subst h
      rw [if_pos (by omega)]
      rw [if_neg (by omega)] at ih
      have := add_cg ih (mul_cg hk (rfl : (tXn m c k u i) % (p : Int) = _))
      rw [this]
      congr 1
      show opr m c w k u i + 0 + (w k + s) * tXn m c k u i = _ + s * tXn m c k u i
      rw [Int.add_mul]; omega
    · rw [if_neg (by omega)]
      rw [if_neg (by omega)] at ih
      rw [ho n (by omega)]
      have := add_cg ih (rfl : (w n * tXn m c n u i) % (p : Int) = _)
      rw [this]
      congr 1
      show opr m c w n u i + 0 + _ = _ + 0
      omega
theorem Xm {m : Nat} {c : Vec} (hm : 0 < m) : tXn m c m e0 = vsm (-1) (opr m c c m e0) := by
  obtain ⟨n, rfl⟩ : ∃ n, m = n + 1 := ⟨m - 1, by omega⟩
  show tX (n + 1) c (tXn (n + 1) c n e0) = _
  rw [tXn_e0 (by omega)]
  funext i
  simp only [vsm]
  rw [opr_e0 (Nat.le_refl _)]
  simp only [tX, vei]
  by_cases hi : i < n + 1
  · rw [if_pos hi, if_pos hi]
    have e1 : (if i = 0 then (0 : Int) else if i - 1 = n then 1 else 0) = 0 := by
      split
      · rfl
      · rw [if_neg (by omega)]
    rw [e1, show n + 1 - 1 = n by omega, if_pos rfl]; omega
  · rw [if_neg hi, if_neg hi]; rfl
section
variable {P M : Int} {mf : List Int} {p m v : Nat}
theorem v_rMul (F : FV P M mf p m v) {x y : Int} {Q : Int → Prop} (h : Q ((fmul p m (dv p v) (inE (p ^ m) x) (inE (p ^ m) y) : Nat) : Int)) : V_rMul P M mf x y Q := by
  have hp := F.p2
  have hp2 := F.p256
  have hm0 := F.m0
  have hm8 := F.m8
  have hx := inE_lt F.ring.pos x
  have hy := inE_lt F.ring.pos y
  refine v_rDigits F (v_rDigits F ?_)
  obtain rfl := F.eP
  obtain rfl := F.eM
  generalize inE (p ^ m) x = a at *
  generalize inE (p ^ m) y = b at *
  rw [fmul_comm hx hy] at h
  have hla := dgi_len p m a
  have hlb := dgi_len p m b
  have hva := dgi_vo hx
  have hvb := dgi_vo hy
  have hsa := dv_sup hx
  have hsb := dv_sup hy
  have hN : (2 * (m : Int) - 1).toNat = 2 * m - 1 := by omega
  have e2 : (2 * (m : Int) - 1) = ((2 * m - 1 : Nat) : Int) := by omega
  rw [e2]
  generalize hNN : 2 * m - 1 = N at *
  rw [Int.toNat_natCast]
  have hself := opr_self (c := dv p v) hsb
  refine ⟨small (by omega) (by omega), smallN (by omega), ⟨by omega, by omega, by omega⟩, ?_⟩
  refine ⟨fun l z => ∃ k : Nat, z = k ∧ k ≤ m ∧ l.length = N ∧ Cn p N (vo l) ∧ vcg p (opr m (dv p v) (vo l) N e0) (opr m (dv p v) (dv p a) k (dv p b)), fun l z => (m - z).toNat, ⟨0, rfl, Nat.zero_le _, by simp, fun i hi => by rw [vo_rep]; omega, ?_⟩, ?_⟩
  · have : vo (List.replicate N (0 : Int)) = vz := by funext i; rw [vo_rep]; rfl
    rw [this]
    have h0 : ∀ n, opr m (dv p v) vz n e0 = vz := fun n => by
      induction n with
      | zero => rfl
      | succ n ih => show vadd (opr m (dv p v) vz n e0) (vsm (vz n) _) = vz; rw [ih]; funext i; simp [vadd, vsm, vz]
    rw [h0]; exact vcg.refl _
  rintro l _ ⟨i, rfl, hi, hl, hcn, hE⟩
  dsimp only
  refine ⟨fun hlt => ?_, fun hge => ?_⟩
  · refine ⟨fun r z => ∃ j : Nat, z = j ∧ j ≤ m ∧ r.length = N ∧ Cn p N (vo r) ∧ vcg p (opr m (dv p v) (vo r) N e0) (vadd (opr m (dv p v) (dv p a) i (dv p b)) (vsm (dv p a i) (tXn m (dv p v) i (opr m (dv p v) (dv p b) j e0)))), fun r z => (m - z).toNat, ⟨0, rfl, Nat.zero_le _, hl, hcn, ?_⟩, ?_⟩
    · show vcg p _ (vadd _ (vsm _ (tXn m (dv p v) i vz)))
      rw [tXn_z, vsm_z, vadd_z]; exact hE
    rintro r _ ⟨j, rfl, hj, hr, hcr, hEr⟩
    dsimp only
    rw [show (i : Int) + (j : Int) = ((i + j : Nat) : Int) by push_cast; rfl, gi_nat, gi_nat, gi_nat, si_nat, hva, hvb]
    refine ⟨fun hltj => ?_, fun hgej => ?_⟩
    · have c1 := dv_le (p := p) (by omega) a i
      have c2 := dv_le (p := p) (by omega) b j
      have c3 := hcr (i + j) (by omega)
      have c4 := bd_mul (a := dv p a i) (b := dv p b j) hp2 ⟨c1.1, by omega⟩ ⟨c2.1, by omega⟩
      refine ⟨smallN (by omega), smallN (by omega), ⟨by omega, by omega⟩, ⟨by omega, by omega⟩, ⟨by omega, by omega⟩, small (by omega) (by omega), small (by omega) (by omega), by omega, ⟨by omega, by omega⟩, small (by omega) (by omega), ⟨j + 1, by push_cast; rfl, by omega, by rw [List.length_set, hr], fun t ht => ?_, ?_⟩, by omega⟩
      · rw [vo_set]; split
        · rw [Int.tmod_eq_emod_of_nonneg (by omega)]
          exact ⟨Int.emod_nonneg _ (by omega), Int.emod_lt_of_pos _ (by omega)⟩
        · exact hcr t ht
      · have hup := opr_upd (p := p) (m := m) (c := dv p v) (w := vo r) (w' := vo (r.set (i + j) ((vo r (i + j) + dv p a i * dv p b j).tmod p))) (u := e0) (s := dv p a i * dv p b j) (k := i + j) (by
          rw [vo_set, if_pos ⟨rfl, by omega⟩, Int.tmod_eq_emod_of_nonneg (by omega), Int.emod_emod]) (fun t ht => by rw [vo_set, if_neg (fun h => ht h.1.symm)]) N
        rw [if_pos (by omega)] at hup
        refine hup.trans ((hEr.add (vcg.refl _)).trans ?_)
        show vcg p _ (vadd _ (vsm _ (tXn m (dv p v) i (vadd (opr m (dv p v) (dv p b) j e0) (vsm (dv p b j) (tXn m (dv p v) j e0))))))
        rw [tXn_add, tXn_sm, tXn_tXn, vsm_add, vsm_sm, ← vadd_assoc]
        exact vcg.refl _
    · have hjm : j = m := by omega
      subst hjm
      rw [hself] at hEr
      exact ⟨small (by omega) (by omega), ⟨i + 1, by push_cast; rfl, by omega, hr, hcr, hEr⟩, by omega⟩
  · have him : i = m := by omega
    subst him
    have hE2 : vcg p (opr i (dv p v) (vo l) N e0) (vmul i (dv p v) (dv p b) (dv p a)) := hE
    refine ⟨small (by omega) (by omega), small (by omega) (by omega), ?_⟩
    refine ⟨fun r z => ∃ t : Nat, z = (t : Int) - 1 ∧ i ≤ t ∧ t ≤ N ∧ r.length = N ∧ Cn p N (vo r) ∧ vcg p (opr i (dv p v) (vo r) t e0) (vmul i (dv p v) (dv p b) (dv p a)), fun r z => (z + 1).toNat, ⟨N, by omega, by omega, by omega, hl, hcn, hE2⟩, ?_⟩
    rintro r _ ⟨t, rfl, hit, htN, hr, hcr, hEr⟩
    dsimp only
    refine ⟨fun hle => ?_, fun hgt => ?_⟩
    · obtain ⟨k, rfl⟩ : ∃ k, t = k + 1 := ⟨t - 1, by omega⟩
      have ek : ((k + 1 : Nat) : Int) - 1 = (k : Int) := by omega
      rw [ek] at hle ⊢
      have hm1 : i ≠ 1 := by omega
      have hmf : vo mf = dv p v := F.vo
      have hml : mf.length = i := (F.cn hm1).1
      have hwk := hcr k (by omega)
      refine ⟨fun s z => ∃ j : Nat, z = j ∧ j ≤ i ∧ s.length = N ∧ Cn p N (vo s) ∧ vo s k = vo r k ∧ vcg p (opr i (dv p v) (vo s) k e0) (vadd (opr i (dv p v) (vo r) k e0) (vsm (-(vo r k)) (tXn i (dv p v) (k - i) (opr i (dv p v) (dv p v) j e0)))), fun s z => (i - z).toNat, ⟨0, rfl, Nat.zero_le _, hr, hcr, rfl, ?_⟩, ?_⟩
      · show vcg p _ (vadd _ (vsm _ (tXn i (dv p v) (k - i) vz)))
        rw [tXn_z, vsm_z, vadd_z]; exact vcg.refl _
      rintro s _ ⟨j, rfl, hj, hs, hcs, hsk, hEs⟩
      dsimp only
      rw [show (k : Int) - (i : Int) + (j : Int) = ((k - i + j : Nat) : Int) by omega, gi_nat, gi_nat, gi_nat, si_nat, hmf, hsk]
      refine ⟨fun hltj => ?_, fun hgej => ?_⟩
      · have c1 := dv_le (p := p) (by omega) v j
        have c3 := hcs (k - i + j) (by omega)
        have c4 := bd_mul (a := (p : Int) - vo r k) (b := dv p v j) hp2 ⟨by omega, by omega⟩ ⟨c1.1, by omega⟩
        refine ⟨small (by omega) (by omega), smallN (by omega), small (by omega) (by omega), smallN (by omega), ⟨by omega, by omega⟩, ⟨by omega, by omega⟩, small (by omega) (by omega), ⟨by omega, by omega⟩, small (by omega) (by omega), small (by omega) (by omega), by omega, ⟨by omega, by omega⟩, small (by omega) (by omega), ⟨j + 1, by push_cast; rfl, by omega, by rw [List.length_set, hs], fun u hu => ?_, ?_, ?_⟩, by omega⟩
        · rw [vo_set]; split
          · rw [Int.tmod_eq_emod_of_nonneg (by omega)]
            exact ⟨Int.emod_nonneg _ (by omega), Int.emod_lt_of_pos _ (by omega)⟩
          · exact hcs u hu
        · rw [vo_set, if_neg (by omega)]; exact hsk
        · have hup := opr_upd (p := p) (m := i) (c := dv p v) (w := vo s) (w' := vo (s.set (k - i + j) ((vo s (k - i + j) + ((p : Int) - vo r k) * dv p v j).tmod p))) (u := e0) (s := -(vo r k) * dv p v j) (k := k - i + j) (by
            rw [vo_set, if_pos ⟨rfl, by omega⟩, red_eq (by omega) c3.1 (by omega) c1.1, Int.emod_emod, Int.neg_mul]; rfl) (fun t ht => by rw [vo_set, if_neg (fun h => ht h.1.symm)]) k
          rw [if_pos (by omega)] at hup
          refine hup.trans ((hEs.add (vcg.refl _)).trans ?_)
          show vcg p _ (vadd _ (vsm _ (tXn i (dv p v) (k - i) (vadd (opr i (dv p v) (dv p v) j e0) (vsm (dv p v j) (tXn i (dv p v) j e0))))))
          rw [tXn_add, tXn_sm, tXn_tXn, vsm_add, vsm_sm, ← vadd_assoc]
          exact vcg.refl _
      · have hji : j = i := by omega
        subst hji
        refine ⟨small (by omega) (by omega), ⟨k, by omega, by omega, by omega, hs, hcs, ?_⟩, by omega⟩
        refine hEs.trans (vcg.trans ?_ hEr)
        show vcg p _ (vadd (opr j (dv p v) (vo r) k e0) (vsm (vo r k) (tXn j (dv p v) k e0)))
        have e1 : tXn j (dv p v) k e0 = tXn j (dv p v) (k - j) (tXn j (dv p v) j e0) := by rw [tXn_tXn, show k - j + j = k by omega]
        rw [e1, Xm hm0, tXn_sm, vsm_sm, show vo r k * -1 = -(vo r k) by omega]
        exact vcg.refl _
    · have hti : t = i := by omega
      subst hti
      refine ⟨⟨by omega, by omega⟩, _, v_rVal F (u := opr t (dv p v) (vo r) t e0) ?_ (fun j hj => ?_) rfl, ?_⟩
      · rw [List.length_take, Int.toNat_natCast, hr]; omega
      · rw [Int.toNat_natCast, take_vo hj, opr_e0 (Nat.le_refl _), if_pos hj]
        have := hcr j (by omega)
        exact (Int.emod_eq_of_lt this.1 this.2).symm
      · rw [nm_vcg hEr]
        exact h
theorem modk {n k : Int} (hk : 0 < k) : (n.tmod k + k).tmod k = n % k := by
  have h1 := Int.tmod_lt_of_pos n hk
  have h2 : -k < n.tmod k := by
    have := Int.lt_tmod_of_pos n hk
    omega
  rw [Int.tmod_eq_emod_of_nonneg (by omega)]
  have h3 := Int.mul_tdiv_add_tmod n k
  have : n = n.tmod k + k * (n.tdiv k) := by omega
  rw [show n.tmod k + k = n.tmod k + k * 1 by omega, Int.add_mul_emod_self_left]
  conv => rhs; rw [this, Int.add_mul_emod_self_left]
end
end Go.Proofs.Ythjpminlkcklgaa
set_option linter.unusedVariables false
set_option linter.unusedSimpArgs false
namespace Go.Proofs.Ythjpminlkcklgaa
/-! ### the methods -/
section
variable {F : GFv} {p m v g : Nat}
theorem v_Is {x : Int} {Q : Bool → Prop} (K : GFk F p m v g) (h : Q (decide (0 ≤ x ∧ x < ((p ^ m : Nat) : Int)))) : V_Is F x Q := by
  refine ⟨fun h0 => ?_, fun h0 => ?_⟩
  · rw [K.q]; simpa [h0] using h
  · simpa [h0] using h
theorem v_isUnit {x : Int} {Q : Bool → Prop} (K : GFk F p m v g) (h : Q (decide (inE (p ^ m) x ≠ 0))) : V_isUnit F x Q := by
  unfold inE at h
  refine ⟨fun h0 => ?_, fun h0 => ?_⟩
  · rw [K.q]
    by_cases hx : x < ((p ^ m : Nat) : Int)
    · rw [if_pos ⟨by omega, hx⟩] at h
      rw [decide_eq_true hx]
      rw [decide_eq_true (by omega)] at h; exact h
    · rw [if_neg (by omega)] at h
      rw [decide_eq_false hx]; exact h
  · by_cases hx : 0 ≤ x ∧ x < ((p ^ m : Nat) : Int)
    · rw [if_pos hx] at h
      rw [decide_eq_false (by omega)] at h; exact h
    · rw [if_neg hx] at h; exact h
theorem v_element {x : Int} {Q : Int → Prop} (K : GFk F p m v g) (h : Q ((inE (p ^ m) x : Nat) : Int)) : V_element F x Q := by
  refine v_Is K ⟨fun hb => ?_, fun hb => ?_⟩
  · have hb := of_decide_eq_true hb
    unfold inE at h
    rw [if_pos hb, Int.toNat_of_nonneg hb.1] at h; exact h
  · have hb := of_decide_eq_false hb
    unfold inE at h
    rw [if_neg hb] at h; exact h
theorem inE_cast {q : Nat} {x : Int} (h : inE q x ≠ 0) : x = ((inE q x : Nat) : Int) := by
  unfold inE at h ⊢
  split
  · rename_i hc; exact (Int.toNat_of_nonneg hc.1).symm
  · rename_i hc; rw [if_neg hc] at h; exact absurd rfl h
/-- an element but 0 is a power, and its logarithm stands in the table -/
theorem GFk.lg (K : GFk F p m v g) {x : Int} (h : inE (p ^ m) x ≠ 0) : ∃ a : Nat, a < p ^ m - 1 ∧ inE (p ^ m) x = pw (fmul p m (dv p v)) g a ∧ gi F.log x = (a : Int) ∧ (0 ≤ x ∧ x < (F.log.length : Nat)) := by
  have R := K.fv.ring
  have hlt := inE_lt R.pos x
  obtain ⟨a, ha, he⟩ := K.G.surj R (Nat.pos_of_ne_zero h) hlt
  have hx := inE_cast h
  refine ⟨a, ha, he.symm, ?_, ?_⟩
  · rw [hx, ← he, gi_nat, K.lv a ha]
  · rw [K.ll]; omega
theorem v_Mul {x y : Int} {Q : Int → Prop} (K : GFk F p m v g) (h : Q ((fmul p m (dv p v) (inE (p ^ m) x) (inE (p ^ m) y) : Nat) : Int)) : V_Mul F x y Q := by
  have R := K.fv.ring
  have hq := K.fv.q
  have hx := inE_lt R.pos x
  have hy := inE_lt R.pos y
  refine v_isUnit K ⟨fun hb => ?_, fun hb => v_isUnit K ⟨fun hb2 => ?_, fun hb2 => ?_⟩⟩
  · have h0 : inE (p ^ m) x = 0 := by simpa using hb
    rw [h0, R.Z0 hy] at h; exact h
  · have h0 : inE (p ^ m) y = 0 := by simpa using hb2
    rw [h0, R.M0 hx] at h; exact h
  · obtain ⟨a, ha, ea, la, bx⟩ := K.lg (x := x) (by simpa using hb)
    obtain ⟨b, hb', eb, lb, by_⟩ := K.lg (x := y) (by simpa using hb2)
    rw [la, lb]
    have hel := K.el
    refine ⟨bx, by_, small (by omega) (by omega), ⟨by omega, by omega⟩, ?_⟩
    rw [show (a : Int) + (b : Int) = ((a + b : Nat) : Int) by push_cast; rfl, gi_nat, K.ev _ (by omega), R.pw_add K.G.lt, ← ea, ← eb]; exact h
theorem xor_fadd {m x y : Nat} (hx : x < 2 ^ m) (hy : y < 2 ^ m) : x ^^^ y = fadd 2 m x y := by
  refine (nm_eq (by decide) (Nat.xor_lt_two_pow hx hy) fun i hi => ?_).symm
  have h := Nat.testBit_xor x y i
  rw [Nat.testBit_eq_decide_div_mod_eq, Nat.testBit_eq_decide_div_mod_eq, Nat.testBit_eq_decide_div_mod_eq] at h
  simp only [dv, vadd]
  have h1 := Nat.mod_two_eq_zero_or_one (x / 2 ^ i)
  have h2 := Nat.mod_two_eq_zero_or_one (y / 2 ^ i)
  have h3 := Nat.mod_two_eq_zero_or_one ((x ^^^ y) / 2 ^ i)
  rcases h1 with h1 | h1 <;> rcases h2 with h2 | h2 <;> rcases h3 with h3 | h3 <;> rw [h1, h2, h3] at h <;> rw [h1, h2, h3] <;> first | rfl | exact absurd h (by decide)
theorem v_Add {x y : Int} {Q : Int → Prop} (K : GFk F p m v g) (h : Q ((fadd p m (inE (p ^ m) x) (inE (p ^ m) y) : Nat) : Int)) : V_Add F x y Q := by
  have R := K.fv.ring
  have hq := K.fv.q
  have hx := inE_lt R.pos x
  have hy := inE_lt R.pos y
  have hq2 := R.q2
  refine v_element K (v_element K ⟨fun h2 => ⟨⟨by omega, by omega, by omega, by omega⟩, ?_⟩, fun h2 => ⟨fun h0 => ?_, fun h0 => ⟨fun h1 => ?_, fun h1 => ?_⟩⟩⟩)
  · have hp2 : p = 2 := by have := K.fv.eP; omega
    subst hp2
    rw [← xor_fadd hx hy] at h
    exact h
  · rw [show inE (p ^ m) x = 0 by omega, R.zA hy] at h; exact h
  · rw [show inE (p ^ m) y = 0 by omega, R.Az hx] at h; exact h
  · have hi : ∀ z : Nat, z < p ^ m → inE (p ^ m) (z : Int) = z := fun z hz => inE_nat hz
    obtain ⟨a, ha, ea, la, bx⟩ := K.lg (x := ((inE (p ^ m) x : Nat) : Int)) (by rw [hi _ hx]; omega)
    obtain ⟨b, hb, eb, lb, by_⟩ := K.lg (x := ((inE (p ^ m) y : Nat) : Int)) (by rw [hi _ hy]; omega)
    rw [hi _ hx] at ea
    rw [hi _ hy] at eb
    rw [la, lb]
    have hal := K.al
    have hel := K.el
    refine ⟨by_, bx, small (by omega) (by omega), fun z => ∃ d : Nat, z = d ∧ d < p ^ m - 1 ∧ pw (fmul p m (dv p v)) g (a + d) = pw (fmul p m (dv p v)) g b, ⟨fun hn => ?_, fun hn => ?_⟩, ?_⟩
    · rw [K.q]
      refine ⟨small (by omega) (by omega), small (by omega) (by omega), b + (p ^ m - 1) - a, by omega, by omega, ?_⟩
      have := K.G.per R b 1
      rw [Nat.mul_one] at this
      rw [show a + (b + (p ^ m - 1) - a) = b + (p ^ m - 1) by omega]; exact this
    · exact ⟨b - a, by omega, by omega, by rw [show a + (b - a) = b by omega]⟩
    · rintro _ ⟨d, rfl, hd, hpd⟩
      rw [gi_nat, K.av d hd]
      have hgd := R.pw_lt g d
      have hga := R.pw_lt g a
      -- x + y = x (g^d + 1)
      have hsum : fadd p m (inE (p ^ m) x) (inE (p ^ m) y) = fmul p m (dv p v) (pw (fmul p m (dv p v)) g a) (fadd p m (pw (fmul p m (dv p v)) g d) 1) := by
        rw [R.Md hga hgd R.one_lt, R.M1 hga, ← R.pw_add K.G.lt, hpd, ← ea, ← eb, R.Ac]
      rw [hsum] at h
      have hsl := R.Al (pw (fmul p m (dv p v)) g d) 1
      refine ⟨⟨by omega, by omega⟩, fun hm1 => ?_, fun hm1 => ?_⟩
      · have hz : fadd p m (pw (fmul p m (dv p v)) g d) 1 = 0 := by
          rcases Nat.eq_zero_or_pos (fadd p m (pw (fmul p m (dv p v)) g d) 1) with h3 | h3
          · exact h3
          · obtain ⟨s, hs, hse⟩ := K.G.surj R h3 hsl
            rw [← hse, K.lv s hs] at hm1; omega
        rw [hz, R.M0 hga] at h; exact h
      · have hnz : 0 < fadd p m (pw (fmul p m (dv p v)) g d) 1 := by
          rcases Nat.eq_zero_or_pos (fadd p m (pw (fmul p m (dv p v)) g d) 1) with h3 | h3
          · rw [h3, K.l0] at hm1; exact absurd rfl hm1
          · exact h3
        obtain ⟨s, hs, hse⟩ := K.G.surj R hnz hsl
        rw [← hse] at h ⊢
        rw [K.lv s hs]
        refine ⟨bx, small (by omega) (by omega), ⟨by omega, by omega⟩, ?_⟩
        rw [show (a : Int) + (s : Int) = ((a + s : Nat) : Int) by push_cast; rfl, gi_nat, K.ev _ (by omega), R.pw_add K.G.lt]; exact h
theorem v_exponent {n : Int} {Q : Int → Prop} (K : GFk F p m v g) (hn : I64 n) (h : Q (n % (((p ^ m : Nat) : Int) - 1))) : V_exponent F n Q := by
  have hq := K.fv.q
  have hq2 := K.fv.ring.q2
  unfold V_exponent
  rw [K.q]
  have hk : (0 : Int) < ((p ^ m : Nat) : Int) - 1 := by omega
  have t1 := Int.tmod_lt_of_pos n hk
  have t2 := Int.lt_tmod_of_pos n hk
  have hm := modk (n := n) hk
  refine ⟨small (by omega) (by omega), by omega, fun z => z = n % (((p ^ m : Nat) : Int) - 1), ⟨fun hneg => ⟨small (by omega) (by omega), small (by omega) (by omega), ?_⟩, fun hpos => ?_⟩, fun z hz => by rw [hz]; exact h⟩
  · rw [← hm, Int.tmod_eq_emod_of_nonneg (by omega), Int.emod_eq_of_lt (by omega) (by omega)]
  · rw [← hm, Int.tmod_eq_emod_of_nonneg (by omega), show n.tmod (((p ^ m : Nat) : Int) - 1) + (((p ^ m : Nat) : Int) - 1) = n.tmod (((p ^ m : Nat) : Int) - 1) + (((p ^ m : Nat) : Int) - 1) * 1 by omega, Int.add_mul_emod_self_left, Int.emod_eq_of_lt (by omega) (by omega)]
theorem v_Pow {x n : Int} {Q : Int × Int → Prop} (K : GFk F p m v g) (hn : I64 n) (h0 : inE (p ^ m) x = 0 → Q (if n = 0 then (1, 0) else if n < 0 then (0, 7) else (0, 0)))
    (h1 : inE (p ^ m) x ≠ 0 → Q (((pw (fmul p m (dv p v)) (inE (p ^ m) x) (n % (((p ^ m : Nat) : Int) - 1)).toNat : Nat) : Int), 0)) : V_Pow F x n Q := by
  have R := K.fv.ring
  have hq := K.fv.q
  have hq2 := R.q2
  refine v_isUnit K ⟨fun hb => ?_, fun hb => ?_⟩
  · have hne : inE (p ^ m) x ≠ 0 := by simpa using hb
    obtain ⟨a, ha, ea, la, bx⟩ := K.lg hne
    have hel := K.el
    have hk : (0 : Int) < ((p ^ m : Nat) : Int) - 1 := by omega
    have e1 := Int.emod_nonneg n (show ((p ^ m : Nat) : Int) - 1 ≠ 0 by omega)
    have e2 := Int.emod_lt_of_pos n hk
    have h1 := h1 hne
    refine ⟨bx, _, v_exponent K hn rfl, ?_⟩
    rw [la]
    obtain ⟨e, he⟩ := Int.eq_ofNat_of_zero_le e1
    rw [he] at h1 ⊢
    rw [Int.toNat_natCast] at h1
    have hae : a * e ≤ 256 * 256 := Nat.mul_le_mul (by omega) (by omega)
    have hcast : (a : Int) * (e : Int) = ((a * e : Nat) : Int) := by push_cast; rfl
    have hmod : ((a * e : Nat) : Int) % (((p ^ m : Nat) : Int) - 1) = ((a * e % (p ^ m - 1) : Nat) : Int) := by
      rw [show ((p ^ m : Nat) : Int) - 1 = ((p ^ m - 1 : Nat) : Int) by omega]; rfl
    have hlt := Nat.mod_lt (a * e) (show 0 < p ^ m - 1 by omega)
    rw [hcast]
    refine ⟨smallN (by omega), _, v_exponent K (smallN (by omega)) rfl, ?_⟩
    rw [hmod]
    refine ⟨⟨by omega, by omega⟩, ?_⟩
    rw [gi_nat, K.ev _ (by omega), K.G.modp R, ← R.pw_pw K.G.lt, ← ea]
    exact h1
  · have hz : inE (p ^ m) x = 0 := by simpa using hb
    have h0 := h0 hz
    refine ⟨fun hneg => ?_, fun hpos => ⟨fun hz0 => ?_, fun hz0 => ?_⟩⟩
    · rwa [if_neg (by omega), if_pos hneg] at h0
    · rwa [if_pos hz0] at h0
    · rwa [if_neg hz0, if_neg hpos] at h0
theorem Od.uniq {M : Nat → Nat → Nat} {x n k : Nat} (h : Od M x n) (h' : Od M x k) : n = k := by
  rcases Nat.lt_trichotomy n k with h1 | h1 | h1
  · exact absurd h.one (h'.least n h.pos h1)
  · exact h1
  · exact absurd h'.one (h.least k h'.pos h1)
/-- sums -/
def fsum (p m : Nat) (l : List Int) : Nat → Nat
  | 0 => 0
  | k + 1 => fadd p m (fsum p m l k) (inE (p ^ m) (vo l k))
theorem fsum_lt {p m : Nat} {l : List Int} (hp : 0 < p) : ∀ k, fsum p m l k < p ^ m
  | 0 => Nat.pow_pos hp
  | k + 1 => fadd_lt hp _ _
theorem v_Sum {l : List Int} {Q : Int → Prop} (K : GFk F p m v g) (hl : l.length ≤ 1000) (h : Q ((fsum p m l l.length : Nat) : Int)) : V_Sum F l Q := by
  have hp := K.fv.p2
  refine ⟨fun z i => ∃ k : Nat, i = k ∧ k ≤ l.length ∧ z = ((fsum p m l k : Nat) : Int), fun z i => (l.length - i).toNat, ⟨0, rfl, Nat.zero_le _, rfl⟩, ?_⟩
  rintro _ _ ⟨k, rfl, hk, rfl⟩
  dsimp only
  rw [gi_nat]
  refine ⟨fun hlt => ⟨⟨by omega, by omega⟩, v_Add K ?_⟩, fun hge => by rw [show k = l.length by omega]; exact h⟩
  rw [inE_nat (fsum_lt (by omega) k)]
  exact ⟨small (by omega) (by omega), ⟨k + 1, by push_cast; rfl, by omega, rfl⟩, by omega⟩
end
end Go.Proofs.Ythjpminlkcklgaa
set_option linter.unusedVariables false
set_option linter.unusedSimpArgs false
namespace Go.Proofs.Ythjpminlkcklgaa
theorem FV.same {P M : Int} {mf : List Int} {p m v p' m' v' : Nat} (F : FV P M mf p m v) (F' : FV P M mf p' m' v') : p = p' ∧ m = m' ∧ v = v' := by
  have h1 := F.eP; have h2 := F'.eP; have h3 := F.eM; have h4 := F'.eM
  have e1 : p = p' := by omega
  have e2 : m = m' := by omega
  subst e1; subst e2
  refine ⟨rfl, rfl, ?_⟩
  have hp := F.p2
  rw [← nm_dv (p := p) (m := m) (by omega) F.vlt, ← nm_dv (p := p) (m := m) (by omega) F'.vlt, ← F.vo, ← F'.vo]
theorem v_field {F : GFv} {Q : Int × Int × List Int → Prop} (hl : F.mod.length ≤ 1000000) (h : Q (F.P, F.M, F.mod)) : V_field F Q := by
  unfold V_field V_cloneF
  exact v_clone hl h
theorem FV.len {P M : Int} {mf : List Int} {p m v : Nat} (F : FV P M mf p m v) : mf.length ≤ 1000000 := by
  have := F.m8
  by_cases hm1 : m = 1
  · rw [(F.m1 hm1).1]; simp
  · rw [F.m2 hm1, dgi_len]; omega
theorem Gn.xmod {q g : Nat} {A M : Nat → Nat → Nat} (G : Gn q M g) (R : CR q A M) {x : Nat} (h0 : 0 < x) (hx : x < q) (n : Nat) : pw M x (n % (q - 1)) = pw M x n := by
  have h1 := G.xone R h0 hx
  have h2 := Nat.mod_add_div n (q - 1)
  have h3 : pw M x (n % (q - 1) + (q - 1) * (n / (q - 1))) = pw M x (n % (q - 1)) := by rw [R.pw_add hx, ← R.pw_pw hx, h1, R.one_pw, R.M1 (R.pw_lt x _)]
  rw [h2] at h3; exact h3.symm
theorem v_PowN {F : GFv} {p m v g n : Nat} {x : Int} {Q : Int × Int → Prop} (K : GFk F p m v g) (hn0 : 0 < n) (hn : n ≤ 1000) (h : Q (((pw (fmul p m (dv p v)) (inE (p ^ m) x) n : Nat) : Int), 0)) : V_Pow F x n Q := by
  have R := K.fv.ring
  have hq2 := R.q2
  refine v_Pow K (smallN (by omega)) (fun h0 => ?_) (fun h1 => ?_)
  · rw [if_neg (by omega), if_neg (by omega)]
    rw [h0, R.zero_pw hn0] at h; exact h
  · have e : ((n : Int) % (((p ^ m : Nat) : Int) - 1)).toNat = n % (p ^ m - 1) := by
      rw [show ((p ^ m : Nat) : Int) - 1 = ((p ^ m - 1 : Nat) : Int) by omega]; rfl
    rw [e, K.G.xmod R (Nat.pos_of_ne_zero h1) (inE_lt R.pos x)]; exact h
end Go.Proofs.Ythjpminlkcklgaa
set_option linter.unusedVariables false
namespace Go.Proofs.Ythjpminlkcklgaa
/-! ### powers of the Frobenius map -/
namespace CR
variable {q g p m : Nat} {A M : Nat → Nat → Nat} (R : CR q A M)
include R
theorem fr_zero {x : Nat} (hx : x < q) : pw M x (p ^ 0) = x := by rw [Nat.pow_zero, R.pw_one hx]
theorem fr_comp {x : Nat} (hx : x < q) (i j : Nat) : pw M (pw M x (p ^ i)) (p ^ j) = pw M x (p ^ (i + j)) := by
  rw [R.pw_pw hx, ← Nat.pow_add]
theorem fr_succ {x : Nat} (hx : x < q) (j : Nat) : pw M (pw M x (p ^ j)) p = pw M x (p ^ (j + 1)) := by
  rw [R.pw_pw hx, ← Nat.pow_succ]
theorem fr_add (G : Gn q M g) (hp : IsLf p p) (hch : ∀ x, x < q → ns A x p = 0) {x y : Nat} (hx : x < q) (hy : y < q) : ∀ j, pw M (A x y) (p ^ j) = A (pw M x (p ^ j)) (pw M y (p ^ j))
  | 0 => by rw [Nat.pow_zero, R.pw_one hx, R.pw_one hy, R.pw_one (R.Al x y)]
  | j + 1 => by
    rw [← R.fr_succ (R.Al x y), fr_add G hp hch hx hy j, R.frob G hp hch (R.pw_lt x _) (R.pw_lt y _), R.fr_succ hx, R.fr_succ hy]
theorem fr_mul {x y : Nat} (hx : x < q) (hy : y < q) (j : Nat) : pw M (M x y) (p ^ j) = M (pw M x (p ^ j)) (pw M y (p ^ j)) := R.mul_pw hx hy _
theorem fr_m (G : Gn q M g) (hq : q = p ^ m) {x : Nat} (hx : x < q) : pw M x (p ^ m) = x := by rw [← hq]; exact G.xq R hx
theorem fr_per (G : Gn q M g) (hq : q = p ^ m) {x : Nat} (hx : x < q) (j : Nat) : ∀ t, pw M x (p ^ (j + m * t)) = pw M x (p ^ j)
  | 0 => rfl
  | t + 1 => by
    rw [Nat.mul_succ, ← Nat.add_assoc, ← R.fr_comp hx, fr_per G hq hx j t, R.fr_m G hq (R.pw_lt x _)]
theorem fr_mod (G : Gn q M g) (hq : q = p ^ m) {x : Nat} (hx : x < q) (j : Nat) : pw M x (p ^ (j % m)) = pw M x (p ^ j) := by
  have := R.fr_per G hq hx (j % m) (j / m)
  rw [Nat.mod_add_div] at this; exact this.symm
/-- One step more of a map that is a power. -/
theorem fr_iter {P : Nat} {x : Nat} (hx : x < q) {t : Nat} (h : pw M x (P ^ t) = x) : ∀ s, pw M x (P ^ (t * s)) = x
  | 0 => by rw [Nat.mul_zero, R.fr_zero hx]
  | s + 1 => by rw [Nat.mul_succ, ← R.fr_comp hx, fr_iter hx h s, h]
end CR
/-- t is the least number of steps after which x comes again. -/
structure Pe (M : Nat → Nat → Nat) (P x t : Nat) : Prop where
  pos : 0 < t
  back : pw M x (P ^ t) = x
  no : ∀ j, 0 < j → j < t → pw M x (P ^ j) ≠ x
theorem Pe.ex {M : Nat → Nat → Nat} {P x : Nat} : ∀ n, 0 < n → pw M x (P ^ n) = x → ∃ t, t ≤ n ∧ Pe M P x t := by
  intro n
  induction n using Nat.strongRecOn with
  | ind n ih =>
    intro h0 h
    by_cases hc : ∃ j, 0 < j ∧ j < n ∧ pw M x (P ^ j) = x
    · obtain ⟨j, h1, h2, h3⟩ := hc
      obtain ⟨t, h4, h5⟩ := ih j h2 h1 h3
      exact ⟨t, by omega, h5⟩
    · exact ⟨n, Nat.le_refl n, h0, h, fun j h1 h2 h3 => hc ⟨j, h1, h2, h3⟩⟩
theorem Pe.iff {q : Nat} {A M : Nat → Nat → Nat} (R : CR q A M) {P x t : Nat} (h : Pe M P x t) (hx : x < q) (j : Nat) : pw M x (P ^ j) = x ↔ j % t = 0 := by
  have e : pw M x (P ^ j) = pw M x (P ^ (j % t)) := by
    have h1 := R.fr_iter hx h.back (j / t)
    have h2 := R.fr_comp (p := P) hx (t * (j / t)) (j % t)
    rw [h1, Nat.div_add_mod] at h2
    exact h2.symm
  rw [e]
  refine ⟨fun h1 => ?_, fun h1 => by rw [h1, R.fr_zero hx]⟩
  rcases Nat.eq_zero_or_pos (j % t) with h2 | h2
  · exact h2
  · exact absurd h1 (h.no _ h2 (Nat.mod_lt _ h.pos))
theorem Pe.uniq {M : Nat → Nat → Nat} {P x t u : Nat} (h : Pe M P x t) (h' : Pe M P x u) : t = u := by
  rcases Nat.lt_trichotomy t u with h1 | h1 | h1
  · exact absurd h.back (h'.no t h.pos h1)
  · exact h1
  · exact absurd h'.back (h.no u h'.pos h1)
/-- The steps before the first return are different. -/
theorem Pe.inj {q : Nat} {A M : Nat → Nat → Nat} (R : CR q A M) {P x t : Nat} (h : Pe M P x t) (hx : x < q) {i j : Nat} (hij : i < j) (hj : j < t) : pw M x (P ^ i) ≠ pw M x (P ^ j) := fun e => by
  have h1 := R.fr_comp (p := P) hx i (t - i)
  have h2 := R.fr_comp (p := P) hx j (t - i)
  rw [e, h2, show i + (t - i) = t by omega, h.back] at h1
  have h3 := (h.iff R hx _).1 h1
  rw [show j + (t - i) = (j - i) + t by omega, Nat.add_mod_right, Nat.mod_eq_of_lt (by omega)] at h3
  omega
end Go.Proofs.Ythjpminlkcklgaa
set_option linter.unusedVariables false
namespace Go.Proofs.Ythjpminlkcklgaa
variable {q g p m : Nat} {A M : Nat → Nat → Nat}
end Go.Proofs.Ythjpminlkcklgaa
set_option linter.unusedVariables false
namespace Go.Proofs.Ythjpminlkcklgaa
/-! ### sums and products over orbits -/
structure Cm (q : Nat) (o : Nat → Nat → Nat) (e : Nat) : Prop where
  el : e < q
  ol : ∀ x y, o x y < q
  oc : ∀ {x y}, x < q → y < q → o x y = o y x
  oa : ∀ {x y z}, x < q → y < q → z < q → o (o x y) z = o x (o y z)
  oe : ∀ {x}, x < q → o x e = x
def sO (o : Nat → Nat → Nat) (e : Nat) (f : Nat → Nat) : Nat → Nat
  | 0 => e
  | n + 1 => o (sO o e f n) (f n)
theorem sO_congr {o : Nat → Nat → Nat} {e : Nat} {f h : Nat → Nat} : ∀ n, (∀ i, i < n → f i = h i) → sO o e f n = sO o e h n
  | 0, _ => rfl
  | n + 1, H => by unfold sO; rw [sO_congr n fun i hi => H i (by omega), H n (by omega)]
namespace Cm
variable {q e : Nat} {o : Nat → Nat → Nat} (C : Cm q o e)
include C
theorem lt (f : Nat → Nat) : ∀ n, sO o e f n < q
  | 0 => C.el
  | n + 1 => C.ol _ _
theorem swap4 {a b c d : Nat} (ha : a < q) (hb : b < q) (hc : c < q) (hd : d < q) : o (o a b) (o c d) = o (o a c) (o b d) := by
  rw [C.oa ha hb (C.ol c d), ← C.oa hb hc hd, C.oc hb hc, C.oa hc hb hd, ← C.oa ha hc (C.ol b d)]
theorem two {f h : Nat → Nat} (hf : ∀ i, f i < q) (hh : ∀ i, h i < q) : ∀ n, sO o e (fun i => o (f i) (h i)) n = o (sO o e f n) (sO o e h n)
  | 0 => (C.oe C.el).symm
  | n + 1 => by
    unfold sO; rw [two hf hh n, C.swap4 (C.lt f n) (C.lt h n) (hf n) (hh n)]
theorem hom {f : Nat → Nat} (hf : ∀ i, f i < q) {φ : Nat → Nat} (h0 : φ e = e) (h1 : ∀ {x y}, x < q → y < q → φ (o x y) = o (φ x) (φ y)) : ∀ n, φ (sO o e f n) = sO o e (fun i => φ (f i)) n
  | 0 => h0
  | n + 1 => by unfold sO; rw [h1 (C.lt f n) (hf n), hom hf h0 h1 n]
theorem head {f : Nat → Nat} (hf : ∀ i, f i < q) : ∀ n, sO o e f (n + 1) = o (f 0) (sO o e (fun i => f (i + 1)) n)
  | 0 => by show o e (f 0) = o (f 0) e; rw [C.oc C.el (hf 0)]
  | n + 1 => by
    have h := head hf n
    show o (sO o e f (n + 1)) (f (n + 1)) = o (f 0) (o (sO o e (fun i => f (i + 1)) n) (f (n + 1)))
    rw [h, C.oa (hf 0) (C.lt _ n) (hf _)]
theorem app {f : Nat → Nat} (hf : ∀ i, f i < q) (n : Nat) : ∀ k, sO o e f (n + k) = o (sO o e f n) (sO o e (fun i => f (n + i)) k)
  | 0 => (C.oe (C.lt f n)).symm
  | k + 1 => by
    show o (sO o e f (n + k)) (f (n + k)) = o (sO o e f n) (o (sO o e (fun i => f (n + i)) k) (f (n + k)))
    rw [app hf n k, C.oa (C.lt f n) (C.lt _ k) (hf _)]
theorem unit : ∀ n, sO o e (fun _ => e) n = e
  | 0 => rfl
  | n + 1 => by unfold sO; rw [unit n, C.oe C.el]
/-- The steps by classes: i = s * a + b. -/
theorem block {f : Nat → Nat} (hf : ∀ i, f i < q) (s : Nat) : ∀ t, sO o e f (s * t) = sO o e (fun b => sO o e (fun a => f (s * a + b)) t) s
  | 0 => by show sO o e f 0 = _; rw [show sO o e f 0 = e from rfl]; exact (C.unit s).symm
  | t + 1 => by
    rw [Nat.mul_succ, C.app hf, block hf s t, ← C.two (fun b => C.lt _ t) (fun b => hf _)]
    rfl
end Cm
theorem CR.add {q : Nat} {A M : Nat → Nat → Nat} (R : CR q A M) : Cm q A 0 := ⟨R.pos, R.Al, fun _ _ => R.Ac _ _, R.Aa, R.Az⟩
theorem CR.mul {q : Nat} {A M : Nat → Nat → Nat} (R : CR q A M) : Cm q M 1 := ⟨R.one_lt, R.Ml, R.Mc, R.Ma, R.M1⟩
section
variable {q g p m : Nat} {A M : Nat → Nat → Nat}
/-- The trace. -/
def trc (A M : Nat → Nat → Nat) (p d t x : Nat) : Nat := sO A 0 (fun i => pw M x (p ^ (d * i))) t
def nrm (M : Nat → Nat → Nat) (p d t x : Nat) : Nat := sO M 1 (fun i => pw M x (p ^ (d * i))) t
theorem trc_fr (R : CR q A M) (G : Gn q M g) (hp : IsLf p p) (hp0 : 0 < p) (hch : ∀ x, x < q → ns A x p = 0) {x : Nat} (hx : x < q) (d t j : Nat) : pw M (trc A M p d t x) (p ^ j) = trc A M p d t (pw M x (p ^ j)) := by
  unfold trc
  rw [R.add.hom (fun i => R.pw_lt x _) (φ := fun z => pw M z (p ^ j)) (R.zero_pw (Nat.pow_pos hp0)) (fun h1 h2 => R.fr_add G hp hch h1 h2 j)]
  exact sO_congr t fun i _ => by rw [R.fr_comp hx, R.fr_comp hx, Nat.add_comm]
theorem nrm_fr (R : CR q A M) {x : Nat} (hx : x < q) (d t j : Nat) : pw M (nrm M p d t x) (p ^ j) = nrm M p d t (pw M x (p ^ j)) := by
  unfold nrm
  rw [R.mul.hom (fun i => R.pw_lt x _) (φ := fun z => pw M z (p ^ j)) (R.one_pw _) (fun h1 h2 => R.fr_mul h1 h2 j)]
  exact sO_congr t fun i _ => by rw [R.fr_comp hx, R.fr_comp hx, Nat.add_comm]
end
end Go.Proofs.Ythjpminlkcklgaa
