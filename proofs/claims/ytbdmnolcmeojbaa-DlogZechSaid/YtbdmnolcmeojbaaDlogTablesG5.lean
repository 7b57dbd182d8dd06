/- Contracts of functions of the program, and what they lean on: Fk, Fc, V1, V2, V3, V4, V5, V6, V7, Q1, Z1, Z2, Z3. -/
import Derived.Test.YtbdmnolcmeojbaaDlogTablesG4
set_option linter.unusedVariables false
namespace Go.Proofs.Ytbdmnolcmeojbaa
def hz (m : Nat) (c b y : Vec) (n : Nat) : Nat -> Vec
  | 0 => vz
  | k + 1 => Jz (tX m c (hz m c b y n k)) (vsm (b (n - 1 - k)) y)
theorem Jj2 {m : Nat} {c b y : Vec} {n : Nat} : ∀ {k : Nat}, k <= n -> Jz (tXn m c (n - k) (hz m c b y n k)) (opr m c b (n - k) y) = opr m c b n y
 | 0, _ => by simp only [hz, Nat.sub_zero]; rw [Jdn, z_vadd]
 | k + 1, h => by
  have ih := Jj2 (m := m) (c := c) (b := b) (y := y) (n := n) (k := k) (by omega); obtain ⟨r, hr⟩ : ∃ r, n - k = r + 1 := ⟨n - k - 1, by omega⟩
  rw [show n - (k + 1) = r by omega]; rw [hr] at ih; rw [<- ih]; show Jz (tXn m c r (Jz (tX m c (hz m c b y n k)) (vsm (b (n - 1 - k)) y))) (opr m c b r y) = Jz (tX m c (tXn m c r (hz m c b y n k))) (Jz (opr m c b r y) (vsm (b r) (tXn m c r y))); rw [Y5, Zq, Ji9, show n - 1 - k = r by omega, QY, Jbo (vsm _ _)]
theorem hz_all (m : Nat) (c b y : Vec) (n : Nat) : hz m c b y n n = opr m c b n y := by
 have := Jj2 (m := m) (c := c) (b := b) (y := y) (n := n) (k := n) (Nat.le_refl n); rw [Nat.sub_self] at this; rw [<- this]; exact (YO _).symm
def dgl (p : Nat) : Nat -> Nat -> List Nat
  | 0, _ => []
  | n + 1, x => (x % p) :: dgl p n (x / p)
theorem J8 (p : Nat) : ∀ n x, (dgl p n x).length = n
 | 0, _ => rfl
 | n + 1, x => by simp [dgl, J8 p n]
theorem ZG (p : Nat) : ∀ n x i, i < n -> (((dgl p n x).getD i 0 : Nat) : Int) = dv p x i
 | 0, _, i, h => by omega
 | n + 1, x, 0, _ => by rw [Q6]; rfl
 | n + 1, x, i + 1, h => by
  show (((dgl p n (x / p)).getD i 0 : Nat) : Int) = _; rw [ZG p n (x / p) i (by omega), Yx]
@[reducible] noncomputable def hd0 (l : List Nat) : Nat := List.rec (motive := fun _ => Nat) 0 (fun x _ _ => x) l
@[reducible] noncomputable def tl0 (l : List Nat) : List Nat := List.rec (motive := fun _ => List Nat) [] (fun _ l _ => l) l
noncomputable def go (p a top : Nat) (cs : List Nat) : Nat -> List Nat -> List Nat -> List Nat :=
  List.rec (motive := fun _ => Nat -> List Nat -> List Nat -> List Nat) (fun _ _ _ => [])
    (fun c _ ih prev us ys => ((prev + (p - c) * top + a * hd0 ys) % p) :: ih (hd0 us) (tl0 us) (tl0 ys)) cs
noncomputable def tp (l : List Nat) : Nat -> Nat := List.rec (motive := fun _ => Nat -> Nat) (fun d => d) (fun x _ ih _ => ih x) l
noncomputable def Jfg (p : Nat) (cs ys gs : List Nat) : List Nat -> List Nat :=
  List.rec (motive := fun _ => List Nat -> List Nat) (fun acc => acc) (fun g _ ih acc => ih (go p g (tp acc 0) cs 0 acc ys)) gs
noncomputable def az (l : List Nat) : Bool := List.rec (motive := fun _ => Bool) true (fun x _ ih => bif Nat.beq x 0 then ih else false) l
noncomputable def is1 (l : List Nat) : Bool := List.rec (motive := fun _ => Bool) false (fun x t _ => bif Nat.beq x 1 then az t else false) l
noncomputable def run (p : Nat) (cs gs : List Nat) (n : Nat) : List Nat -> Bool :=
  Nat.rec (motive := fun _ => List Nat -> Bool) (fun y => is1 y) (fun _ ih y => bif is1 y then false else ih (Jfg p cs y gs y)) n
noncomputable def Jdq (p c : Nat) (al : List Nat) : List Nat -> List Nat :=
  List.rec (motive := fun _ => List Nat -> List Nat) (fun bs => bs) (fun a _ ih bs => ((hd0 bs + (p - a) * c) % p) :: ih (tl0 bs)) al
noncomputable def dvg (p : Nat) (low : List Nat) (k : Nat) : List Nat -> Bool :=
  Nat.rec (motive := fun _ => List Nat -> Bool) (fun r => az r) (fun _ ih r => ih (Jdq p (hd0 r) low (tl0 r))) k
noncomputable def nob (f : Nat -> Bool) (n : Nat) : Bool := Nat.rec (motive := fun _ => Bool) true (fun i ih => bif f i then false else ih) n
noncomputable def irrB (p m : Nat) (ml : List Nat) : Bool :=
  nob (fun d => !nob (fun w => dvg p (dgl p (d + 1) w).reverse (m - d) (1 :: ml.reverse)) (p ^ (d + 1))) (m / 2)
noncomputable def cand (p c : Nat) : List Nat := bif Nat.blt c p then [c] else bif Nat.blt c (p + p * p) then [(c - p) / p, (c - p) % p] else [(c - p - p * p) / (p * p), (c - p - p * p) / p % p, (c - p - p * p) % p]
noncomputable def gen1 (p m : Nat) (cs gs : List Nat) : Bool := run p cs gs (p ^ m - 2) (Jfg p cs (dgl p m 1) gs (dgl p m 1))
noncomputable def Jfm (p m : Nat) (cs : List Nat) : Bool := !nob (fun c => gen1 p m cs (cand p (p + p * p + p * p * p - 1 - c))) (p + p * p + p * p * p)
noncomputable def chk (p m lo n : Nat) : Bool := nob (fun v => bif irrB p m (dgl p m (lo + v)) then !Jfm p m (dgl p m (lo + v)) else false) n

theorem Jcy (l : List Nat) : hd0 l = l.getD 0 0 := by cases l <;> rfl
theorem Jah (l : List Nat) (i : Nat) : (tl0 l).getD i 0 = l.getD (i + 1) 0 := by cases l <;> rfl
theorem Jla (l : List Nat) : (tl0 l).length = l.length - 1 := by cases l <;> simp [tl0]
theorem Jcz (p a top c : Nat) (cs : List Nat) (prev : Nat) (us ys : List Nat) : go p a top (c :: cs) prev us ys = ((prev + (p - c) * top + a * hd0 ys) % p) :: go p a top cs (hd0 us) (tl0 us) (tl0 ys) := rfl
theorem Jj4 (p a top : Nat) : ∀ (cs : List Nat) (prev : Nat) (us ys : List Nat), (go p a top cs prev us ys).length = cs.length
 | [], _, _, _ => rfl
 | c :: cs, prev, us, ys => by rw [Jcz, List.length_cons, Jj4 p a top cs, List.length_cons]
theorem go_at (p a top : Nat) : ∀ (cs : List Nat) (prev : Nat) (us ys : List Nat) (i : Nat), i < cs.length -> (go p a top cs prev us ys).getD i 0 = ((if i = 0 then prev else us.getD (i - 1) 0) + (p - cs.getD i 0) * top + a * ys.getD i 0) % p
 | [], _, _, _, i, h => by simp at h
 | c :: cs, prev, us, ys, 0, _ => by rw [Jcz, Jcy]; rfl
 | c :: cs, prev, us, ys, i + 1, h => by
  rw [Jcz]; show (go p a top cs (hd0 us) (tl0 us) (tl0 ys)).getD i 0 = _; rw [go_at p a top cs _ _ _ i (by simpa using h)]; cases i with
  | zero => rw [if_pos rfl, if_neg (by omega), Jcy, Jah]; rfl
  | succ i => rw [if_neg (by omega), if_neg (by omega), Jah, Jah]; rfl
theorem tp_eq : ∀ (l : List Nat) (d : Nat), 0 < l.length -> tp l d = l.getD (l.length - 1) 0
 | [], _, h => by simp at h
 | [x], d, _ => rfl
 | x :: y :: l, d, _ => by
  show tp (y :: l) x = _; rw [tp_eq (y :: l) x (by simp)]; simp
def Rep (p m : Nat) (L : List Nat) (v : Vec) : Prop := L.length = m /\ ∀ i, i < m -> ((L.getD i 0 : Nat) : Int) = v i % (p : Int)
def hl (m : Nat) (c y : Vec) : List Nat -> Vec -> Vec
  | [], u => u
  | g :: gs, u => hl m c y gs (Jz (tX m c u) (vsm g y))
theorem Rep.step {p m : Nat} {cs us ys : List Nat} {c u y : Vec} (hp : 0 < p) (hm : 0 < m) (hc : Rep p m cs c) (hu : Rep p m us u) (hy : Rep p m ys y) (g : Nat) :
  Rep p m (go p g (tp us 0) cs 0 us ys) (Jz (tX m c u) (vsm g y)) := by
 refine ⟨by rw [Jj4, hc.1], fun i hi => ?_⟩; rw [go_at _ _ _ _ _ _ _ _ (by rw [hc.1]; exact hi), tp_eq _ _ (by rw [hu.1]; exact hm), hu.1]; have h1 := hu.2 (m - 1) (by omega); have h2 := hc.2 i hi; have h3 := hy.2 i hi; have hlt : cs.getD i 0 <= p := by
  have := Int.emod_lt_of_pos (c i) (show (0 : Int) < p by omega); omega
 have e : (((if i = 0 then 0 else us.getD (i - 1) 0) : Nat) : Int) % p = (if i = 0 then (0 : Int) else u (i - 1)) % p := by
  split
  .rfl
  .rw [hu.2 (i - 1) (by omega), Int.emod_emod]
 simp only [Jz, vsm, tX, if_pos hi]; generalize (if i = 0 then 0 else us.getD (i - 1) 0 : Nat) = A at *
 generalize (if i = 0 then (0 : Int) else u (i - 1)) = B at *
 generalize us.getD (m - 1) 0 = T at *
 generalize cs.getD i 0 = C at *
 generalize ys.getD i 0 = Y at *
 have hT : ((T : Nat) : Int) % p = u (m - 1) % p := by rw [h1, Int.emod_emod]
 have hC : ((C : Nat) : Int) % p = c i % p := by rw [h2, Int.emod_emod]
 have hY : ((Y : Nat) : Int) % p = y i % p := by rw [h3, Int.emod_emod]
 obtain ⟨D, hD⟩ : ∃ D, p = C + D := ⟨p - C, by omega⟩
 have hsub : p - C = D := by omega
 rw [hsub]; have hcast : ((A + D * T + g * Y : Nat) : Int) = ((A : Int) - C * T + g * Y) + p * T := by
  have : (p : Int) = C + D := by omega
  rw [this]; push_cast; rw [Int.add_mul]; omega
 rw [Int.natCast_emod, hcast, Int.add_mul_emod_self_left]; exact ZI (Je6 e (Zz hC hT)) (Zz rfl hY)
theorem Jhv (p : Nat) (cs ys : List Nat) (g : Nat) (gs acc : List Nat) : Jfg p cs ys (g :: gs) acc = Jfg p cs ys gs (go p g (tp acc 0) cs 0 acc ys) := rfl
theorem Rep.mul {p m : Nat} {cs ys : List Nat} {c y : Vec} (hp : 0 < p) (hm : 0 < m) (hc : Rep p m cs c) (hy : Rep p m ys y) : ∀ {gs us : List Nat} {u : Vec}, Rep p m us u -> Rep p m (Jfg p cs ys gs us) (hl m c y gs u)
 | [], _, _, h => h
 | g :: gs, us, u, h => by rw [Jhv]; exact Rep.mul hp hm hc hy (Rep.step hp hm hc h hy g)
theorem Jfj {m : Nat} {c y : Vec} (hy : Sup m y) : ∀ {gs : List Nat} {u : Vec}, Sup m u -> Sup m (hl m c y gs u)
 | [], _, h => h
 | g :: gs, u, h => Jfj (gs := gs) (u := Jz (tX m c u) (vsm g y)) hy (Sup.add Sup.tX hy.sm)
theorem Jj3 {m : Nat} {c y : Vec} (hy : Sup m y) : ∀ {gs : List Nat} {U : Vec}, hl m c y gs (opr m c y m U) = opr m c y m (hl m c e0 gs U)
  | [], _ => rfl
  | g :: gs, U => by
    show hl m c y gs (Jz (tX m c (opr m c y m U)) (vsm g y)) = opr m c y m (hl m c e0 gs (Jz (tX m c U) (vsm g e0)))
    rw [<- Jj3 hy, Jgs, Jjo, Yf hy]
    have := Jgr m c y m 1 U
    rw [show tXn m c 1 U = tX m c U from rfl, show tXn m c 1 (opr m c y m U) = tX m c (opr m c y m U) from rfl] at this
    rw [this]
theorem Jc1 {m : Nat} (hm : 0 < m) : Sup m e0 := fun i hi => by simp [e0, show i ≠ 0 by omega]
theorem hl_mul {m : Nat} {c y : Vec} (hm : 0 < m) (hy : Sup m y) (gs : List Nat) : hl m c y gs y = Qv m c y (hl m c e0 gs e0) := by
 rw [Yo hy (Jfj (Jc1 hm) (Jc1 hm))]; show _ = opr m c y m (hl m c e0 gs e0); rw [<- Jj3 hy, Yf hy]
theorem Jk3 {p m x : Nat} : Rep p m (dgl p m x) (dv p x) := ⟨J8 p m x, fun i hi => by rw [ZG p m x i hi, YS]⟩
theorem Rep.cg {p m : Nat} {L : List Nat} {u v : Vec} (h : Rep p m L u) (hv : ∀ i, i < m -> u i % (p : Int) = v i % (p : Int)) : Rep p m L v := ⟨h.1, fun i hi => by rw [h.2 i hi, hv i hi]⟩
theorem Jl3 (x : Nat) (l : List Nat) : az (x :: l) = bif Nat.beq x 0 then az l else false := rfl
theorem Jc8 : ∀ l : List Nat, az l = true ↔ ∀ i, i < l.length -> l.getD i 0 = 0
 | [] => ⟨fun _ i h => by simp at h, fun _ => rfl⟩
 | x :: l => by
  rw [Jl3]; cases hx : Nat.beq x 0 with
  | true =>
   have := Nat.eq_of_beq_eq_true hx; subst this; rw [show (bif true then az l else false) = az l from rfl, Jc8 l]; constructor
   .intro h i hi; cases i with
    | zero => rfl
    | succ i => exact h i (by simpa using hi)
   .intro h i hi; exact h (i + 1) (by simpa using hi)
  | false =>
   rw [show (bif false then az l else false) = false from rfl]; constructor
   .intro h; cases h
   .intro h; have := h 0 (by simp); simp only [List.getD_cons_zero] at this; subst this; cases hx
theorem Jg0 {p m x : Nat} {L : List Nat} (hp : 2 <= p) (hm : 0 < m) (hx : x < p ^ m) (h : Rep p m L (Go.Proofs.Ytbdmnolcmeojbaa.dv p x)) : is1 L = true ↔ x = 1 := by
 obtain ⟨a, l, rfl⟩ : ∃ a l, L = a :: l := by
  cases L with
  | nil => have := h.1; simp at this; omega
  | cons a l => exact ⟨a, l, rfl⟩
 have hlen : l.length + 1 = m := h.1; have h0 := h.2 0 hm; have e : is1 (a :: l) = bif Nat.beq a 1 then az l else false := rfl; rw [e]; constructor
 .intro hb; cases ha : Nat.beq a 1 with
  | false => rw [ha] at hb; cases hb
  | true =>
   rw [ha] at hb; have hz := (Jc8 l).1 hb; have ha1 := Nat.eq_of_beq_eq_true ha; subst ha1; rw [<- YN (p := p) (m := m) (by omega) hx, <- YN (p := p) (m := m) (x := 1) (by omega) (Nat.one_lt_pow (by omega) (by omega))]; refine Jjw fun i hi => ?_; rw [Jc2 hp, YS, <- YS, <- h.2 i hi]; cases i with
   | zero =>
    show (1 : Int) = e0 0 % p; simp only [e0, if_pos]; exact (Int.emod_eq_of_lt (by omega) (by omega)).symm
   | succ i =>
    show ((l.getD i 0 : Nat) : Int) = e0 (i + 1) % p; rw [hz i (by omega)]; simp [e0]
 .intro hx1; subst hx1; have ha : a = 1 := by
   have : ((a : Nat) : Int) = Go.Proofs.Ytbdmnolcmeojbaa.dv p 1 0 % p := h0; rw [YS, Jc2 hp] at this; simp [e0] at this; omega
  subst ha; show az l = true; refine (Jc8 l).2 fun i hi => ?_; have : ((l.getD i 0 : Nat) : Int) = Go.Proofs.Ytbdmnolcmeojbaa.dv p 1 (i + 1) % p := h.2 (i + 1) (by omega); rw [YS, Jc2 hp] at this; simp only [e0] at this; rw [if_neg (by omega)] at this; exact Int.ofNat_eq_zero.1 this
def gel (p m : Nat) (c : Vec) (gs : List Nat) : Nat := nm p m (hl m c e0 gs e0)
theorem Jey {p m x : Nat} {cs L gs : List Nat} {c : Vec} (hp : 2 <= p) (hm : 0 < m) (hx : x < p ^ m) (hc : Rep p m cs c) (h : Rep p m L (Go.Proofs.Ytbdmnolcmeojbaa.dv p x)) : Rep p m (Jfg p cs L gs L) (Go.Proofs.Ytbdmnolcmeojbaa.dv p (Jq p m c x (gel p m c gs))) := by
 have h1 := Rep.mul (gs := gs) (by omega) hm hc h h; rw [hl_mul hm (Qp hx)] at h1; refine h1.cg fun i hi => ?_; have hs := Jfj (c := c) (gs := gs) (Jc1 hm) (Jc1 hm); have e1 := Za (p := p) (m := m) (c := c) (by omega) hx (y := gel p m c gs); have e2 := vcg.mul (m := m) (vcg.refl (p := p) c) (vcg.refl (Go.Proofs.Ytbdmnolcmeojbaa.dv p x)) (Jeo (p := p) (m := m) (by omega) hs); exact ((e1.trans e2) i).symm
theorem Jjd (p : Nat) (cs gs : List Nat) (n : Nat) (y : List Nat) : run p cs gs (n + 1) y = bif is1 y then false else run p cs gs n (Jfg p cs y gs y) := rfl
theorem Jje {p m : Nat} {cs gs : List Nat} {c : Vec} (hp : 2 <= p) (hm : 0 < m) (hc : Rep p m cs c) : ∀ {n : Nat} {L : List Nat} {x : Nat}, x < p ^ m -> Rep p m L (Go.Proofs.Ytbdmnolcmeojbaa.dv p x) -> run p cs gs n L = true ->
  (∀ k, k < n -> Jq p m c x (pw (Jq p m c) (gel p m c gs) k) ≠ 1) /\ Jq p m c x (pw (Jq p m c) (gel p m c gs) n) = 1
 | 0, L, x, hx, h, hr => by
  refine ⟨fun k hk => by omega, ?_⟩; show Jq p m c x 1 = 1; rw [Ja0 hp hm hx]; exact (Jg0 hp hm hx h).1 hr
 | n + 1, L, x, hx, h, hr => by
  rw [Jjd] at hr; cases h1 : is1 L with
  | true => rw [h1] at hr; cases hr
  | false =>
   rw [h1] at hr; have R := Jgc (p := p) (m := m) c hp hm; have hg : gel p m c gs < p ^ m := YM (by omega) _; have ih := Jje hp hm hc (Jg3 (by omega) x _) (Jey (gs := gs) hp hm hx hc h) hr; have e : ∀ k, Jq p m c (Jq p m c x (gel p m c gs)) (pw (Jq p m c) (gel p m c gs) k) = Jq p m c x (pw (Jq p m c) (gel p m c gs) (k + 1)) := fun k => by
    rw [R.Ma hx hg (R.pw_lt _ k), R.Mc hg (R.pw_lt _ k)]; rfl
   refine ⟨fun k hk => ?_, by rw [<- e]; exact ih.2⟩; cases k with
   | zero =>
    show Jq p m c x 1 ≠ 1; rw [Ja0 hp hm hx]; intro hx1; rw [(Jg0 hp hm hx h).2 hx1] at h1; cases h1
   | succ k => rw [<- e]; exact ih.1 k (by omega)
theorem Jlw {p m : Nat} {cs gs : List Nat} {c : Vec} (hp : 2 <= p) (hm : 0 < m) (hc : Rep p m cs c) (h : gen1 p m cs gs = true) : Gn (p ^ m) (Jq p m c) (gel p m c gs) := by
 have R := Jgc (p := p) (m := m) c hp hm; have hg : gel p m c gs < p ^ m := YM (by omega) _; have h1 := Jey (gs := gs) hp hm R.one_lt hc Jk3; rw [R.I1 hg] at h1; obtain ⟨h2, h3⟩ := Jje hp hm hc hg h1 h; have hq := R.q2; have e : ∀ k, Jq p m c (gel p m c gs) (pw (Jq p m c) (gel p m c gs) k) = pw (Jq p m c) (gel p m c gs) (k + 1) := fun k => R.Mc hg (R.pw_lt _ k); refine ⟨hg, ?_, fun k h0 hk => ?_⟩
 .rw [show p ^ m - 1 = (p ^ m - 2) + 1 by omega, <- e]; exact h3
 .rw [show k = (k - 1) + 1 by omega, <- e]; exact h2 (k - 1) (by omega)
theorem Jjv (f : Nat -> Bool) (n : Nat) : nob f (n + 1) = bif f n then false else nob f n := rfl
theorem Yt (f : Nat -> Bool) : ∀ n, nob f n = true ↔ ∀ i, i < n -> f i = false
 | 0 => ⟨fun _ i h => by omega, fun _ => rfl⟩
 | n + 1 => by
  rw [Jjv]; cases h : f n with
  | true =>
   refine ⟨fun h' => ?_, fun h' => ?_⟩
   .cases h'
   .rw [h' n (by omega)] at h; cases h
  | false =>
   show nob f n = true ↔ _; rw [Yt f n]; refine ⟨fun h' i hi => ?_, fun h' i hi => h' i (by omega)⟩; rcases Nat.lt_or_ge i n with h1 | h1
   .exact h' i h1
   .rw [show i = n by omega]; exact h
theorem Jhu (f : Nat -> Bool) (n : Nat) (h : nob f n = false) : ∃ i, i < n /\ f i = true := by
 have hn : ¬ ∀ i, i < n -> f i = false := fun h' => by rw [(Yt f n).2 h'] at h; cases h
 have := Classical.not_forall.1 hn; obtain ⟨i, hi⟩ := this; have h2 := Classical.not_imp.1 hi; exact ⟨i, h2.1, by cases hf : f i with | true => rfl | false => exact absurd hf h2.2⟩
theorem Jg2 {p m : Nat} {cs : List Nat} {c : Vec} (hp : 2 <= p) (hm : 0 < m) (hc : Rep p m cs c) (h : Jfm p m cs = true) : ∃ g, Gn (p ^ m) (Jq p m c) g := by
 unfold Jfm at h; obtain ⟨i, _, hi⟩ := Jhu _ _ (by simpa using h); exact ⟨_, Jlw hp hm hc hi⟩
def rst (p d i : Nat) (l R : Vec) : Vec := fun j => if i <= j + d /\ j < i then (R j - l (j + d - i) * R i) % (p : Int) else R j
def rem (p d : Nat) (l R : Vec) (n : Nat) : Nat -> Vec
  | 0 => R
  | k + 1 => rst p d (n - 1 - k) l (rem p d l R n k)
def Dvd (p d : Nat) (l R : Vec) (n : Nat) : Prop := ∀ j, j < d -> rem p d l R n (n - d) j = 0
def Irr (p m : Nat) (c : Vec) : Prop := ∀ d, 0 < d -> 2 * d <= m -> ∀ w, w < p ^ d -> ¬ Dvd p d (dv p w) (fun i => if i = m then 1 else c i) (m + 1)
theorem Zr (p c a : Nat) (al bs : List Nat) : Jdq p c (a :: al) bs = ((hd0 bs + (p - a) * c) % p) :: Jdq p c al (tl0 bs) := rfl
theorem Jdp (p c : Nat) : ∀ al bs : List Nat, al.length <= bs.length -> (Jdq p c al bs).length = bs.length
 | [], _, _ => rfl
 | a :: al, [], h => by simp at h
 | a :: al, b :: bs, h => by
  rw [Zr, List.length_cons]; show (Jdq p c al bs).length + 1 = _; rw [Jdp p c al bs (by simpa using h)]; rfl
theorem Jgm (p c : Nat) : ∀ (al bs : List Nat) (t : Nat), (Jdq p c al bs).getD t 0 = if t < al.length then (bs.getD t 0 + (p - al.getD t 0) * c) % p else bs.getD t 0
 | [], bs, t => by simp; rfl
 | a :: al, bs, 0 => by rw [Zr, Jcy]; simp
 | a :: al, bs, t + 1 => by
  rw [Zr]; show (Jdq p c al (tl0 bs)).getD t 0 = _; rw [Jgm p c al (tl0 bs) t, Jah]; simp
theorem Jkb (p : Nat) (low : List Nat) (k : Nat) (r : List Nat) : dvg p low (k + 1) r = dvg p low k (Jdq p (hd0 r) low (tl0 r)) := rfl
theorem Jkc {p d n : Nat} {l R : Vec} {low : List Nat} (hp : 0 < p) (hl : low.length = d) (hlow : ∀ t, t < d -> ((low.getD t 0 : Nat) : Int) = l (d - 1 - t)) (hlp : ∀ t, t < d -> low.getD t 0 <= p) : ∀ (s k : Nat) (r : List Nat), s + k + d = n -> r.length = n - k ->
  (∀ t, t < n - k -> ((r.getD t 0 : Nat) : Int) = rem p d l R n k (n - 1 - k - t)) -> (dvg p low s r = true ↔ Dvd p d l R n)
 | 0, k, r, hs, hr, hv => by
  have : n - k = d := by omega
  rw [this] at hr hv; show az r = true ↔ _; rw [Jc8, hr]; have hk : n - d = k := by omega
  unfold Dvd; rw [hk]; constructor
  .intro h j hj; have := hv (d - 1 - j) (by omega); rw [h (d - 1 - j) (by omega), show n - 1 - k - (d - 1 - j) = j by omega] at this; exact this.symm
  .intro h t ht; have := hv t ht; rw [h (n - 1 - k - t) (by omega)] at this; exact Int.ofNat_eq_zero.1 this
 | s + 1, k, r, hs, hr, hv => by
  rw [Jkb]; have htl : (tl0 r).length = n - (k + 1) := by rw [Jla, hr]; omega
  refine Jkc hp hl hlow hlp s (k + 1) _ (by omega) (by rw [Jdp _ _ _ _ (by rw [htl, hl]; omega), htl]) fun t ht => ?_; rw [Jgm, hl, Jah, Jcy]; have h0 := hv 0 (by omega); rw [Nat.sub_zero] at h0; have h1 := hv (t + 1) (by omega); rw [show n - 1 - k - (t + 1) = n - 1 - (k + 1) - t by omega] at h1; show _ = rst p d (n - 1 - k) l (rem p d l R n k) (n - 1 - (k + 1) - t); unfold rst; by_cases htd : t < d
  .rw [if_pos htd, if_pos (by omega)]; have h2 := hlow t htd; have h3 := hlp t htd; rw [show n - 1 - (k + 1) - t + d - (n - 1 - k) = d - 1 - t by omega, <- h0, <- h1, <- h2]; generalize r.getD (t + 1) 0 = X at *
   generalize low.getD t 0 = Y at *
   generalize r.getD 0 0 = Z at *
   obtain ⟨D, hD⟩ : ∃ D, p = Y + D := ⟨p - Y, by omega⟩
   rw [show p - Y = D by omega, Int.natCast_emod]; have hcast : ((X + D * Z : Nat) : Int) = ((X : Int) - Y * Z) + p * Z := by
    have : (p : Int) = Y + D := by omega
    rw [this]; push_cast; rw [Int.add_mul]; omega
   rw [hcast, Int.add_mul_emod_self_left]
  .rw [if_neg htd, if_neg (by omega)]; exact h1
theorem Jaz (l : List Nat) (t : Nat) (h : t < l.length) : l.reverse.getD t 0 = l.getD (l.length - 1 - t) 0 := by
 rw [List.getD_eq_getElem?_getD, List.getD_eq_getElem?_getD, List.getElem?_reverse h]
theorem Jb2 {p : Nat} (hp : 0 < p) (x i : Nat) : 0 <= dv p x i /\ dv p x i < p := Jb3 hp x (i + 1) i (by omega)
theorem Jj0 {p m v : Nat} (hp : 0 < p) (hv : v < p ^ m) : irrB p m (dgl p m v) = true ↔ Irr p m (dv p v) := by
 have key : ∀ d w, 0 < d -> 2 * d <= m -> (dvg p (dgl p d w).reverse (m + 1 - d) (1 :: (dgl p m v).reverse) = true ↔ Dvd p d (dv p w) (fun i => if i = m then 1 else dv p v i) (m + 1)) := fun d w hd h2 => by
  refine Jkc hp (by rw [List.length_reverse, J8]) (fun t ht => ?_) (fun t ht => ?_) (m + 1 - d) 0 _ (by omega) (by simp [J8]) fun t ht => ?_
  .rw [Jaz _ _ (by rw [J8]; exact ht), J8, ZG _ _ _ _ (by omega)]
  .rw [Jaz _ _ (by rw [J8]; exact ht), J8]; have := ZG p d w (d - 1 - t) (by omega); have := Jb2 hp w (d - 1 - t); omega
  .show _ = if m + 1 - 1 - 0 - t = m then (1 : Int) else dv p v (m + 1 - 1 - 0 - t)
   cases t with
   | zero => rw [if_pos (by omega)]; rfl
   | succ t =>
    rw [if_neg (by omega)]; show (((dgl p m v).reverse.getD t 0 : Nat) : Int) = _; rw [Jaz _ _ (by rw [J8]; omega), J8, ZG _ _ _ _ (by omega), show m + 1 - 1 - 0 - (t + 1) = m - 1 - t by omega]
 unfold irrB; rw [Yt]; constructor
 .intro h d hd h2 w hw hD; have h3 := h (d - 1) (by omega); have h4 := (Yt _ _).1 (by simpa using h3) w (by rw [show d - 1 + 1 = d by omega]; exact hw); rw [show d - 1 + 1 = d by omega, show m - (d - 1) = m + 1 - d by omega, (key d w hd h2).2 hD] at h4; cases h4
 .intro h d hd; have : nob (fun w => dvg p (dgl p (d + 1) w).reverse (m - d) (1 :: (dgl p m v).reverse)) (p ^ (d + 1)) = true := (Yt _ _).2 fun w hw => by
   cases hb : dvg p (dgl p (d + 1) w).reverse (m - d) (1 :: (dgl p m v).reverse) with
   | false => rfl
   | true =>
    rw [show m - d = m + 1 - (d + 1) by omega] at hb; exact absurd ((key (d + 1) w (by omega) (by omega)).1 hb) (h (d + 1) (by omega) (by omega) w hw)
  rw [this]; rfl
theorem Jv {p m lo n v : Nat} (hp : 2 <= p) (hm : 0 < m) (h : chk p m lo n = true) (h1 : lo <= v) (h2 : v < lo + n) (hv : v < p ^ m) (hi : Irr p m (dv p v)) : ∃ g, Gn (p ^ m) (Jq p m (dv p v)) g := by
 have h3 := (Yt _ _).1 h (v - lo) (by omega); simp only [show lo + (v - lo) = v by omega, (Jj0 (by omega) hv).2 hi, cond_true] at h3; exact Jg2 hp hm Jk3 (by simpa using h3)
end Go.Proofs.Ytbdmnolcmeojbaa
namespace Go.Proofs.Ytbdmnolcmeojbaa
theorem Jih : chk 2 2 0 4 = true := by decide +kernel
theorem Jig : chk 2 3 0 8 = true := by decide +kernel
theorem Jif : chk 2 4 0 16 = true := by decide +kernel
theorem Jie : chk 2 5 0 32 = true := by decide +kernel
theorem Jid : chk 2 6 0 64 = true := by decide +kernel
theorem Jic : chk 2 7 0 64 = true := by decide +kernel
theorem Jf0 : chk 2 7 64 64 = true := by decide +kernel
theorem Jib : chk 2 8 0 24 = true := by decide +kernel
theorem Jfz : chk 2 8 24 24 = true := by decide +kernel
theorem Jfy : chk 2 8 48 24 = true := by decide +kernel
theorem Jfx : chk 2 8 72 24 = true := by decide +kernel
theorem Jfw : chk 2 8 96 24 = true := by decide +kernel
theorem Jel : chk 2 8 120 24 = true := by decide +kernel
theorem Jek : chk 2 8 144 24 = true := by decide +kernel
theorem Jej : chk 2 8 168 24 = true := by decide +kernel
theorem Jei : chk 2 8 192 24 = true := by decide +kernel
theorem Jeh : chk 2 8 216 24 = true := by decide +kernel
theorem Jeg : chk 2 8 240 16 = true := by decide +kernel
theorem Jia : chk 3 2 0 9 = true := by decide +kernel
theorem Jh9 : chk 3 3 0 27 = true := by decide +kernel
theorem Jh8 : chk 3 4 0 64 = true := by decide +kernel
theorem Jfv : chk 3 4 64 17 = true := by decide +kernel
theorem Jh7 : chk 3 5 0 24 = true := by decide +kernel
theorem Jfu : chk 3 5 24 24 = true := by decide +kernel
theorem Jft : chk 3 5 48 24 = true := by decide +kernel
theorem Jfs : chk 3 5 72 24 = true := by decide +kernel
theorem Jfr : chk 3 5 96 24 = true := by decide +kernel
theorem Jef : chk 3 5 120 24 = true := by decide +kernel
theorem Jee : chk 3 5 144 24 = true := by decide +kernel
theorem Jed : chk 3 5 168 24 = true := by decide +kernel
theorem Jec : chk 3 5 192 24 = true := by decide +kernel
theorem Jeb : chk 3 5 216 24 = true := by decide +kernel
theorem Jea : chk 3 5 240 3 = true := by decide +kernel
theorem Jh6 : chk 5 2 0 25 = true := by decide +kernel
theorem Jh5 : chk 5 3 0 64 = true := by decide +kernel
theorem Jfq : chk 5 3 64 61 = true := by decide +kernel
theorem Jh4 : chk 7 2 0 49 = true := by decide +kernel
theorem Jf2 : chk 11 2 0 64 = true := by decide +kernel
theorem Jen : chk 11 2 64 57 = true := by decide +kernel
theorem Jf1 : chk 13 2 0 64 = true := by decide +kernel
theorem Jem : chk 13 2 64 64 = true := by decide +kernel
theorem Jc6 : chk 13 2 128 41 = true := by decide +kernel
theorem chk1_0 : ([2, 3, 5, 7, 11, 13, 17, 19, 23, 29, 31, 37, 41, 43, 47, 53, 59, 61] : List Nat).all (fun p => Jfm p 1 [0]) = true := by decide +kernel
theorem chk1_1 : ([67, 71, 73, 79, 83, 89, 97, 101, 103, 107, 109, 113, 127, 131, 137, 139, 149, 151] : List Nat).all (fun p => Jfm p 1 [0]) = true := by decide +kernel
theorem chk1_2 : ([157, 163, 167, 173, 179, 181, 191, 193, 197, 199, 211, 223, 227, 229, 233, 239, 241, 251] : List Nat).all (fun p => Jfm p 1 [0]) = true := by decide +kernel
theorem gx_2_2 {v : Nat} (hv : v < 2 ^ 2) (hI : Irr 2 2 (dv 2 v)) : ∃ g, Gn (2 ^ 2) (Jq 2 2 (dv 2 v)) g := by
 have hv2 : v < 4 := hv; exact Jv (by decide) (by decide) Jih (by omega) (by omega) hv hI
theorem gx_2_3 {v : Nat} (hv : v < 2 ^ 3) (hI : Irr 2 3 (dv 2 v)) : ∃ g, Gn (2 ^ 3) (Jq 2 3 (dv 2 v)) g := by
 have hv2 : v < 8 := hv; exact Jv (by decide) (by decide) Jig (by omega) (by omega) hv hI
theorem gx_2_4 {v : Nat} (hv : v < 2 ^ 4) (hI : Irr 2 4 (dv 2 v)) : ∃ g, Gn (2 ^ 4) (Jq 2 4 (dv 2 v)) g := by
 have hv2 : v < 16 := hv; exact Jv (by decide) (by decide) Jif (by omega) (by omega) hv hI
theorem gx_2_5 {v : Nat} (hv : v < 2 ^ 5) (hI : Irr 2 5 (dv 2 v)) : ∃ g, Gn (2 ^ 5) (Jq 2 5 (dv 2 v)) g := by
 have hv2 : v < 32 := hv; exact Jv (by decide) (by decide) Jie (by omega) (by omega) hv hI
theorem gx_2_6 {v : Nat} (hv : v < 2 ^ 6) (hI : Irr 2 6 (dv 2 v)) : ∃ g, Gn (2 ^ 6) (Jq 2 6 (dv 2 v)) g := by
 have hv2 : v < 64 := hv; exact Jv (by decide) (by decide) Jid (by omega) (by omega) hv hI
theorem gx_2_7 {v : Nat} (hv : v < 2 ^ 7) (hI : Irr 2 7 (dv 2 v)) : ∃ g, Gn (2 ^ 7) (Jq 2 7 (dv 2 v)) g := by
 have hv2 : v < 128 := hv; rcases Nat.lt_or_ge v 64 with h | h
 .exact Jv (by decide) (by decide) Jic (by omega) (by omega) hv hI
 exact Jv (by decide) (by decide) Jf0 (by omega) (by omega) hv hI
theorem gx_2_8 {v : Nat} (hv : v < 2 ^ 8) (hI : Irr 2 8 (dv 2 v)) : ∃ g, Gn (2 ^ 8) (Jq 2 8 (dv 2 v)) g := by
 have hv2 : v < 256 := hv; rcases Nat.lt_or_ge v 24 with h | h
 .exact Jv (by decide) (by decide) Jib (by omega) (by omega) hv hI
 rcases Nat.lt_or_ge v 48 with h | h
 .exact Jv (by decide) (by decide) Jfz (by omega) (by omega) hv hI
 rcases Nat.lt_or_ge v 72 with h | h
 .exact Jv (by decide) (by decide) Jfy (by omega) (by omega) hv hI
 rcases Nat.lt_or_ge v 96 with h | h
 .exact Jv (by decide) (by decide) Jfx (by omega) (by omega) hv hI
 rcases Nat.lt_or_ge v 120 with h | h
 .exact Jv (by decide) (by decide) Jfw (by omega) (by omega) hv hI
 rcases Nat.lt_or_ge v 144 with h | h
 .exact Jv (by decide) (by decide) Jel (by omega) (by omega) hv hI
 rcases Nat.lt_or_ge v 168 with h | h
 .exact Jv (by decide) (by decide) Jek (by omega) (by omega) hv hI
 rcases Nat.lt_or_ge v 192 with h | h
 .exact Jv (by decide) (by decide) Jej (by omega) (by omega) hv hI
 rcases Nat.lt_or_ge v 216 with h | h
 .exact Jv (by decide) (by decide) Jei (by omega) (by omega) hv hI
 rcases Nat.lt_or_ge v 240 with h | h
 .exact Jv (by decide) (by decide) Jeh (by omega) (by omega) hv hI
 exact Jv (by decide) (by decide) Jeg (by omega) (by omega) hv hI
theorem gx_3_2 {v : Nat} (hv : v < 3 ^ 2) (hI : Irr 3 2 (dv 3 v)) : ∃ g, Gn (3 ^ 2) (Jq 3 2 (dv 3 v)) g := by
 have hv2 : v < 9 := hv; exact Jv (by decide) (by decide) Jia (by omega) (by omega) hv hI
theorem gx_3_3 {v : Nat} (hv : v < 3 ^ 3) (hI : Irr 3 3 (dv 3 v)) : ∃ g, Gn (3 ^ 3) (Jq 3 3 (dv 3 v)) g := by
 have hv2 : v < 27 := hv; exact Jv (by decide) (by decide) Jh9 (by omega) (by omega) hv hI
theorem gx_3_4 {v : Nat} (hv : v < 3 ^ 4) (hI : Irr 3 4 (dv 3 v)) : ∃ g, Gn (3 ^ 4) (Jq 3 4 (dv 3 v)) g := by
 have hv2 : v < 81 := hv; rcases Nat.lt_or_ge v 64 with h | h
 .exact Jv (by decide) (by decide) Jh8 (by omega) (by omega) hv hI
 exact Jv (by decide) (by decide) Jfv (by omega) (by omega) hv hI
theorem gx_3_5 {v : Nat} (hv : v < 3 ^ 5) (hI : Irr 3 5 (dv 3 v)) : ∃ g, Gn (3 ^ 5) (Jq 3 5 (dv 3 v)) g := by
 have hv2 : v < 243 := hv; rcases Nat.lt_or_ge v 24 with h | h
 .exact Jv (by decide) (by decide) Jh7 (by omega) (by omega) hv hI
 rcases Nat.lt_or_ge v 48 with h | h
 .exact Jv (by decide) (by decide) Jfu (by omega) (by omega) hv hI
 rcases Nat.lt_or_ge v 72 with h | h
 .exact Jv (by decide) (by decide) Jft (by omega) (by omega) hv hI
 rcases Nat.lt_or_ge v 96 with h | h
 .exact Jv (by decide) (by decide) Jfs (by omega) (by omega) hv hI
 rcases Nat.lt_or_ge v 120 with h | h
 .exact Jv (by decide) (by decide) Jfr (by omega) (by omega) hv hI
 rcases Nat.lt_or_ge v 144 with h | h
 .exact Jv (by decide) (by decide) Jef (by omega) (by omega) hv hI
 rcases Nat.lt_or_ge v 168 with h | h
 .exact Jv (by decide) (by decide) Jee (by omega) (by omega) hv hI
 rcases Nat.lt_or_ge v 192 with h | h
 .exact Jv (by decide) (by decide) Jed (by omega) (by omega) hv hI
 rcases Nat.lt_or_ge v 216 with h | h
 .exact Jv (by decide) (by decide) Jec (by omega) (by omega) hv hI
 rcases Nat.lt_or_ge v 240 with h | h
 .exact Jv (by decide) (by decide) Jeb (by omega) (by omega) hv hI
 exact Jv (by decide) (by decide) Jea (by omega) (by omega) hv hI
theorem gx_5_2 {v : Nat} (hv : v < 5 ^ 2) (hI : Irr 5 2 (dv 5 v)) : ∃ g, Gn (5 ^ 2) (Jq 5 2 (dv 5 v)) g := by
 have hv2 : v < 25 := hv; exact Jv (by decide) (by decide) Jh6 (by omega) (by omega) hv hI
theorem gx_5_3 {v : Nat} (hv : v < 5 ^ 3) (hI : Irr 5 3 (dv 5 v)) : ∃ g, Gn (5 ^ 3) (Jq 5 3 (dv 5 v)) g := by
 have hv2 : v < 125 := hv; rcases Nat.lt_or_ge v 64 with h | h
 .exact Jv (by decide) (by decide) Jh5 (by omega) (by omega) hv hI
 exact Jv (by decide) (by decide) Jfq (by omega) (by omega) hv hI
theorem gx_7_2 {v : Nat} (hv : v < 7 ^ 2) (hI : Irr 7 2 (dv 7 v)) : ∃ g, Gn (7 ^ 2) (Jq 7 2 (dv 7 v)) g := by
 have hv2 : v < 49 := hv; exact Jv (by decide) (by decide) Jh4 (by omega) (by omega) hv hI
theorem Jlv {v : Nat} (hv : v < 11 ^ 2) (hI : Irr 11 2 (dv 11 v)) : ∃ g, Gn (11 ^ 2) (Jq 11 2 (dv 11 v)) g := by
 have hv2 : v < 121 := hv; rcases Nat.lt_or_ge v 64 with h | h
 .exact Jv (by decide) (by decide) Jf2 (by omega) (by omega) hv hI
 exact Jv (by decide) (by decide) Jen (by omega) (by omega) hv hI
theorem Jlu {v : Nat} (hv : v < 13 ^ 2) (hI : Irr 13 2 (dv 13 v)) : ∃ g, Gn (13 ^ 2) (Jq 13 2 (dv 13 v)) g := by
 have hv2 : v < 169 := hv; rcases Nat.lt_or_ge v 64 with h | h
 .exact Jv (by decide) (by decide) Jf1 (by omega) (by omega) hv hI
 rcases Nat.lt_or_ge v 128 with h | h
 .exact Jv (by decide) (by decide) Jem (by omega) (by omega) hv hI
 exact Jv (by decide) (by decide) Jc6 (by omega) (by omega) hv hI
noncomputable def prL : List Nat := [2, 3, 5, 7, 11, 13, 17, 19, 23, 29, 31, 37, 41, 43, 47, 53, 59, 61, 67, 71, 73, 79, 83, 89, 97, 101, 103, 107, 109, 113, 127, 131, 137, 139, 149, 151, 157, 163, 167, 173, 179, 181, 191, 193, 197, 199, 211, 223, 227, 229, 233, 239, 241, 251]
theorem Jle : (List.range 257).all (fun p => prL.contains p || Nat.blt p 2 || (List.range p).any (fun e => Nat.ble 2 e && Nat.beq (p % e) 0)) = true := by decide +kernel
theorem Jld {p : Nat} (hp : IsLf p p) (h : p <= 256) : p ∈ prL := by
 have h1 := List.all_eq_true.1 Jle p (List.mem_range.2 (by omega)); simp only [Bool.or_eq_true, List.contains_iff_mem, List.any_eq_true, List.mem_range, Bool.and_eq_true] at h1; rcases h1 with (h1 | h1) | ⟨e, he, h2, h3⟩
 .exact h1
 .have := hp.two; have := Nat.le_of_ble_eq_true h1; omega
 .have := hp.min e (Nat.le_of_ble_eq_true h2) (Nat.eq_of_beq_eq_true h3); omega
theorem gx_1 {p : Nat} (hp : IsLf p p) (h : p <= 256) : ∃ g, Gn (p ^ 1) (Jq p 1 (dv p 0)) g := by
 have hm := Jld hp h; have hg : Jfm p 1 [0] = true := by
  unfold prL at hm; rw [show ([2, 3, 5, 7, 11, 13, 17, 19, 23, 29, 31, 37, 41, 43, 47, 53, 59, 61, 67, 71, 73, 79, 83, 89, 97, 101, 103, 107, 109, 113, 127, 131, 137, 139, 149, 151, 157, 163, 167, 173, 179, 181, 191, 193, 197, 199, 211, 223, 227, 229, 233, 239, 241, 251] : List Nat) = ([2, 3, 5, 7, 11, 13, 17, 19, 23, 29, 31, 37, 41, 43, 47, 53, 59, 61] : List Nat) ++ ([67, 71, 73, 79, 83, 89, 97, 101, 103, 107, 109, 113, 127, 131, 137, 139, 149, 151] : List Nat) ++ ([157, 163, 167, 173, 179, 181, 191, 193, 197, 199, 211, 223, 227, 229, 233, 239, 241, 251] : List Nat) from rfl] at hm; simp only [List.mem_append] at hm; rcases hm with (h | h) | h
  .exact List.all_eq_true.1 chk1_0 p h
  .exact List.all_eq_true.1 chk1_1 p h
  .exact List.all_eq_true.1 chk1_2 p h
 refine Jg2 hp.two (by decide) ⟨rfl, fun i hi => ?_⟩ hg; rw [show i = 0 by omega, Jbi]; simp [vz]
theorem Jjl {p m : Nat} (hp : IsLf p p) (hm : 2 <= m) (hq : p ^ m <= 256) : (p = 2 /\ m = 2) ∨ (p = 2 /\ m = 3) ∨ (p = 2 /\ m = 4) ∨ (p = 2 /\ m = 5) ∨ (p = 2 /\ m = 6) ∨ (p = 2 /\ m = 7) ∨ (p = 2 /\ m = 8) ∨ (p = 3 /\ m = 2) ∨ (p = 3 /\ m = 3) ∨ (p = 3 /\ m = 4) ∨ (p = 3 /\ m = 5) ∨ (p = 5 /\ m = 2) ∨ (p = 5 /\ m = 3) ∨ (p = 7 /\ m = 2) ∨ (p = 11 /\ m = 2) ∨ (p = 13 /\ m = 2) := by
  have h2 := hp.two
  have hpow : ∀ k, k <= m -> p ^ k <= 256 := fun k hk => Nat.le_trans (Nat.pow_le_pow_right (by omega) hk) hq
  have hp2 : p <= 16 := by
    rcases Nat.lt_or_ge 16 p with h | h
    . have h1 := hpow 2 hm
      have h3 : 17 ^ 2 <= p ^ 2 := Nat.pow_le_pow_left h 2
      omega
    . exact h
  have hnd : ∀ e, 2 <= e -> e < p -> p % e ≠ 0 := fun e he hlt h0 => by have := hp.min e he h0; omega
  have hc : p = 2 ∨ p = 3 ∨ p = 5 ∨ p = 7 ∨ p = 11 ∨ p = 13 := by
    have h3 := hnd 2 (by omega)
    have h4 := hnd 3 (by omega)
    omega
  rcases hc with rfl | rfl | rfl | rfl | rfl | rfl
  . have : m <= 8 := by
      rcases Nat.lt_or_ge 8 m with h | h
      . have := hpow 9 h; omega
      . exact h
    omega
  . have : m <= 5 := by
      rcases Nat.lt_or_ge 5 m with h | h
      . have := hpow 6 h; omega
      . exact h
    omega
  . have : m <= 3 := by
      rcases Nat.lt_or_ge 3 m with h | h
      . have := hpow 4 h; omega
      . exact h
    omega
  . have : m <= 2 := by
      rcases Nat.lt_or_ge 2 m with h | h
      . have := hpow 3 h; omega
      . exact h
    omega
  . have : m <= 2 := by
      rcases Nat.lt_or_ge 2 m with h | h
      . have := hpow 3 h; omega
      . exact h
    omega
  . have : m <= 2 := by
      rcases Nat.lt_or_ge 2 m with h | h
      . have := hpow 3 h; omega
      . exact h
    omega
theorem gen_ex {p m v : Nat} (hp : IsLf p p) (hm : 0 < m) (hq : p ^ m <= 256) (hv : v < p ^ m) (h1 : m = 1 -> v = 0) (hI : Irr p m (dv p v)) : ∃ g, Gn (p ^ m) (Jq p m (dv p v)) g := by
  rcases Nat.lt_or_ge m 2 with h | h
  . have : m = 1 := by omega
    subst this
    rw [h1 rfl]
    exact gx_1 hp (by simpa using hq)
  . rcases Jjl hp h hq with ⟨rfl, rfl⟩ | ⟨rfl, rfl⟩ | ⟨rfl, rfl⟩ | ⟨rfl, rfl⟩ | ⟨rfl, rfl⟩ | ⟨rfl, rfl⟩ | ⟨rfl, rfl⟩ | ⟨rfl, rfl⟩ | ⟨rfl, rfl⟩ | ⟨rfl, rfl⟩ | ⟨rfl, rfl⟩ | ⟨rfl, rfl⟩ | ⟨rfl, rfl⟩ | ⟨rfl, rfl⟩ | ⟨rfl, rfl⟩ | ⟨rfl, rfl⟩
    . exact gx_2_2 hv hI
    . exact gx_2_3 hv hI
    . exact gx_2_4 hv hI
    . exact gx_2_5 hv hI
    . exact gx_2_6 hv hI
    . exact gx_2_7 hv hI
    . exact gx_2_8 hv hI
    . exact gx_3_2 hv hI
    . exact gx_3_3 hv hI
    . exact gx_3_4 hv hI
    . exact gx_3_5 hv hI
    . exact gx_5_2 hv hI
    . exact gx_5_3 hv hI
    . exact gx_7_2 hv hI
    . exact Jlv hv hI
    . exact Jlu hv hI
end Go.Proofs.Ytbdmnolcmeojbaa
set_option linter.unusedSimpArgs false
namespace Go.Proofs.Ytbdmnolcmeojbaa
def vo (l : LI) : Vec := fun i => l.getD i 0
theorem JE (l : LI) (i : Nat) : gi l (i : Int) = vo l i := rfl
theorem Qo (l : LI) (i : Nat) (x : Int) : si l (i : Int) x = l.set i x := rfl
theorem YK (a b : Nat) : (a : Int).tmod (b : Int) = ((a % b : Nat) : Int) := rfl
theorem Jgk (a b : Nat) : (a : Int).tdiv (b : Int) = ((a / b : Nat) : Int) := rfl
theorem JW (l : LI) (i j : Nat) (x : Int) : vo (l.set i x) j = if i = j /\ i < l.length then x else vo l j := by
 unfold vo; rw [List.getD_eq_getElem?_getD, List.getD_eq_getElem?_getD, List.getElem?_set]; by_cases h : i = j
 .subst h; by_cases h2 : i < l.length
  .simp [h2]
  .simp [h2]
 .simp [h]
theorem Je0 (n : Nat) (i : Nat) : vo (List.replicate n (0 : Int)) i = 0 := by
 unfold vo; rw [List.getD_eq_getElem?_getD, List.getElem?_replicate]; split <;> rfl
theorem vo_hi {l : LI} {i : Nat} (h : l.length <= i) : vo l i = 0 := by
 unfold vo; rw [List.getD_eq_getElem?_getD, List.getElem?_eq_none h]; rfl
theorem Jab {l o : LI} (h : l.length = o.length) (hv : ∀ i, i < l.length -> vo l i = vo o i) : l = o := by
 refine List.ext_getElem h fun i h1 h2 => ?_; have := hv i h1; unfold vo at this; rw [List.getD_eq_getElem?_getD, List.getD_eq_getElem?_getD, List.getElem?_eq_getElem h1, List.getElem?_eq_getElem h2] at this; exact this
theorem Jo {x : Int} (h : -1000000000000 <= x) (h2 : x <= 1000000000000) : I64 x := ⟨by omega, by omega⟩
theorem Qn {n : Nat} (h : n <= 1000000000000) : I64 (n : Int) := Jo (by omega) (by omega)
def dgi (p n x : Nat) : LI := (dgl p n x).map fun (a : Nat) => (a : Int)
theorem JD (p n x : Nat) : (dgi p n x).length = n := by simp [dgi, J8]
theorem Qj {p n x i : Nat} (h : i < n) : vo (dgi p n x) i = dv p x i := by
 rw [<- ZG p n x i h]; unfold vo dgi; rw [List.getD_eq_getElem?_getD, List.getElem?_map, List.getD_eq_getElem?_getD]; rw [List.getElem?_eq_getElem (by rw [J8]; exact h)]; rfl
theorem Ji6 {b : Bool} {Q : Int -> Prop} (h : Q (if b = true then 0 else 1)) : Jbd b Q := by
 cases b
 .exact ⟨fun h' => absurd h' (by decide), fun _ => h⟩
 .exact ⟨fun _ => h, fun h' => absurd h' (by decide)⟩
theorem v_gcd {x y : Nat} {Q : Int -> Prop} (h : Q ((Nat.gcd x y : Nat) : Int)) : Jhe x y Q := by
 refine ⟨fun a b => ∃ c d : Nat, a = c /\ b = d /\ Nat.gcd c d = Nat.gcd x y, fun a b => b.toNat, ⟨x, y, rfl, rfl, rfl⟩, ?_⟩; rintro _ _ ⟨c, d, rfl, rfl, hg⟩; dsimp only; refine ⟨fun hd => ⟨hd, ?_, ?_⟩, fun hd => ?_⟩
 .rw [YK]; exact ⟨d, c % d, rfl, rfl, by rw [<- hg, Nat.gcd_comm c d, Nat.gcd_rec d c, Nat.gcd_comm]⟩
 .rw [YK]; have := Nat.mod_lt c (show 0 < d by omega); show (((c % d : Nat) : Int)).toNat < ((d : Nat) : Int).toNat; omega
 .have hd0 : d = 0 := by omega
  subst hd0; rw [Nat.gcd_zero_right] at hg; rw [hg]; exact h
theorem Jlq {n k : Nat} (hn : 2 <= n) (hk : n < k * k) (h : ∀ e, e < k -> 2 <= e -> n % e ≠ 0) : IsLf n n := by
 refine ⟨hn, Nat.mod_self n, fun e he hm => ?_⟩; rcases Nat.lt_or_ge e k with hc | hc
 .exact absurd hm (h e hc he)
 .obtain ⟨t, ht⟩ := Nat.dvd_of_mod_eq_zero hm; have hq1 : t < k := by
   rcases Nat.lt_or_ge t k with h1 | h1
   .exact h1
   .have := Nat.mul_le_mul hc h1; omega
  rcases Nat.lt_or_ge t 2 with h2 | h2
  .have : t = 0 ∨ t = 1 := by omega
   rcases this with rfl | rfl
   .omega
   .omega
  .exact absurd (Nat.mod_eq_zero_of_dvd ⟨e, by rw [ht, Nat.mul_comm]⟩) (h t hq1 h2)
theorem Jad {x : Nat} {Q : Int -> Prop} (h2 : 2 <= x) (hx : x <= 256) (h : ∀ d : Nat, IsLf x d -> Q d) : Qm x Q := by
 refine ⟨fun z => ∃ k : Nat, z = k /\ 2 <= k /\ k <= 17 /\ ∀ e, e < k -> 2 <= e -> x % e ≠ 0, fun z => (20 - z).toNat, ⟨2, rfl, by omega, by omega, fun e _ _ => by omega⟩, ?_⟩; rintro _ ⟨k, rfl, hk2, hk, hm⟩; dsimp only; have e1 : ((k : Nat) : Int) * (k : Int) = ((k * k : Nat) : Int) := by push_cast; rfl
 have hb : k * k <= 17 * 17 := Nat.mul_le_mul hk hk; rw [e1]; refine ⟨Jo (by omega) (by omega), fun hle => ⟨by omega, ?_, ?_⟩, fun hgt => ?_⟩
 .intro h0; rw [YK] at h0; refine h k ⟨hk2, by omega, fun e he h3 => ?_⟩; rcases Nat.lt_or_ge e k with hc | hc
  .exact absurd h3 (hm e hc he)
  .exact hc
 .intro h0; rw [YK] at h0; have hk16 : k <= 16 := by
   rcases Nat.lt_or_ge 16 k with hc | hc
   .have := Nat.mul_le_mul hc hc; omega
   .exact hc
  refine ⟨Jo (by omega) (by omega), ⟨k + 1, by push_cast; rfl, by omega, by omega, fun e he h3 => ?_⟩, by omega⟩; rcases Nat.lt_or_ge e k with hc | hc
  .exact hm e hc h3
  .rw [show e = k by omega]; omega
 .exact h x (Jlq h2 (by omega) hm)
theorem IsLf.uniq {n d e : Nat} (h : IsLf n d) (h' : IsLf n e) : d = e := Nat.le_antisymm (h.min e h'.two h'.dvd) (h'.min d h.two h.dvd)
theorem Jhm {x : Int} {Q : Bool -> Prop} (hx : x <= 256) (h : ∀ b : Bool, (b = true ↔ 2 <= x /\ IsLf x.toNat x.toNat) -> Q b) : YD x Q := by
 refine ⟨fun h2 => ?_, fun h2 => h false ⟨fun h' => by (cases h'), fun h' => absurd h'.1 h2⟩⟩; obtain ⟨n, rfl⟩ := Int.eq_ofNat_of_zero_le (show 0 <= x by omega); refine Jad (by omega) (by omega) fun d hd => h _ ?_; rw [decide_eq_true_iff, Int.toNat_natCast]; constructor
 .intro he; have : d = n := by omega
  subst this; exact ⟨h2, hd⟩
 .rintro ⟨_, hn⟩; rw [hd.uniq hn]
theorem Ji1 {x : Nat} {Q : Bool -> Prop} (h2 : 2 <= x) (hx : x <= 256) (h : ∀ b : Bool, (b = true ↔ IsLf x x) -> Q b) : Zk x Q := by
 refine ⟨fun z => ∃ k : Nat, z = k /\ 2 <= k /\ k <= x /\ ∀ e, e < k -> 2 <= e -> x % e ≠ 0, fun z => (x - z).toNat, ⟨2, rfl, by omega, by omega, fun e _ _ => by omega⟩, ?_⟩; rintro _ ⟨k, rfl, hk2, hk, hm⟩; dsimp only; refine ⟨fun hlt => ⟨by omega, fun h0 => ?_, fun h0 => ?_⟩, fun hge => ?_⟩
 .rw [YK] at h0; refine h false ⟨fun h' => by (cases h'), fun hp => ?_⟩; have := hp.min k hk2 (by omega); omega
 .rw [YK] at h0; refine ⟨Jo (by omega) (by omega), ⟨k + 1, by push_cast; rfl, by omega, by omega, fun e he h3 => ?_⟩, by omega⟩; rcases Nat.lt_or_ge e k with hc | hc
  .exact hm e hc h3
  .rw [show e = k by omega]; omega
 .refine h true ⟨fun _ => ⟨h2, Nat.mod_self x, fun e he h0 => ?_⟩, fun _ => rfl⟩; rcases Nat.lt_or_ge e x with hc | hc
  .exact absurd h0 (hm e (by omega) he)
  .exact hc
theorem JX {p a b : Nat} (hp : 0 < p) (h : a <= b) : p ^ a <= p ^ b := Nat.pow_le_pow_right hp h
theorem Jcd {p : Nat} {M : Int} {mf : LI} {Q : Int -> Prop} (hp : 2 <= p) (hp2 : p <= 256) (h : ∀ r : Int, (p ^ M.toNat <= 256 -> r = ((p ^ M.toNat : Nat) : Int)) -> (256 < p ^ M.toNat -> 256 < r) -> Q r) : Q9 p M mf Q := by
 refine ⟨fun r => (p ^ M.toNat <= 256 -> r = ((p ^ M.toNat : Nat) : Int)) /\ (256 < p ^ M.toNat -> 256 < r), ⟨fun z i => ∃ k : Nat, i = k /\ k <= M.toNat /\ z = ((p ^ k : Nat) : Int) /\ p ^ k <= 65536 /\ k <= 16, fun z i => (20 - i).toNat, ⟨0, rfl, Nat.zero_le _, by simp, by simp, by omega⟩, ?_⟩, fun r hr => h r hr.1 hr.2⟩; rintro _ _ ⟨k, rfl, hk, rfl, hb, hk16⟩; dsimp only; refine ⟨fun hlt => ⟨fun hle => ?_, fun hgt => ?_⟩, fun hge => ?_⟩
 .have hk8 : p ^ k <= 256 := by omega
  have hkk : k < 16 := by
   rcases Nat.lt_or_ge k 16 with hc | hc
   .exact hc
   .have h1 := JX (p := p) (by omega) hc; have h2 : 2 ^ 16 <= p ^ 16 := Nat.pow_le_pow_left hp 16; omega
  have e1 : ((p ^ k : Nat) : Int) * (p : Int) = ((p ^ (k + 1) : Nat) : Int) := by rw [Nat.pow_succ]; push_cast; rfl
  have hb2 : p ^ (k + 1) <= 65536 := by
   rw [Nat.pow_succ]; have := Nat.mul_le_mul hk8 hp2; omega
  rw [e1]; exact ⟨Jo (by omega) (by omega), Jo (by omega) (by omega), ⟨k + 1, by push_cast; rfl, by omega, rfl, hb2, by omega⟩, by omega⟩
 .have := JX (p := p) (by omega) hk; exact ⟨fun h' => by omega, fun _ => by omega⟩
 .have : k = M.toNat := by omega
  subst this; exact ⟨fun _ => rfl, fun h' => by omega⟩
def Jbf (P M : Int) : Int := if 2 <= P /\ 1 <= M /\ P.toNat ^ M.toNat <= 256 then ((P.toNat ^ M.toNat : Nat) : Int) else 0
theorem Qw {P M : Int} {mf : LI} {Q : Int -> Prop} (h : Q (Jbf P M)) : J1 P M mf Q := by
 refine ⟨fun h1 => ?_, fun h1 => ⟨fun h2 => ?_, fun h2 => ⟨fun h3 => ?_, fun h3 => ?_⟩⟩⟩
 .rw [Jbf, if_neg (by omega)] at h; exact h
 .rw [Jbf, if_neg (by omega)] at h; exact h
 .rw [Jbf, if_neg] at h
  .exact h
  .rintro ⟨h4, h5, h6⟩; have e1 : 2 ^ 9 <= P.toNat ^ 9 := Nat.pow_le_pow_left (by omega) 9; have e2 := JX (p := P.toNat) (by omega) (show 9 <= M.toNat by omega); omega
 .obtain ⟨p, rfl⟩ := Int.eq_ofNat_of_zero_le (show 0 <= P by omega); obtain ⟨m, rfl⟩ := Int.eq_ofNat_of_zero_le (show 0 <= M by omega); refine ⟨fun z i => ∃ k : Nat, i = k /\ k <= m /\ z = ((p ^ k : Nat) : Int) /\ p ^ k <= 256, fun z i => (20 - i).toNat, ⟨0, rfl, Nat.zero_le _, by simp, by simp⟩, ?_⟩; rintro _ _ ⟨k, rfl, hk, rfl, hb⟩; dsimp only; rw [show (256 : Int) = ((256 : Nat) : Int) from rfl, Jgk]; have hd : 256 / p <= 256 := Nat.div_le_self _ _; have hdm : ∀ a, a <= 256 / p ↔ a * p <= 256 := fun a => Nat.le_div_iff_mul_le (show 0 < p by omega); generalize 256 / p = D at *
  refine ⟨fun hlt => ⟨⟨by omega, Jo (by omega) (by omega)⟩, fun hgt => ?_, fun hle => ?_⟩, fun hge => ?_⟩
  .rw [Jbf, if_neg] at h
   .exact h
   .rintro ⟨_, _, h6⟩; simp only [Int.toNat_natCast] at h6; have h7 : p ^ (k + 1) <= 256 := Nat.le_trans (JX (by omega) (by omega)) h6; rw [Nat.pow_succ] at h7; have := (hdm _).2 h7; omega
  .have h7 : p ^ (k + 1) <= 256 := by rw [Nat.pow_succ]; exact (hdm _).1 (by omega)
   have e1 : ((p ^ k : Nat) : Int) * (p : Int) = ((p ^ (k + 1) : Nat) : Int) := by rw [Nat.pow_succ]; push_cast; rfl
   rw [e1]; exact ⟨Jo (by omega) (by omega), Jo (by omega) (by omega), ⟨k + 1, by push_cast; rfl, by omega, rfl, h7⟩, by omega⟩
  .have : k = m := by omega
   subst this; rw [Jbf, if_pos ⟨by omega, by omega, by simpa using hb⟩] at h
   simpa using h
theorem Ze (x p i : Nat) : x / p ^ i / p = x / p ^ (i + 1) := by rw [Nat.div_div_eq_div_mul, Nat.pow_succ]
theorem Jae {p n x : Nat} {Q : LI -> Prop} (hp : 0 < p) (hn : n <= 1000) (hx : x <= 1000) (h : Q (dgi p n x)) : QX p n x Q := by
 refine ⟨⟨by omega, by omega, by omega⟩, fun l z i => ∃ k : Nat, i = k /\ k <= n /\ z = ((x / p ^ k : Nat) : Int) /\ l.length = n /\ ∀ j, j < k -> vo l j = dv p x j, fun l z i => (n - i).toNat, ⟨0, rfl, Nat.zero_le _, by simp, by simp, fun j hj => by omega⟩, ?_⟩; rintro l _ _ ⟨k, rfl, hk, rfl, hl, hv⟩; dsimp only; have hd : x / p ^ k <= x := Nat.div_le_self _ _; have hd2 : x / p ^ k / p <= x / p ^ k := Nat.div_le_self _ _; rw [Jgk, YK, Qo]; simp only [Int.toNat_natCast]; refine ⟨fun hlt => ⟨by omega, ⟨by omega, by omega⟩, ⟨by omega, Qn (by omega)⟩, Jo (by omega) (by omega), ⟨k + 1, by push_cast; rfl, by omega, by rw [Ze], by rw [List.length_set, hl], fun j hj => ?_⟩, by omega⟩, fun hge => ?_⟩
 .rw [JW]; by_cases hjk : k = j
  .subst hjk; rw [if_pos ⟨rfl, by omega⟩]; rfl
  .rw [if_neg (by omega)]; exact hv j (by omega)
 .have : l = dgi p n x := Jab (by rw [hl, JD]) fun j hj => by rw [hv j (by omega), Qj (by omega)]
  rw [this]; exact h
theorem Jbp {p n x : Nat} {Q : LI -> Prop} (hp : 0 < p) (hn : n <= 1000) (hx : x <= 1000) (h : Q (dgi p n x)) : QT x p n Q := by
 refine ⟨⟨by omega, by omega, by omega⟩, fun l z i => ∃ k : Nat, i = k /\ k <= n /\ z = ((x / p ^ k : Nat) : Int) /\ l.length = n /\ ∀ j, j < k -> vo l j = dv p x j, fun l z i => (n - i).toNat, ⟨0, rfl, Nat.zero_le _, by simp, by simp, fun j hj => by omega⟩, ?_⟩; rintro l _ _ ⟨k, rfl, hk, rfl, hl, hv⟩; dsimp only; have hd : x / p ^ k <= x := Nat.div_le_self _ _; have hd2 : x / p ^ k / p <= x / p ^ k := Nat.div_le_self _ _; rw [Jgk, YK, Qo]; simp only [Int.toNat_natCast]; refine ⟨fun hlt => ⟨by omega, ⟨by omega, by omega⟩, ⟨by omega, Qn (by omega)⟩, Jo (by omega) (by omega), ⟨k + 1, by push_cast; rfl, by omega, by rw [Ze], by rw [List.length_set, hl], fun j hj => ?_⟩, by omega⟩, fun hge => ?_⟩
 .rw [JW]; by_cases hjk : k = j
  .subst hjk; rw [if_pos ⟨rfl, by omega⟩]; rfl
  .rw [if_neg (by omega)]; exact hv j (by omega)
 .have : l = dgi p n x := Jab (by rw [hl, JD]) fun j hj => by rw [hv j (by omega), Qj (by omega)]
  rw [this]; exact h
theorem Jdk {p m x : Nat} {mf : LI} {Q : Int -> Prop} (hp : 2 <= p) (hp2 : p <= 256) (hx : x <= 256) (h : Q ((if x % p = p - 1 then x - x % p else x + 1 : Nat) : Int)) : QM p m mf x Q := by
 have hm := Nat.mod_lt x (show 0 < p by omega); have hm2 := Nat.mod_le x p; refine ⟨by omega, Jo (by omega) (by omega), fun h0 => ⟨by omega, ?_⟩, fun h0 => ?_⟩
 .rw [YK] at h0 ⊢; rw [if_pos (by omega)] at h; refine ⟨Jo (by omega) (by omega), ?_⟩; rw [show (x : Int) - ((x % p : Nat) : Int) = ((x - x % p : Nat) : Int) by omega]; exact h
 .rw [YK] at h0; rw [if_neg (by omega)] at h; exact ⟨Jo (by omega) (by omega), by push_cast at h ⊢; exact h⟩
theorem Jcf {l : LI} {Q : LI -> Prop} (hl : l.length <= 1000000) (h : Q l) : YE l Q := by
 intro b hb; refine ⟨fun h1 => by rw [<- hb h1]; exact h, fun _ => ⟨by omega, by simpa using h⟩⟩
end Go.Proofs.Ytbdmnolcmeojbaa
namespace Go.Proofs.Ytbdmnolcmeojbaa
theorem Yy {l : LI} {f : Int -> Bool} : l.any f = true ↔ ∃ i, i < l.length /\ f (vo l i) = true := by
  rw [List.any_eq_true]
  constructor
  . rintro ⟨x, hx, hf⟩
    obtain ⟨i, hi, rfl⟩ := List.mem_iff_getElem.1 hx
    refine ⟨i, hi, ?_⟩
    unfold vo; rw [List.getD_eq_getElem?_getD, List.getElem?_eq_getElem hi]; exact hf
  . rintro ⟨i, hi, hf⟩
    unfold vo at hf
    rw [List.getD_eq_getElem?_getD, List.getElem?_eq_getElem hi] at hf
    exact ⟨l[i], List.getElem_mem hi, hf⟩
theorem Jaf {l : LI} {p : Int -> (Bool -> Prop) -> Prop} {f : Int -> Bool} {Q : Bool -> Prop} (hl : l.length <= 1000000000) (hp : ∀ x (R : Bool -> Prop), R (f x) -> p x R) (h : Q (l.any f)) : QI l p Q := by
 refine ⟨fun z => ∃ k : Nat, z = k /\ k <= l.length /\ ∀ j, j < k -> f (vo l j) = false, fun z => (l.length - z).toNat, ⟨0, rfl, Nat.zero_le _, fun j hj => by omega⟩, ?_⟩; rintro _ ⟨k, rfl, hk, hv⟩; dsimp only; refine ⟨fun hlt => ⟨⟨by omega, by omega⟩, hp _ _ ⟨fun hb => ?_, fun hb => ⟨Jo (by omega) (by omega), ⟨k + 1, by push_cast; rfl, by omega, fun j hj => ?_⟩, by omega⟩⟩⟩, fun hge => ?_⟩
 .rw [Yy.2 ⟨k, by omega, hb⟩] at h; rw [decide_eq_true (by omega)]; exact h
 .rw [JE] at hb; by_cases hjk : j = k
  .subst hjk; exact hb
  .exact hv j (by omega)
 .have : l.any f = false := by
   cases hb : l.any f with
   | false => rfl
   | true =>
    obtain ⟨i, hi, hf⟩ := Yy.1 hb; rw [hv i (by omega)] at hf; cases hf
  rw [this] at h; exact h
theorem Jcj {p : Nat} {a l c : Int} (hp : 0 < p) (ha : 0 <= a) (hl : l <= p) (hc : 0 <= c) : (a + ((p : Int) - l) * c).tmod p = (a - l * c) % (p : Int) := by
 have h1 : 0 <= ((p : Int) - l) * c := Int.mul_nonneg (by omega) hc; rw [Int.tmod_eq_emod_of_nonneg (by omega)]; have : a + ((p : Int) - l) * c = (a - l * c) + p * c := by rw [Int.sub_mul]; omega
 rw [this, Int.add_mul_emod_self_left]
theorem Jfb {p d n : Nat} {l R : Vec} (hp : 0 < p) {N : Nat} (hR : Cn p N R) : ∀ k, Cn p N (rem p d l R n k)
 | 0 => hR
 | k + 1 => fun j hj => by
  show 0 <= rst _ _ _ _ _ j /\ rst _ _ _ _ _ j < _; unfold rst; split
  .exact ⟨Int.emod_nonneg _ (by omega), Int.emod_lt_of_pos _ (by omega)⟩
  .exact Jfb hp hR k j hj
theorem Yk {a b : Int} {p : Nat} (hp : p <= 256) (ha : 0 <= a /\ a <= p) (hb : 0 <= b /\ b <= p) : 0 <= a * b /\ a * b <= 65536 := by
 obtain ⟨x, rfl⟩ := Int.eq_ofNat_of_zero_le ha.1; obtain ⟨y, rfl⟩ := Int.eq_ofNat_of_zero_le hb.1; have : x * y <= 256 * 256 := Nat.mul_le_mul (by omega) (by omega); have e : ((x : Int)) * (y : Int) = ((x * y : Nat) : Int) := by push_cast; rfl
 rw [e]; omega
theorem Jch {l : LI} {n i : Nat} (h : i < n) : vo (l.take n) i = vo l i := by
 unfold vo; rw [List.getD_eq_getElem?_getD, List.getD_eq_getElem?_getD, List.getElem?_take, if_pos h]
theorem Jbs {p : Nat} {l o : LI} {Q : Bool -> Prop} (hp : 0 < p) (hp2 : p <= 256) (hl : Cn p l.length (vo l)) (ho : Cn p o.length (vo o)) (hd : 0 < l.length) (hdn : l.length <= o.length) (hn : o.length <= 1000)
  (h : ∀ b : Bool, (b = true ↔ Dvd p l.length (vo l) (vo o) o.length) -> Q b) : QW p l o Q := by
 refine Jcf (by omega) ⟨Jo (by omega) (by omega), ?_⟩; generalize hdd : l.length = d at *
 generalize hnn : o.length = n at *
 refine ⟨fun x z => ∃ k : Nat, z = (n : Int) - 1 - k /\ k <= n - d /\ x.length = n /\ ∀ j, j < n -> vo x j = rem p d (vo l) (vo o) n k j, fun x z => (z + 1).toNat, ⟨0, by omega, by omega, hnn, fun j _ => rfl⟩, ?_⟩; rintro x _ ⟨k, rfl, hk, hx, hv⟩; dsimp only; have hc := Jfb (d := d) (l := vo l) (n := n) hp ho k; refine ⟨fun hle => ?_, fun hgt => ?_⟩
 .obtain ⟨i, hi⟩ : ∃ i : Nat, (n : Int) - 1 - k = i := ⟨n - 1 - k, by omega⟩
  rw [hi]; have hin : i = n - 1 - k := by omega
  refine ⟨fun y z => ∃ t : Nat, z = t /\ t <= d /\ y.length = n /\ ∀ j, j < n -> vo y j = if i <= j + d /\ j + d < i + t then rem p d (vo l) (vo o) n (k + 1) j else rem p d (vo l) (vo o) n k j, fun y z => (d - z).toNat, ⟨0, rfl, Nat.zero_le _, hx, fun j hj => by rw [if_neg (by omega)]; exact hv j hj⟩, ?_⟩; rintro y _ ⟨t, rfl, ht, hy, hw⟩; dsimp only; have e1 : (i : Int) - (d : Int) + (t : Int) = ((i - d + t : Nat) : Int) := by omega
  rw [e1, JE, JE, JE, Qo]; have hyi : vo y i = rem p d (vo l) (vo o) n k i := by rw [hw i (by omega), if_neg (by omega)]
  refine ⟨fun hlt => ?_, fun hge => ?_⟩
  .have hyj : vo y (i - d + t) = rem p d (vo l) (vo o) n k (i - d + t) := by rw [hw _ (by omega), if_neg (by omega)]
   have c1 := hl t (by omega); have c2 := hc i (by omega); have c3 := hc (i - d + t) (by omega); rw [hyi, hyj]; have c4 := Yk (a := (p : Int) - vo l t) (b := rem p d (vo l) (vo o) n k i) hp2 ⟨by omega, by omega⟩ ⟨c2.1, by omega⟩; refine ⟨⟨by omega, by omega⟩, Jo (by omega) (by omega), Jo (by omega) (by omega), ⟨by omega, by omega⟩, Jo (by omega) (by omega), ⟨by omega, by omega⟩, Jo (by omega) (by omega), Jo (by omega) (by omega), by omega, ⟨by omega, by omega⟩, Jo (by omega) (by omega), ⟨t + 1, by push_cast; rfl, by omega, by rw [List.length_set, hy], fun j hj => ?_⟩, by omega⟩; rw [JW]; by_cases hjt : i - d + t = j
   .subst hjt; rw [if_pos ⟨rfl, by omega⟩, if_pos (by omega), Jcj hp c3.1 (by omega) c2.1]; show _ = rst p d (n - 1 - k) (vo l) (rem p d (vo l) (vo o) n k) (i - d + t); unfold rst; rw [<- hin, if_pos (by omega), show i - d + t + d - i = t by omega]
   .rw [if_neg (fun h => hjt h.1), hw j hj]; by_cases hc2 : i <= j + d /\ j + d < i + t
    .rw [if_pos hc2, if_pos (by omega)]
    .rw [if_neg hc2, if_neg (by omega)]
  .refine ⟨Jo (by omega) (by omega), ⟨k + 1, by omega, by omega, hy, fun j hj => ?_⟩, by omega⟩; rw [hw j hj]; have htd : t = d := by omega
   by_cases hc2 : i <= j + d /\ j + d < i + t
   .rw [if_pos hc2]
   .rw [if_neg hc2]; show _ = rst p d (n - 1 - k) (vo l) (rem p d (vo l) (vo o) n k) j; unfold rst; rw [<- hin, if_neg (by omega)]
 .refine ⟨⟨by omega, by omega⟩, Jaf (f := fun x => decide (x ≠ 0)) (by rw [List.length_take]; omega) (fun x R hR => hR) (h _ ?_)⟩; have hkk : k = n - d := by omega
  have hlen : (x.take (d : Int).toNat).length = d := by rw [List.length_take]; omega
  rw [Bool.not_eq_true']; constructor
  .intro hb j hj; have h2 : ¬ (x.take (d : Int).toNat).any (fun x => decide (x ≠ 0)) = true := by rw [hb]; decide
   rw [Yy] at h2; have h3 : decide (vo (x.take (d : Int).toNat) j ≠ 0) = false := by
    cases hc3 : decide (vo (x.take (d : Int).toNat) j ≠ 0) with
    | false => rfl
    | true => exact absurd ⟨j, by omega, hc3⟩ h2
   rw [Jch (by simpa using hj), hv j (by omega), hkk] at h3; have h4 := of_decide_eq_false h3; omega
  .intro hD; cases hb : (x.take (d : Int).toNat).any (fun x => decide (x ≠ 0)) with
   | false => rfl
   | true =>
    obtain ⟨i, hi, hf⟩ := Yy.1 hb; rw [Jch (by simpa using (by omega : i < d)), hv i (by omega), hkk, hD i (by omega)] at hf; exact absurd hf (by decide)
theorem ZZ (o : LI) : vo (o ++ [(1 : Int)]) = fun i => if i = o.length then 1 else vo o i := by
 funext i; unfold vo; rw [List.getD_eq_getElem?_getD, List.getD_eq_getElem?_getD]; rcases Nat.lt_trichotomy i o.length with h | h | h
 .rw [List.getElem?_append_left h, if_neg (by omega)]
 .subst h; simp
 .rw [if_neg (by omega), List.getElem?_eq_none (by simp; omega), List.getElem?_eq_none (by omega)]
theorem Jgo {p : Nat} {o : LI} (hp : 2 <= p) (ho : Cn p o.length (vo o)) : Cn p (o.length + 1) (vo (o ++ [(1 : Int)])) := fun i hi => by
 rw [ZZ]; dsimp only; split
 .omega
 .exact ho i (by omega)
theorem Je2 {p : Nat} {l o : LI} {Q : Bool -> Prop} (hp : 2 <= p) (hp2 : p <= 256) (hl : Cn p l.length (vo l)) (ho : Cn p o.length (vo o)) (hd : 0 < l.length) (hdn : l.length <= o.length) (hn : o.length <= 1000)
  (h : ∀ b : Bool, (b = true ↔ Dvd p l.length (vo l) (fun i => if i = o.length then 1 else vo o i) (o.length + 1)) -> Q b) : QG l o p Q := by
 unfold QG; simp only [List.nil_append]; rw [<- ZZ] at h; have hcR := Jgo hp ho; have hnn : (o ++ [(1 : Int)]).length = o.length + 1 := by simp
 refine ⟨by omega, by omega, Jo (by omega) (by omega), ?_⟩; generalize hdd : l.length = d at *
 generalize hN : o.length + 1 = n at *
 generalize hoo : o ++ [(1 : Int)] = r at *
 refine ⟨fun x z => ∃ k : Nat, z = (n : Int) - 1 - k /\ k <= n - d /\ x.length = n /\ ∀ j, j < n -> vo x j = if j + k < n then rem p d (vo l) (vo r) n k j else 0, fun x z => (z + 1).toNat, ⟨0, by omega, by omega, hnn, fun j hj => by rw [if_pos (by omega)]; rfl⟩, ?_⟩; rintro x _ ⟨k, rfl, hk, hx, hv⟩; dsimp only; have hc := Jfb (d := d) (l := vo l) (n := n) (p := p) (by omega) hcR k; refine ⟨fun hle => ⟨⟨by omega, by omega⟩, ?_⟩, fun hgt => ?_⟩
 .obtain ⟨i, hi⟩ : ∃ i : Nat, (n : Int) - 1 - k = i := ⟨n - 1 - k, by omega⟩
  rw [hi]; have hin : i = n - 1 - k := by omega
  have hxi : vo x i = rem p d (vo l) (vo r) n k i := by rw [hv i (by omega), if_pos (by omega)]
  refine ⟨fun y z => ∃ t : Nat, z = t /\ t <= d /\ y.length = n /\ ∀ j, j < n -> vo y j = if i <= j + d /\ j + d < i + t then rem p d (vo l) (vo r) n (k + 1) j else vo x j, fun y z => (d - z).toNat, ⟨0, rfl, Nat.zero_le _, hx, fun j hj => by rw [if_neg (by omega)]⟩, ?_⟩; rintro y _ ⟨t, rfl, ht, hy, hw⟩; dsimp only; have e1 : (i : Int) - (d : Int) + (t : Int) = ((i - d + t : Nat) : Int) := by omega
  rw [e1, JE, JE, JE, Qo, Qo]; refine ⟨fun hlt => ?_, fun hge => ?_⟩
  .have hyj : vo y (i - d + t) = rem p d (vo l) (vo r) n k (i - d + t) := by rw [hw _ (by omega), if_neg (by omega), hv _ (by omega), if_pos (by omega)]
   have c1 := hl t (by omega); have c2 := hc i (by omega); have c3 := hc (i - d + t) (by omega); rw [hxi, hyj]; have c4 := Yk (a := (p : Int) - rem p d (vo l) (vo r) n k i) (b := vo l t) hp2 ⟨by omega, by omega⟩ ⟨c1.1, by omega⟩; refine ⟨Jo (by omega) (by omega), Jo (by omega) (by omega), Jo (by omega) (by omega), Jo (by omega) (by omega), ⟨by omega, by omega⟩, Jo (by omega) (by omega), ⟨by omega, by omega⟩, Jo (by omega) (by omega), Jo (by omega) (by omega), by omega, ⟨by omega, by omega⟩, Jo (by omega) (by omega), ⟨t + 1, by push_cast; rfl, by omega, by rw [List.length_set, hy], fun j hj => ?_⟩, by omega⟩; rw [JW]; by_cases hjt : i - d + t = j
   .subst hjt; rw [if_pos ⟨rfl, by omega⟩, if_pos (by omega), Jcj (by omega) c3.1 (by omega) c1.1]; show _ = rst p d (n - 1 - k) (vo l) (rem p d (vo l) (vo r) n k) (i - d + t); unfold rst; rw [<- hin, if_pos (by omega), show i - d + t + d - i = t by omega, Int.mul_comm]
   .rw [if_neg (fun h => hjt h.1), hw j hj]; by_cases hc2 : i <= j + d /\ j + d < i + t
    .rw [if_pos hc2, if_pos (by omega)]
    .rw [if_neg hc2, if_neg (by omega)]
  .refine ⟨⟨by omega, by omega⟩, Jo (by omega) (by omega), ⟨k + 1, by omega, by omega, by rw [List.length_set, hy], fun j hj => ?_⟩, by omega⟩; rw [JW]; by_cases hij : i = j
   .subst hij; rw [if_pos ⟨rfl, by omega⟩, if_neg (by omega)]
   .rw [if_neg (fun h => hij h.1), hw j hj]; have htd : t = d := by omega
    by_cases hc2 : i <= j + d /\ j + d < i + t
    .rw [if_pos hc2, if_pos (by omega)]
    .rw [if_neg hc2, hv j hj]; by_cases hjk : j + k < n
     .rw [if_pos hjk, if_pos (by omega)]; show _ = rst p d (n - 1 - k) (vo l) (rem p d (vo l) (vo r) n k) j; unfold rst; rw [<- hin, if_neg (by omega)]
     .rw [if_neg hjk, if_neg (by omega)]
 .have hkk : k = n - d := by omega
  refine ⟨fun z => ∃ t : Nat, z = t /\ t <= n /\ ∀ j, j < t -> vo x j = 0, fun z => (n - z).toNat, ⟨0, rfl, Nat.zero_le _, fun j hj => by omega⟩, ?_⟩; rintro _ ⟨t, rfl, ht, hz⟩; dsimp only; rw [JE]; refine ⟨fun hlt => ⟨⟨by omega, by omega⟩, fun hne => ?_, fun heq => ⟨Jo (by omega) (by omega), ⟨t + 1, by push_cast; rfl, by omega, fun j hj => ?_⟩, by omega⟩⟩, fun hge => ?_⟩
  .refine h false ⟨fun h' => absurd h' (by decide), fun hD => ?_⟩; rw [hv t (by omega)] at hne; by_cases hc2 : t + k < n
   .rw [if_pos hc2, hkk, hD t (by omega)] at hne; exact absurd rfl hne
   .rw [if_neg hc2] at hne; exact absurd rfl hne
  .by_cases hjt : j = t
   .subst hjt; omega
   .exact hz j (by omega)
  .refine h true ⟨fun _ j hj => ?_, fun _ => rfl⟩; have h1 := hz j (by omega); rw [hv j (by omega), if_pos (by omega), hkk] at h1; exact h1
theorem QO {p d w : Nat} (hw : w < p ^ d) : vo (dgi p d w) = dv p w := by
 funext i; rcases Nat.lt_or_ge i d with h | h
 .exact Qj h
 .rw [vo_hi (by rw [JD]; exact h), Jkd hw h]
theorem ZH {p d w : Nat} (hp : 0 < p) (hw : w < p ^ d) (n : Nat) : Cn p n (vo (dgi p d w)) := by rw [QO hw]; exact Jb3 hp w n
theorem Jk8 {p m : Nat} {mf : LI} {Q : Bool -> Prop} (hp : 2 <= p) (hp2 : p <= 256) (hm : mf.length = m) (hq : p ^ m <= 256) (hc : Cn p m (vo mf))
  (h : ∀ b : Bool, (b = true ↔ Irr p m (vo mf)) -> Q b) : Qa p m mf Q := by
 have hm9 : m <= 8 := by
  rcases Nat.lt_or_ge 8 m with h1 | h1
  .have e1 : 2 ^ 9 <= p ^ 9 := Nat.pow_le_pow_left (by omega) 9; have e2 := JX (p := p) (by omega) (show 9 <= m by omega); omega
  .exact h1
 refine Jcf (by omega) ⟨by omega, ?_⟩; have hlen : (mf ++ [(1 : Int)]).length = m + 1 := by simp [hm]
 have hcs : Cn p (m + 1) (vo (mf ++ [(1 : Int)])) := by have := Jgo hp (o := mf) (by rw [hm]; exact hc); rwa [hm] at this
 have hpd : ∀ d, 2 * d <= m -> p ^ d <= 256 := fun d hd => Nat.le_trans (JX (by omega) (by omega)) hq; refine ⟨fun a b => ∃ d : Nat, a = d /\ 1 <= d /\ 2 * (d - 1) <= m /\ b = ((p ^ d : Nat) : Int) /\ p ^ d <= 65536 /\ ∀ e, 0 < e -> e < d -> 2 * e <= m -> ∀ w, w < p ^ e -> ¬ Dvd p e (dv p w) (fun i => if i = m then 1 else vo mf i) (m + 1), fun a b => (20 - a).toNat, ⟨1, rfl, by omega, by omega, by simp, by simp; omega, fun e h1 h2 => by omega⟩, ?_⟩; rintro _ _ ⟨d, rfl, hd1, hd2, rfl, hdp, hnd⟩; dsimp only; refine ⟨Jo (by omega) (by omega), fun hle => ?_, fun hgt => ?_⟩
 .have hpd' := hpd d (by omega); refine ⟨fun z => ∃ w : Nat, z = w /\ w <= p ^ d /\ ∀ u, u < w -> ¬ Dvd p d (dv p u) (fun i => if i = m then 1 else vo mf i) (m + 1), fun z => ((p ^ d : Nat) - z).toNat, ⟨0, rfl, Nat.zero_le _, fun u hu => by omega⟩, ?_⟩; rintro _ ⟨w, rfl, hw, hnw⟩; dsimp only; refine ⟨fun hlt => ?_, fun hge => ?_⟩
  .have hw2 : w < p ^ d := by omega
   refine ⟨_, Jae (by omega) (by omega) (by omega) rfl, ?_⟩; have hdl := JD p d w; refine (?_ : ∃ r : Bool, QW p (dgi p d w) (mf ++ [(1 : Int)]) (fun q => q = r) /\ _); by_cases hD : Dvd p d (dv p w) (fun i => if i = m then 1 else vo mf i) (m + 1)
   .refine ⟨true, Jbs (by omega) hp2 (by rw [hdl]; exact ZH (by omega) hw2 d) (by rw [hlen]; exact hcs) (by omega) (by omega) (by omega) fun b hb => ?_, fun _ => ?_, fun h' => absurd h' (by decide)⟩
    .rw [hdl, hlen, QO hw2, ZZ, hm] at hb; exact hb.2 hD
    .exact h false ⟨fun h' => absurd h' (by decide), fun hI => absurd hD (hI d (by omega) (by omega) w hw2)⟩
   .refine ⟨false, Jbs (by omega) hp2 (by rw [hdl]; exact ZH (by omega) hw2 d) (by rw [hlen]; exact hcs) (by omega) (by omega) (by omega) fun b hb => ?_, fun h' => absurd h' (by decide), fun _ => ?_⟩
    .rw [hdl, hlen, QO hw2, ZZ, hm] at hb; cases b with
     | false => rfl
     | true => exact absurd (hb.1 rfl) hD
    .refine ⟨Jo (by omega) (by omega), ⟨w + 1, by push_cast; rfl, by omega, fun u hu => ?_⟩, by omega⟩; by_cases huw : u = w
     .subst huw; exact hD
     .exact hnw u (by omega)
  .have e1 : ((p ^ d : Nat) : Int) * (p : Int) = ((p ^ (d + 1) : Nat) : Int) := by rw [Nat.pow_succ]; push_cast; rfl
   have hb2 : p ^ (d + 1) <= 65536 := by
    rw [Nat.pow_succ]; have := Nat.mul_le_mul hpd' hp2; omega
   rw [e1]; refine ⟨Jo (by omega) (by omega), Qn (by omega), ⟨d + 1, by push_cast; rfl, by omega, by omega, rfl, hb2, fun e he0 he h2 u hu => ?_⟩, by omega⟩; by_cases hed : e = d
   .subst hed; exact hnw u (by omega)
   .exact hnd e he0 (by omega) h2 u hu
 .exact h true ⟨fun _ e he0 h2 u hu => hnd e he0 (by omega) h2 u hu, fun _ => rfl⟩
theorem v_rirr {p m : Nat} {mf : LI} {Q : Bool -> Prop} (hp : 2 <= p) (hp2 : p <= 256) (hm : mf.length = m) (hq : p ^ m <= 256) (hc : Cn p m (vo mf))
  (h : ∀ b : Bool, (b = true ↔ Irr p m (vo mf)) -> Q b) : Jbc mf p Q := by
 have hm9 : m <= 8 := by
  rcases Nat.lt_or_ge 8 m with h1 | h1
  .have e1 : 2 ^ 9 <= p ^ 9 := Nat.pow_le_pow_left (by omega) 9; have e2 := JX (p := p) (by omega) (show 9 <= m by omega); omega
  .exact h1
 unfold Jbc; rw [hm]; have hpd : ∀ d, 2 * d <= m -> p ^ d <= 256 := fun d hd => Nat.le_trans (JX (by omega) (by omega)) hq; refine ⟨fun b a => ∃ d : Nat, a = d + 1 /\ 2 * d <= m /\ b = ((p ^ d : Nat) : Int) /\ ∀ e, 0 < e -> e <= d -> 2 * e <= m -> ∀ w, w < p ^ e -> ¬ Dvd p e (dv p w) (fun i => if i = m then 1 else vo mf i) (m + 1), fun b a => (20 - a).toNat, ⟨0, rfl, by omega, by simp, fun e h1 h2 => by omega⟩, ?_⟩; rintro _ _ ⟨d, rfl, hd2, rfl, hnd⟩; dsimp only; have hpd' := hpd d hd2; refine ⟨Jo (by omega) (by omega), fun hle => ?_, fun hgt => ?_⟩
 .have e1 : ((p ^ d : Nat) : Int) * (p : Int) = ((p ^ (d + 1) : Nat) : Int) := by rw [Nat.pow_succ]; push_cast; rfl
  have hpd2 := hpd (d + 1) (by omega); rw [e1]; refine ⟨Qn (by omega), ?_⟩; refine ⟨fun z => ∃ w : Nat, z = w /\ w <= p ^ (d + 1) /\ ∀ u, u < w -> ¬ Dvd p (d + 1) (dv p u) (fun i => if i = m then 1 else vo mf i) (m + 1), fun z => ((p ^ (d + 1) : Nat) - z).toNat, ⟨0, rfl, Nat.zero_le _, fun u hu => by omega⟩, ?_⟩; rintro _ ⟨w, rfl, hw, hnw⟩; dsimp only; rw [show (d : Int) + 1 = ((d + 1 : Nat) : Int) by push_cast; rfl]; refine ⟨fun hlt => ?_, fun hge => ?_⟩
  .have hw2 : w < p ^ (d + 1) := by omega
   have hdl := JD p (d + 1) w; refine Jbp (by omega) (by omega) (by omega) (Je2 hp hp2 (by rw [hdl]; exact ZH (by omega) hw2 _) (by rw [hm]; exact hc) (by omega) (by omega) (by omega) fun b hb => ?_); rw [hdl, hm, QO hw2] at hb; refine ⟨fun hb1 => ?_, fun hb0 => ?_⟩
   .exact h false ⟨fun h' => absurd h' (by decide), fun hI => absurd (hb.1 hb1) (hI (d + 1) (by omega) (by omega) w hw2)⟩
   .refine ⟨Jo (by omega) (by omega), ⟨w + 1, by push_cast; rfl, by omega, fun u hu => ?_⟩, by omega⟩; by_cases huw : u = w
    .subst huw; intro hD; rw [hb.2 hD] at hb0; exact absurd hb0 (by decide)
    .exact hnw u (by omega)
  .refine ⟨Jo (by omega) (by omega), ⟨d + 1, rfl, by omega, rfl, fun e he0 he h2 u hu => ?_⟩, by omega⟩; by_cases hed : e = d + 1
   .subst hed; exact hnw u (by omega)
   .exact hnd e he0 (by omega) h2 u hu
 .exact h true ⟨fun _ e he0 h2 u hu => hnd e he0 (by omega) h2 u hu, fun _ => rfl⟩
structure FV (P M : Int) (mf : LI) (p m v : Nat) : Prop where
  eP : P = p
  eM : M = m
  pr : IsLf p p
  m0 : 0 < m
  q : p ^ m <= 256
  vlt : v < p ^ m
  m1 : m = 1 -> mf = [] /\ v = 0
  m2 : m ≠ 1 -> mf = dgi p m v
  irr : Irr p m (dv p v)
def Ja9 (P M : Int) (mf : LI) : Prop := ∃ p m v, FV P M mf p m v
open Classical in
noncomputable def ck (P M : Int) (mf : LI) : Int := if Ja9 P M mf then 0 else 1
theorem Jb4 {P M : Int} {mf : LI} (h : Ja9 P M mf) : ck P M mf = 0 := if_pos h
theorem Qz {P M : Int} {mf : LI} (h : ¬ Ja9 P M mf) : ck P M mf = 1 := if_neg h
theorem Jlt (p : Nat) (c : Vec) : Irr p 1 c := fun d h1 h2 => by omega
theorem Jbn {p : Nat} (hp : IsLf p p) (hq : p <= 256) : FV p ((1 : Nat) : Int) [] p 1 0 := ⟨rfl, rfl, hp, by omega, by simpa using hq, by have := hp.two; simp; omega, fun _ => ⟨rfl, rfl⟩, fun h => absurd rfl h, Jlt p _⟩
theorem Jg5 {p m : Nat} {mf : LI} (hp : 0 < p) (hl : mf.length = m) (hc : Cn p m (vo mf)) : nm p m (vo mf) < p ^ m /\ mf = dgi p m (nm p m (vo mf)) /\ vo mf = dv p (nm p m (vo mf)) := by
 have hlt := YM (m := m) hp (vo mf); have he : mf = dgi p m (nm p m (vo mf)) := Jab (by rw [hl, JD]) fun i hi => by
  have h1 := hc i (by omega); rw [Qj (by omega), Jg4 hp _ (by omega), Int.emod_eq_of_lt h1.1 h1.2]
 exact ⟨hlt, he, by have := congrArg vo he; rw [QO hlt] at this; exact this⟩
theorem FV.cn {P M : Int} {mf : LI} {p m v : Nat} (h : FV P M mf p m v) (hm : m ≠ 1) : mf.length = m /\ Cn p m (vo mf) /\ Irr p m (vo mf) := by
 have := h.pr.two; rw [h.m2 hm]; exact ⟨JD p m v, ZH (by omega) h.vlt m, by rw [QO h.vlt]; exact h.irr⟩
theorem FV.vo {P M : Int} {mf : LI} {p m v : Nat} (h : FV P M mf p m v) : Go.Proofs.Ytbdmnolcmeojbaa.vo mf = dv p v := by
 by_cases hm : m = 1
 .rw [(h.m1 hm).1, (h.m1 hm).2, Jbi]; rfl
 .rw [h.m2 hm, QO h.vlt]
theorem Jk9 {P M : Int} {mf : LI} {Q : Int -> Prop} (h : Q (ck P M mf)) : Z8 P M mf Q := by
 refine ⟨fun h1 => ?_, fun h1 => Jhm (by omega) fun b hb => ⟨fun hb0 => ?_, fun hb1 => ?_⟩⟩
 .rw [Qz] at h
  .exact h
  .rintro ⟨p, m, v, hV⟩; have e1 := JX (p := p) (by have := hV.pr.two; omega) hV.m0; have := hV.q; have := hV.eP; rw [show p ^ (0 + 1) = p from Nat.pow_one p] at e1; omega
 .rw [Qz] at h
  .exact h
  .rintro ⟨p, m, v, hV⟩; have := hV.pr.two; have : b = true := hb.2 ⟨by rw [hV.eP]; omega, by rw [hV.eP]; exact hV.pr⟩; rw [this] at hb0; exact absurd hb0 (by decide)
 .have hbt : b = true := by cases b <;> first | rfl | exact absurd hb1 (by decide)
  obtain ⟨hP2, hPr⟩ := hb.1 hbt; obtain ⟨p, rfl⟩ := Int.eq_ofNat_of_zero_le (show 0 <= P by omega); rw [Int.toNat_natCast] at hPr; refine ⟨fun h2 => ?_, fun h2 => Jcd (by omega) (by omega) fun r hr1 hr2 => ⟨fun h3 => ?_, fun h3 => ?_⟩⟩
  .rw [Qz] at h
   .exact h
   .rintro ⟨p', m, v, hV⟩; have := hV.m0; have := hV.eM; omega
  .rw [Qz] at h
   .exact h
   .rintro ⟨p', m, v, hV⟩; have e1 := hV.eM; have e2 := hV.eP; have e3 := hV.q; have : p = p' := by omega
    subst this; rw [e1, Int.toNat_natCast] at hr1; have := hr1 e3; omega
  .obtain ⟨m, rfl⟩ := Int.eq_ofNat_of_zero_le (show 0 <= M by omega); rw [Int.toNat_natCast] at hr1 hr2; have hq : p ^ m <= 256 := by
    rcases Nat.lt_or_ge 256 (p ^ m) with hc | hc
    .exact absurd (hr2 hc) h3
    .exact hc
   refine ⟨fun h4 => Ji6 ?_, fun h4 => ⟨fun h5 => ?_, fun h5 => ?_⟩⟩
   .have hm1 : m = 1 := by omega
    subst hm1; by_cases hl : mf = []
    .subst hl; rw [Jb4 ⟨_, _, _, Jbn hPr (by omega)⟩] at h
     simpa using h
    .rw [Qz] at h
     .simpa [hl] using h
     .rintro ⟨p', m, v, hV⟩; exact hl (hV.m1 (by have := hV.eM; omega)).1
   .rw [Qz] at h
    .exact h
    .rintro ⟨p', m', v, hV⟩; have e1 := hV.eM; have := (hV.cn (by omega)).1; omega
   .have hlen : mf.length = m := by omega
    have hm8 : mf.length <= 1000000000 := by
     have := Nat.lt_two_pow_self (n := m); have e1 : 2 ^ m <= p ^ m := Nat.pow_le_pow_left (by omega) m; omega
    refine Jaf (f := fun x => if x < 0 then true else decide ((p : Int) <= x)) hm8 (fun x R hR => ⟨fun hx => by simpa [hx] using hR, fun hx => by simpa [hx] using hR⟩) ⟨fun hb6 => ?_, fun hb6 => ?_⟩
    .rw [Qz] at h
     .exact h
     .rintro ⟨p', m', v, hV⟩; have e1 := hV.eM; have e2 := hV.eP; have e3 : p = p' := by omega
      have e4 : m = m' := by omega
      subst e3; subst e4; obtain ⟨i, hi, hf⟩ := Yy.1 hb6; have hcn := (hV.cn (by omega)).2.1 i (by omega); rw [if_neg (by omega)] at hf; have := of_decide_eq_true hf; omega
    .have hcn : Cn p m (vo mf) := fun i hi => by
      have h6 : ¬ mf.any (fun x => if x < 0 then true else decide ((p : Int) <= x)) = true := by rw [hb6]; decide
      rw [Yy] at h6; by_cases hx : vo mf i < 0
      .exact absurd ⟨i, by omega, by rw [if_pos hx]⟩ h6
      .by_cases hx2 : (p : Int) <= vo mf i
       .exact absurd ⟨i, by omega, by rw [if_neg hx, decide_eq_true hx2]⟩ h6
       .omega
     have hcl := Jg5 (by omega) hlen hcn; refine Jk8 (by omega) (by omega) hlen hq hcn fun b2 hb2 => Ji6 ?_; by_cases hI : Irr p m (vo mf)
     .rw [hb2.2 hI, if_pos rfl]; rw [Jb4 ⟨p, m, nm p m (vo mf), rfl, rfl, hPr, by omega, hq, hcl.1, fun e => by omega, fun _ => hcl.2.1, by rw [<- hcl.2.2]; exact hI⟩] at h; exact h
     .rw [if_neg (fun e => hI (hb2.1 e))]; rw [Qz] at h
      .exact h
      .rintro ⟨p', m', v, hV⟩; have e1 := hV.eM; have e2 := hV.eP; have e3 : p = p' := by omega
       have e4 : m = m' := by omega
       subst e3; subst e4; exact hI (hV.cn (by omega)).2.2
theorem Jdl {P M : Int} {mf : LI} {Q : Int -> Prop} (h : Q (ck P M mf)) : Yn P M mf Q := by
 refine Qw ⟨fun h0 => ?_, fun h0 => ?_⟩
 .rw [Qz] at h
  .exact h
  .rintro ⟨p, m, v, hV⟩; have h1 := hV.pr.two; have h2 := hV.m0; have h3 := hV.q; rw [hV.eP, hV.eM, Jbf, if_pos ⟨by omega, by omega, by simpa using h3⟩] at h0; have h4 : 0 < p ^ m := Nat.pow_pos (by omega); simp only [Int.toNat_natCast] at h0; omega
 .unfold Jbf at h0; by_cases hc : 2 <= P /\ 1 <= M /\ P.toNat ^ M.toNat <= 256
  .obtain ⟨h1, h2, hq⟩ := hc; obtain ⟨p, rfl⟩ := Int.eq_ofNat_of_zero_le (show 0 <= P by omega); obtain ⟨m, rfl⟩ := Int.eq_ofNat_of_zero_le (show 0 <= M by omega); simp only [Int.toNat_natCast] at hq; have hp256 : p <= 256 := by
    have := JX (p := p) (by omega) (show 1 <= m by omega); rw [Nat.pow_one] at this; omega
   refine Ji1 (by omega) hp256 fun b hb => ⟨fun hb0 => ?_, fun hb1 => ?_⟩
   .rw [Qz] at h
    .exact h
    .rintro ⟨p', m', v, hV⟩; have e2 := hV.eP; have e3 : p = p' := by omega
     subst e3; rw [hb.2 hV.pr] at hb0; exact absurd hb0 (by decide)
   .have hbt : b = true := by cases b <;> first | rfl | exact absurd hb1 (by decide)
    have hPr := hb.1 hbt; refine ⟨fun h4 => ⟨fun h5 => ?_, fun h5 => ?_⟩, fun h4 => ⟨fun h5 => ?_, fun h5 => ?_⟩⟩
    .rw [Qz] at h
     .exact h
     .rintro ⟨p', m', v, hV⟩; have e1 := hV.eM; have := (hV.m1 (by omega)).1; rw [this] at h5; exact h5 rfl
    .have hm1 : m = 1 := by omega
     subst hm1; have hl : mf = [] := List.length_eq_zero_iff.1 (by omega); subst hl; rw [Jb4 ⟨_, _, _, Jbn hPr hp256⟩] at h; exact h
    .rw [Qz] at h
     .exact h
     .rintro ⟨p', m', v, hV⟩; have e1 := hV.eM; have := (hV.cn (by omega)).1; omega
    .have hlen : mf.length = m := by omega
     refine ⟨fun z => ∃ k : Nat, z = k /\ k <= m /\ Cn p k (vo mf), fun z => (m - z).toNat, ⟨0, rfl, Nat.zero_le _, fun i hi => by omega⟩, ?_⟩; rintro _ ⟨k, rfl, hk, hcn⟩; dsimp only; rw [JE]; have hno : ¬ (0 <= vo mf k /\ vo mf k < p) -> k < m -> ¬ Ja9 p m mf := by
      rintro hbad hkm ⟨p', m', v, hV⟩; have e1 := hV.eM; have e2 := hV.eP; have e3 : p = p' := by omega
      have e4 : m = m' := by omega
      subst e3; subst e4; exact hbad ((hV.cn (by omega)).2.1 k hkm)
     have hm8 : m <= 1000000000 := by
      have := Nat.lt_two_pow_self (n := m); have e1 : 2 ^ m <= p ^ m := Nat.pow_le_pow_left (by omega) m; omega
     refine ⟨fun hlt => ⟨fun hneg => ⟨⟨by omega, by omega⟩, ?_⟩, fun hpos => ⟨⟨by omega, by omega⟩, ⟨by omega, by omega⟩, fun hbig => ?_, fun hsm => ⟨Jo (by omega) (by omega), ⟨k + 1, by push_cast; rfl, by omega, fun i hi => ?_⟩, by omega⟩⟩⟩, fun hge => ?_⟩
     .rw [Qz (hno (by omega) (by omega))] at h; exact h
     .rw [Qz (hno (by omega) (by omega))] at h; exact h
     .by_cases hik : i = k
      .subst hik; omega
      .exact hcn i (by omega)
     .have hkm : k = m := by omega
      subst hkm; have hcl := Jg5 (by omega) hlen hcn; refine v_rirr (by omega) hp256 hlen hq hcn fun b2 hb2 => ⟨fun hb3 => ?_, fun hb3 => ?_⟩
      .rw [Qz] at h
       .exact h
       .rintro ⟨p', m', v, hV⟩; have e1 := hV.eM; have e2 := hV.eP; have e3 : p = p' := by omega
        have e4 : k = m' := by omega
        subst e3; subst e4; rw [hb2.2 (hV.cn (by omega)).2.2] at hb3; exact absurd hb3 (by decide)
      .have hbt2 : b2 = true := by cases b2 <;> first | rfl | exact absurd hb3 (by decide)
       rw [Jb4 ⟨p, k, nm p k (vo mf), rfl, rfl, hPr, by omega, hq, hcl.1, fun e => by omega, fun _ => hcl.2.1, by rw [<- hcl.2.2]; exact hb2.1 hbt2⟩] at h; exact h
  .rw [if_neg hc] at h0; exact absurd rfl h0
end Go.Proofs.Ytbdmnolcmeojbaa
namespace Go.Proofs.Ytbdmnolcmeojbaa
theorem Zf {p m : Nat} {r : LI} {u : Vec} (hp : 0 < p) (hl : r.length = m) (hv : ∀ i, i < m -> vo r i = u i % (p : Int)) : r = dgi p m (nm p m u) :=
  Jab (by rw [hl, JD]) fun i hi => by rw [hv i (by omega), Qj (by omega), Jg4 hp _ (by omega)]
theorem Z1 (p i : Nat) (l : LI) (n : Nat) (h : i < n) : vl p (i + 1) (fun t => vo l (n - (i + 1) + t)) = vo l (n - (i + 1)) + (p : Int) * vl p i (fun t => vo l (n - i + t)) := by
 show vo l (n - (i + 1) + 0) + (p : Int) * vl p i (fun t => vo l (n - (i + 1) + (t + 1))) = _; rw [Nat.add_zero]; have : (fun t => vo l (n - (i + 1) + (t + 1))) = fun t => vo l (n - i + t) := by
  funext t; rw [show n - (i + 1) + (t + 1) = n - i + t by omega]
 rw [this]
theorem Z2 {p : Nat} {l : LI} {n i : Nat} (hp : 2 <= p) (hc : Cn p n (vo l)) (hq : p ^ n <= 256) (hi : i <= n) : 0 <= vl p i (fun t => vo l (n - i + t)) /\ vl p i (fun t => vo l (n - i + t)) < 256 := by
 have h1 := Jgg (p := p) (n := i) (v := fun t => vo l (n - i + t)) (by omega) (fun t ht => hc (n - i + t) (by omega)); have h2 := JX (p := p) (by omega) hi; omega
theorem Jce {p : Nat} {l : LI} {Q : Int -> Prop} (hp : 2 <= p) (hp2 : p <= 256) (hc : Cn p l.length (vo l)) (hq : p ^ l.length <= 256) (h : Q (vl p l.length (vo l))) : QC p l Q := by
 refine ⟨fun i z => i <= l.length /\ z = vl p i (fun t => vo l (l.length - i + t)), ⟨Nat.zero_le _, rfl⟩, ?_, ?_⟩
 .rintro i hi _ ⟨_, rfl⟩; have h1 := Z2 hp hc hq (i := i) (by omega); have h2 := Z2 hp hc hq (i := i + 1) (by omega); rw [Z1 p i l l.length hi] at h2; have h3 := Yk (a := vl p i (fun t => vo l (l.length - i + t))) (b := p) (p := 256) (by omega) ⟨h1.1, by omega⟩ ⟨by omega, by omega⟩; rw [show ((l.length - 1 - i : Nat) : Int) = ((l.length - (i + 1) : Nat) : Int) by omega, JE]; refine ⟨Jo (by omega) (by omega), ?_, by omega, ?_⟩
  .rw [Int.mul_comm, Int.add_comm]; exact Jo (by omega) (by omega)
  .rw [Z1 p i l l.length hi, Int.mul_comm, Int.add_comm]
 .rintro _ ⟨_, rfl⟩; have : (fun t => vo l (l.length - l.length + t)) = vo l := by funext t; rw [Nat.sub_self, Nat.zero_add]
  rw [this]; exact h
theorem Ji2 {p : Nat} {M : Int} {mf l : LI} {Q : Int -> Prop} (hp : 2 <= p) (hp2 : p <= 256) (hl : l.length <= 1000) (hc : Cn p l.length (vo l)) (hq : p ^ l.length <= 256) (h : Q (vl p l.length (vo l))) : QU p M mf l Q := by
 refine ⟨Jo (by omega) (by omega), fun z j => ∃ i : Nat, j = (l.length : Int) - 1 - i /\ i <= l.length /\ z = vl p i (fun t => vo l (l.length - i + t)), fun z j => (j + 1).toNat, ⟨0, by omega, Nat.zero_le _, rfl⟩, ?_⟩; rintro _ _ ⟨i, rfl, hi, rfl⟩; dsimp only; refine ⟨fun hge => ?_, fun hlt => ?_⟩
 .have h1 := Z2 hp hc hq (i := i) (by omega); have h2 := Z2 hp hc hq (i := i + 1) (by omega); rw [Z1 p i l l.length (by omega)] at h2; have h3 := Yk (a := vl p i (fun t => vo l (l.length - i + t))) (b := p) (p := 256) (by omega) ⟨h1.1, by omega⟩ ⟨by omega, by omega⟩; rw [show (l.length : Int) - 1 - i = ((l.length - (i + 1) : Nat) : Int) by omega, JE]; refine ⟨Jo (by omega) (by omega), ⟨by omega, by omega⟩, ?_, Jo (by omega) (by omega), ⟨i + 1, by omega, by omega, ?_⟩, by omega⟩
  .rw [Int.mul_comm, Int.add_comm]; exact Jo (by omega) (by omega)
  .rw [Z1 p i l l.length (by omega), Int.mul_comm, Int.add_comm]
 .have hil : i = l.length := by omega
  subst hil; have : (fun t => vo l (l.length - l.length + t)) = vo l := by funext t; rw [Nat.sub_self, Nat.zero_add]
  rw [this]; exact h
theorem Jiz {p m x : Nat} (hp : 0 < p) (hx : x < p ^ m) : vl p (dgi p m x).length (vo (dgi p m x)) = (x : Int) := by
 rw [JD, QO hx, Jiy hp hx]
namespace FV
variable {P M : Int} {mf : LI} {p m v : Nat} (F : FV P M mf p m v)
include F
theorem p2 : 2 <= p := F.pr.two
theorem pq : p <= p ^ m := by
 have := JX (p := p) (by have := F.pr.two; omega) F.m0
 rwa [show p ^ (0 + 1) = p from Nat.pow_one p] at this
theorem p256 : p <= 256 := Nat.le_trans F.pq F.q
theorem m8 : m <= 8 := by
 rcases Nat.lt_or_ge 8 m with h1 | h1
 .have e1 : 2 ^ 9 <= p ^ 9 := Nat.pow_le_pow_left F.p2 9; have e2 := JX (p := p) (by have := F.p2; omega) (show 9 <= m by omega); have := F.q; omega
 .exact h1
theorem ring : CR (p ^ m) (JT p m) (Jq p m (dv p v)) := Jgc _ F.p2 F.m0
theorem gen : ∃ g, Gn (p ^ m) (Jq p m (dv p v)) g := gen_ex F.pr F.m0 F.q F.vlt (fun h => (F.m1 h).2) F.irr
end FV
def sh (v : Vec) : Vec := fun i => if i = 0 then 0 else v (i - 1)
theorem Jja {m : Nat} {c v : Vec} {i : Nat} (hi : i < m) : tX m c v i = sh v i - c i * v (m - 1) := by simp only [tX, if_pos hi, sh]
theorem Ji0 {P M : Int} {mf : LI} {p m v : Nat} (F : FV P M mf p m v) {x : Nat} {Q : LI -> Prop} (hx : x < p ^ m) (h : Q (dgi p m (nm p m (tX m (dv p v) (dv p x))))) : Zi P M mf (dgi p m x) Q := by
 have hp := F.p2; have hp2 := F.p256; have hm0 := F.m0; have hm8 := F.m8; rw [F.eP, F.eM]; have hlen := JD p m x; have hcx := Jb3 (p := p) (by omega) x m; refine ⟨Jo (by omega) (by omega), ⟨by omega, by omega⟩, ⟨by omega, by omega⟩, ⟨by omega, by omega⟩, ?_⟩; generalize hA : (si ((dgi p m x).take ((1 : Int).toNat) ++ (dgi p m x).take (min (dgi p m x).length ((dgi p m x).length - ((1 : Int).toNat))) ++ (dgi p m x).drop ((1 : Int).toNat + (min (dgi p m x).length ((dgi p m x).length - ((1 : Int).toNat))))) (0 : Int) (0 : Int)) = A; have hAl : A.length = m := by
  rw [<- hA]; show (List.set _ _ _).length = m; rw [List.length_set]; simp only [List.length_append, List.length_take, List.length_drop, hlen]; show min 1 m + min (min m (m - 1)) m + (m - (1 + min m (m - 1))) = m; omega
 have hAv : ∀ i, i < m -> vo A i = sh (dv p x) i := fun i hi => by
  unfold sh; rw [<- hA]; show vo (List.set _ 0 0) i = _; rw [JW]; by_cases h0 : i = 0
  .subst h0; rw [if_pos ⟨rfl, by simp only [List.length_append, List.length_take, hlen]; show 0 < min 1 m + _ + _; omega⟩, if_pos rfl]
  .rw [if_neg (fun h => h0 h.1.symm), if_neg h0]; have e1 : ((dgi p m x).take ((1 : Int).toNat)).length = 1 := by rw [List.length_take, hlen]; show min 1 m = 1; omega
   have e2 : (min (dgi p m x).length ((dgi p m x).length - ((1 : Int).toNat))) = m - 1 := by rw [hlen]; show min m (m - 1) = m - 1; omega
   rw [e2]; have e3 : ((dgi p m x).take (m - 1)).length = m - 1 := by rw [List.length_take, hlen]; omega
   unfold vo; rw [List.getD_eq_getElem?_getD, List.append_assoc, List.getElem?_append_right (by omega), e1, List.getElem?_append_left (by omega), List.getElem?_take, if_pos (by omega)]; have := Qj (p := p) (x := x) (i := i - 1) (n := m) (by omega); unfold vo at this; rw [List.getD_eq_getElem?_getD] at this; exact this
 rw [show (m : Int) - 1 = ((m - 1 : Nat) : Int) by omega, JE, Qj (by omega)]; have hshift : ∀ i, i < m -> 0 <= sh (dv p x) i /\ sh (dv p x) i < p := fun i hi => by
  unfold sh; split
  .omega
  .exact hcx (i - 1) (by omega)
 refine ⟨fun h0 => ?_, fun h0 => ?_⟩
 .rw [Zf (p := p) (u := tX m (dv p v) (dv p x)) (by omega) hAl fun i hi => ?_]
  .exact h
  .have := hshift i hi; rw [hAv i hi]; rw [Jja hi, h0, Int.mul_zero, Int.sub_zero, Int.emod_eq_of_lt this.1 this.2]
 .have hml : mf.length <= m := by
   by_cases hm1 : m = 1
   .rw [(F.m1 hm1).1]; simp
   .rw [F.m2 hm1, JD]; omega
  have hcv := Jb3 (p := p) (by omega) v m; have ht := hcx (m - 1) (by omega); refine ⟨fun l z => ∃ k : Nat, z = k /\ k <= mf.length /\ l.length = m /\ ∀ i, i < m -> vo l i = if i < k then tX m (dv p v) (dv p x) i % (p : Int) else vo A i, fun l z => (mf.length - z).toNat, ⟨0, rfl, Nat.zero_le _, hAl, fun i hi => by rw [if_neg (by omega)]⟩, ?_⟩; rintro l _ ⟨k, rfl, hk, hl, hv⟩; dsimp only; rw [JE, JE, Qo, F.vo]; refine ⟨fun hlt => ?_, fun hge => ?_⟩
  .have c1 := hcv k (by omega); have c2 := hshift k (by omega); have c3 := Yk (a := (p : Int) - dv p v k) (b := dv p x (m - 1)) hp2 ⟨by omega, by omega⟩ ⟨ht.1, by omega⟩; rw [hv k (by omega), if_neg (by omega), hAv k (by omega)]; refine ⟨⟨by omega, by omega⟩, ⟨by omega, by omega⟩, Jo (by omega) (by omega), Jo (by omega) (by omega), Jo (by omega) (by omega), by omega, ⟨by omega, by omega⟩, Jo (by omega) (by omega), ⟨k + 1, by push_cast; rfl, by omega, by rw [List.length_set, hl], fun i hi => ?_⟩, by omega⟩; rw [JW]; by_cases hki : k = i
   .subst hki; rw [if_pos ⟨rfl, by omega⟩, if_pos (by omega), Jcj (by omega) c2.1 (by omega) ht.1, Jja hi]
   .rw [if_neg (fun h => hki h.1), hv i hi]; by_cases hik : i < k
    .rw [if_pos hik, if_pos (by omega)]
    .rw [if_neg hik, if_neg (by omega)]
  .rw [Zf (p := p) (u := tX m (dv p v) (dv p x)) (by omega) hl fun i hi => ?_]
   .exact h
   .rw [hv i hi]; by_cases hik : i < k
    .rw [if_pos hik]
    .rw [if_neg hik]; have hm1 : m = 1 := by
      by_cases hm1 : m = 1
      .exact hm1
      .rw [F.m2 hm1, JD] at hge hk; omega
     have hi0 : i = 0 := by omega
     rw [hAv i hi, Jja hi, (F.m1 hm1).2, Jbi]; subst hi0; simp [sh, vz]
theorem hz_z {m : Nat} {c b y : Vec} {n : Nat} : ∀ {k : Nat}, k <= n -> (∀ i, n - k <= i -> i < n -> b i = 0) -> hz m c b y n k = vz
 | 0, _, _ => rfl
 | k + 1, hk, h => by
  show Jz (tX m c (hz m c b y n k)) (vsm (b (n - 1 - k)) y) = vz; rw [hz_z (k := k) (by omega) (fun i h1 h2 => h i (by omega) h2), h (n - 1 - k) (by omega) (by omega), tX_z]; funext i; simp [Jz, vsm, vz]
theorem hz_sup {m : Nat} {c b y : Vec} {n : Nat} (hy : Sup m y) : ∀ k, Sup m (hz m c b y n k)
 | 0 => Sup.z
 | k + 1 => Sup.add Sup.tX hy.sm
theorem rep_z (p m : Nat) : List.replicate m (0 : Int) = dgi p m 0 := Jab (by simp [JD]) fun i hi => by
 rw [Je0, Qj (by simpa using hi), Jbi]; rfl
theorem nm_z {p m : Nat} (hp : 0 < p) : nm p m vz = 0 := by rw [<- Jbi p, YN hp (Nat.pow_pos hp)]
theorem Jhl {P M : Int} {mf : LI} {p m v : Nat} (F : FV P M mf p m v) {o : LI} {x y : Nat} {Q : LI -> Prop} (ho : o.length = m) (hx : x < p ^ m) (hy : y < p ^ m) (h : Q (dgi p m (Jq p m (dv p v) x y))) : YC P M mf o (dgi p m x) (dgi p m y) Q := by
 have hp := F.p2; have hp2 := F.p256; have hm0 := F.m0; have hm8 := F.m8; obtain rfl := F.eP; obtain rfl := F.eM; have hlx := JD p m x; have hly := JD p m y; have hcx := Jb3 (p := p) (by omega) x m; have hcy := Jb3 (p := p) (by omega) y m; refine ⟨Jo (by omega) (by omega), fun z => ∃ k : Nat, z = k /\ k < m /\ ∀ i, k < i -> i < m -> dv p y i = 0, ⟨fun z => ∃ k : Nat, z = k /\ k < m /\ ∀ i, k < i -> i < m -> dv p y i = 0, fun z => z.toNat, ⟨m - 1, by omega, by omega, fun i h1 h2 => by omega⟩, ?_⟩, ?_⟩
 .rintro _ ⟨k, rfl, hk, hzz⟩; dsimp only; refine ⟨fun hlt => ⟨⟨by omega, by omega⟩, fun h0 => ⟨Jo (by omega) (by omega), ⟨k - 1, by omega, by omega, fun i h1 h2 => ?_⟩, by omega⟩, fun _ => ⟨k, rfl, hk, hzz⟩⟩, fun _ => ⟨k, rfl, hk, hzz⟩⟩; rw [JE, Qj hk] at h0; by_cases hik : i = k
  .subst hik; exact h0
  .exact hzz i (by omega) h2
 .rintro _ ⟨k0, rfl, hk0, hzz⟩; refine ⟨fun l z => ∃ k : Nat, z = (m : Int) - 1 - k /\ k <= m /\ l = dgi p m (nm p m (hz m (dv p v) (dv p y) (dv p x) m k)), fun l z => (z + 1).toNat, ⟨m - 1 - k0, by omega, by omega, ?_⟩, ?_⟩
  .rw [hz_z (by omega) (fun i h1 h2 => hzz i (by omega) h2), nm_z (by omega), ho, rep_z p m]
  .rintro _ _ ⟨k, rfl, hk, rfl⟩; dsimp only; refine ⟨fun hge => Ji0 F (YM (by omega) _) ?_, fun hlt => ?_⟩
   .have hs := hz_sup (c := dv p v) (b := dv p y) (n := m) (Qp hx) k; rw [Q1 (vcg.tX (vcg.refl _) (Jeo (by omega) hs))]; generalize hT : tX m (dv p v) (hz m (dv p v) (dv p y) (dv p x) m k) = T; have hnT := YM (p := p) (m := m) (by omega) T; refine ⟨fun l z => ∃ t : Nat, z = t /\ t <= m /\ l.length = m /\ ∀ i, i < m -> vo l i = if i < t then (T i + dv p y (m - 1 - k) * dv p x i) % (p : Int) else T i % (p : Int), fun l z => (m - z).toNat, ⟨0, rfl, Nat.zero_le _, JD _ _ _, fun i hi => by rw [if_neg (by omega), Qj hi, Jg4 (by omega) _ hi]⟩, ?_⟩; rintro l _ ⟨t, rfl, ht, hl, hv⟩; dsimp only; rw [show (m : Int) - 1 - k = ((m - 1 - k : Nat) : Int) by omega, JE, JE, JE, Qo]; rw [hlx]; refine ⟨fun hlt => ?_, fun hge2 => ?_⟩
    .rw [hv t (by omega), if_neg (by omega), Qj (by omega), Qj (by omega)]; have c1 := hcy (m - 1 - k) (by omega); have c2 := hcx t (by omega); have c3 := Yk (a := dv p y (m - 1 - k)) (b := dv p x t) hp2 ⟨c1.1, by omega⟩ ⟨c2.1, by omega⟩; have c4 : 0 <= T t % (p : Int) /\ T t % (p : Int) < p := ⟨Int.emod_nonneg _ (by omega), Int.emod_lt_of_pos _ (by omega)⟩
     refine ⟨⟨by omega, by omega⟩, ⟨by omega, by omega⟩, ⟨by omega, by omega⟩, Jo (by omega) (by omega), Jo (by omega) (by omega), by omega, ⟨by omega, by omega⟩, Jo (by omega) (by omega), ⟨t + 1, by push_cast; rfl, by omega, by rw [List.length_set, hl], fun i hi => ?_⟩, by omega⟩; rw [JW]; by_cases hti : t = i
     .subst hti; rw [if_pos ⟨rfl, by omega⟩, if_pos (by omega), Int.tmod_eq_emod_of_nonneg (by omega)]; exact ZI (Int.emod_emod _ _) rfl
     .rw [if_neg (fun h => hti h.1), hv i hi]; by_cases hit : i < t
      .rw [if_pos hit, if_pos (by omega)]
      .rw [if_neg hit, if_neg (by omega)]
    .refine ⟨Jo (by omega) (by omega), ⟨k + 1, by omega, by omega, ?_⟩, by omega⟩; refine Zf (by omega) hl fun i hi => ?_; rw [hv i hi, if_pos (by omega)]; show _ = (Jz (tX m (dv p v) (hz m (dv p v) (dv p y) (dv p x) m k)) (vsm (dv p y (m - 1 - k)) (dv p x))) i % _; rw [hT]; rfl
   .have hkm : k = m := by omega
    subst hkm; rw [hz_all]; exact h
def pwl (M : Nat -> Nat -> Nat) (x n : Nat) : LI := (List.range n).map fun k => ((pw M x k : Nat) : Int)
theorem Yq (M : Nat -> Nat -> Nat) (x n : Nat) : (pwl M x n).length = n := by simp [pwl]
theorem Jam {M : Nat -> Nat -> Nat} {x n i : Nat} (h : i < n) : vo (pwl M x n) i = ((pw M x i : Nat) : Int) := by
 unfold vo pwl; rw [List.getD_eq_getElem?_getD, List.getElem?_map, List.getElem?_range h]; rfl
theorem Jjj (M : Nat -> Nat -> Nat) (x n : Nat) : pwl M x (n + 1) = pwl M x n ++ [((pw M x n : Nat) : Int)] := by simp [pwl, List.range_succ]
structure Od (M : Nat -> Nat -> Nat) (x n : Nat) : Prop where
  pos : 0 < n
  one : pw M x n = 1
  least : ∀ k, 0 < k -> k < n -> pw M x k ≠ 1
theorem Ji5 {P M : Int} {mf : LI} {p m v : Nat} (F : FV P M mf p m v) {x : Nat} {Q : LI -> Prop} (h0 : 0 < x) (hx : x < p ^ m)
  (h : ∀ n, Od (Jq p m (dv p v)) x n -> n <= p ^ m - 1 -> Q (pwl (Jq p m (dv p v)) x n)) : Zn P M mf x Q := by
 have hp := F.p2; have hp2 := F.p256; have hm0 := F.m0; have hm8 := F.m8; have hq := F.q; have R := F.ring; obtain ⟨g, G⟩ := F.gen; have hone := G.xone R h0 hx; have hq2 := R.q2; obtain rfl := F.eP; obtain rfl := F.eM; refine Jcd hp hp2 fun r hr _ => ?_; rw [Int.toNat_natCast] at hr; rw [hr hq]; refine ⟨⟨by omega, by omega, by omega⟩, by omega, _, Jae (by omega) (by omega) (by omega) rfl, _, Jae (by omega) (by omega) (by omega) rfl, ⟨by omega, by omega, by omega⟩, ?_⟩; refine ⟨fun l z a b => ∃ k : Nat, 0 < k /\ k <= p ^ m - 1 /\ l = pwl (Jq p m (dv p v)) x k /\ z = ((pw (Jq p m (dv p v)) x k : Nat) : Int) /\ a = dgi p m (pw (Jq p m (dv p v)) x k) /\ b.length = m /\ ∀ j, 0 < j -> j < k -> pw (Jq p m (dv p v)) x j ≠ 1, fun l z a b => 300 - l.length, ⟨1, by omega, by omega, rfl, by rw [R.pw_one hx], by rw [R.pw_one hx], by simp, fun j h1 h2 => by omega⟩, ?_⟩; rintro _ _ _ b ⟨k, hk0, hk, rfl, rfl, rfl, hb, hno⟩; dsimp only; refine ⟨fun hne => ?_, fun heq => ?_⟩
 .have hkq : k < p ^ m - 1 := by
   rcases Nat.lt_or_ge k (p ^ m - 1) with hc | hc
   .exact hc
   .have : k = p ^ m - 1 := by omega
    rw [this, hone] at hne; exact absurd rfl hne
  rw [Yq]; refine ⟨by omega, ?_⟩; refine Jhl F hb (R.pw_lt x k) hx ?_; have hlt := R.pw_lt x (k + 1); refine Jce hp hp2 (by rw [JD]; exact ZH (by omega) hlt _) (by rw [JD]; exact hq) ?_; have hvd := Jiz (p := p) (m := m) (by omega) hlt; refine ⟨⟨k + 1, by omega, by omega, (Jjj _ _ _).symm, hvd, rfl, JD _ _ _, fun j h1 h2 => ?_⟩, ?_⟩
  .by_cases hjk : j = k
   .subst hjk; intro e; rw [e] at hne; exact hne rfl
   .exact hno j h1 (by omega)
  .rw [List.length_append, Yq]; simp; omega
 .refine h k ⟨hk0, ?_, hno⟩ hk; have : ((pw (Jq p m (dv p v)) x k : Nat) : Int) = 1 := by
   by_cases hc : ((pw (Jq p m (dv p v)) x k : Nat) : Int) = 1
   .exact hc
   .exact absurd hc heq
  omega
end Go.Proofs.Ytbdmnolcmeojbaa
namespace Go.Proofs.Ytbdmnolcmeojbaa
theorem gb_nat (l : List Bool) (i : Nat) : gb l (i : Int) = l.getD i false := rfl
theorem Jjc (l : List Bool) (i : Nat) (x : Bool) : sb l (i : Int) x = l.set i x := rfl
theorem Yw (l : List Bool) (i j : Nat) (x : Bool) : (l.set i x).getD j false = if i = j /\ i < l.length then x else l.getD j false := by
 rw [List.getD_eq_getElem?_getD, List.getD_eq_getElem?_getD, List.getElem?_set]; by_cases h : i = j
 .subst h; by_cases h2 : i < l.length
  .simp [h2]
  .simp [h2]
 .simp [h]
theorem Jk7 {P M : Int} {mf : LI} {p m v : Nat} (F : FV P M mf p m v) {Q : LI -> Prop}
  (h : ∀ g, Gn (p ^ m) (Jq p m (dv p v)) g -> Q (pwl (Jq p m (dv p v)) g (p ^ m - 1))) : Z6 ⟨P, M, mf, ((p ^ m : Nat) : Int), [], [], []⟩ Q := by
 have hq := F.q; have R := F.ring; have hq2 := R.q2; obtain ⟨g0, G0⟩ := F.gen; generalize hqq : p ^ m = q at *
 generalize hMM : Jq p m (dv p v) = Mu at *
 refine ⟨⟨by show (0 : Int) <= q; omega, by show (q : Int) * 1 <= _; omega, by show (q : Int) <= _; omega⟩, ⟨by omega, by show (0 : Int) < ((((q : Nat) : Int).toNat : Nat) : Int); omega⟩, ?_⟩; refine ⟨Qn (by omega), fun i x s => s.length = q /\ s.getD 0 false = true /\ (∀ j, j < i -> ¬ Gn q Mu j) /\ ∀ j, j < q -> s.getD j false = true -> ¬ Gn q Mu j, fun x s => ∃ g, Gn q Mu g /\ x = pwl Mu g (q - 1), ?_, ?_, ?_, ?_⟩
 .have h0 : ¬ Gn q Mu 0 := fun G => by
   have := G.one; rw [R.zero_pw (by omega)] at this; omega
  dsimp only; rw [show (0 : Int) = ((0 : Nat) : Int) from rfl, Jjc]; refine ⟨by rw [List.length_set, List.length_replicate]; exact Int.toNat_natCast q, ?_, fun j hj => by omega, fun j hj hs => ?_⟩
  .rw [Yw, if_pos ⟨rfl, by rw [List.length_replicate, Int.toNat_natCast]; omega⟩]
  .rw [Yw] at hs; by_cases hj0 : 0 = j
   .rw [<- hj0]; exact h0
   .rw [if_neg (fun h => hj0 h.1), List.getD_eq_getElem?_getD, List.getElem?_replicate] at hs; split at hs <;> exact absurd hs (by decide)
 .rintro i hi x s ⟨hs, hs0, hno, hsn⟩; dsimp only at hi ⊢; rw [Int.toNat_natCast] at hi; rw [gb_nat]; refine ⟨⟨by omega, by rw [Int.toNat_natCast]; omega⟩, fun hb => ⟨hs, hs0, fun j hj => ?_, hsn⟩, fun hb => ?_⟩
  .by_cases hji : j = i
   .subst hji; exact hsn j hi hb
   .exact hno j (by omega)
  .have hi0 : 0 < i := by
    rcases Nat.eq_zero_or_pos i with h0 | h0
    .subst h0; rw [hs0] at hb; exact absurd hb (by decide)
    .exact h0
   refine Ji5 F hi0 (by rw [hqq]; exact hi) fun n O hn => ?_; rw [hMM] at O ⊢; rw [hqq] at hn; rw [Yq]; refine ⟨Jo (by omega) (by omega), fun he => ?_, fun hne => ?_⟩
   .have hnq : n = q - 1 := by omega
    subst hnq; exact ⟨i, ⟨hi, O.one, O.least⟩, rfl⟩
   .have hnq : n < q - 1 := by omega
    have hnG : ∀ k, ¬ Gn q Mu (pw Mu i k) := fun k G => by
     have h1 : pw Mu (pw Mu i k) n = 1 := by rw [R.pw_pw hi, Nat.mul_comm, <- R.pw_pw hi, O.one, R.one_pw]
     exact G.no n O.pos hnq h1
    refine ⟨fun s' z => ∃ k : Nat, z = k /\ k <= n /\ s'.length = q /\ s'.getD 0 false = true /\ ∀ j, j < q -> s'.getD j false = true -> ¬ Gn q Mu j, fun s' z => (n - z).toNat, ⟨0, rfl, Nat.zero_le _, hs, hs0, hsn⟩, ?_⟩; rintro s' _ ⟨k, rfl, hk, hs', hs0', hsn'⟩; dsimp only; rw [JE]; refine ⟨fun hlt => ?_, fun hge => ⟨hs', hs0', fun j hj => ?_, hsn'⟩⟩
    .rw [Jam (by omega), Jjc]; have hlt2 := R.pw_lt i k; refine ⟨⟨by omega, by omega⟩, ⟨by omega, by rw [Int.toNat_natCast]; omega⟩, Jo (by omega) (by omega), ⟨k + 1, by push_cast; rfl, by omega, by rw [List.length_set, hs'], ?_, fun j hj hj2 => ?_⟩, by omega⟩
     .rw [Yw]; split
      .rfl
      .exact hs0'
     .rw [Yw] at hj2; by_cases hjk : pw Mu i k = j
      .rw [<- hjk]; exact hnG k
      .rw [if_neg (fun h => hjk h.1)] at hj2; exact hsn' j hj hj2
    .by_cases hji : j = i
     .subst hji; have := hnG 1
      rwa [R.pw_one hi] at this
     .exact hno j (by omega)
 .rintro x s ⟨hs, hs0, hno, hsn⟩; have := G0.lt; exact absurd G0 (hno g0 (by show g0 < ((q : Nat) : Int).toNat; rw [Int.toNat_natCast]; exact this))
 .rintro x s ⟨g, G, rfl⟩; exact h g G
structure GFk (F : GFv) (p m v g : Nat) : Prop where
  fv : FV F.P F.M F.mod p m v
  q : F.q = ((p ^ m : Nat) : Int)
  G : Gn (p ^ m) (Jq p m (dv p v)) g
  el : F.exp.length = 2 * (p ^ m - 1)
  ev : ∀ k, k < 2 * (p ^ m - 1) -> vo F.exp k = ((pw (Jq p m (dv p v)) g k : Nat) : Int)
  ll : F.log.length = p ^ m
  l0 : vo F.log 0 = -1
  lv : ∀ k, k < p ^ m - 1 -> vo F.log (pw (Jq p m (dv p v)) g k) = (k : Int)
  al : F.above.length = p ^ m - 1
  av : ∀ k, k < p ^ m - 1 -> vo F.above k = vo F.log (JT p m (pw (Jq p m (dv p v)) g k) 1)
theorem Jho {p m x : Nat} (hp : 2 <= p) (hm : 0 < m) (hx : x < p ^ m) : (if x % p = p - 1 then x - x % p else x + 1) = JT p m x 1 := by
 have hmd := Nat.mod_add_div x p; have hlt := Nat.mod_lt x (show 0 < p by omega); obtain ⟨n, rfl⟩ : ∃ n, m = n + 1 := ⟨m - 1, by omega⟩
 have hxd : x / p < p ^ n := by rw [Nat.div_lt_iff_lt_mul (by omega), <- Nat.pow_succ]; exact hx
 generalize hA : x / p = a at *
 generalize hR : x % p = r at *
 have key : ∀ y s, y = s + p * a -> s < p -> s = (r + 1) % p -> y = JT p (n + 1) x 1 := fun y s hy hs hsr => by
  have hyd : y / p = a := by rw [hy, Nat.add_mul_div_left _ _ (by omega), Nat.div_eq_of_lt hs, Nat.zero_add]
  have hym : y % p = s := by rw [hy, Nat.add_mul_mod_self_left, Nat.mod_eq_of_lt hs]
  have hyl : y < p ^ (n + 1) := by
   have h1 : p * (a + 1) <= p * p ^ n := Nat.mul_le_mul_left p hxd; rw [Nat.pow_succ', hy]; rw [Nat.mul_add, Nat.mul_one] at h1; omega
  refine (nm_eq (by omega) hyl fun i hi => ?_).symm; cases i with
  | zero =>
   simp only [Jz]; rw [Q6, Q6, Q6, hym, hR, Nat.mod_eq_of_lt (show 1 < p by omega), hsr]; push_cast; rfl
  | succ i =>
   simp only [Jz]; rw [Yx, Yx, Yx, hyd, hA, Nat.div_eq_of_lt (show 1 < p by omega), Jbi]; simp only [vz]; rw [Int.add_zero, YS]
 by_cases hc : r = p - 1
 .rw [if_pos hc]; refine key (x - r) 0 (by omega) (by omega) ?_; rw [hc, show p - 1 + 1 = p by omega, Nat.mod_self]
 .rw [if_neg hc]; exact key (x + 1) (r + 1) (by omega) (by omega) (Nat.mod_eq_of_lt (by omega)).symm
theorem vo_app {a b : LI} {i : Nat} : vo (a ++ b) i = if i < a.length then vo a i else vo b (i - a.length) := by
 unfold vo; rw [List.getD_eq_getElem?_getD]; split
 .rename_i h
  rw [List.getElem?_append_left h, List.getD_eq_getElem?_getD]
 .rename_i h
  rw [List.getElem?_append_right (by omega), List.getD_eq_getElem?_getD]
theorem v_New {P M : Int} {mf : LI} {Q : Option GFv × Int -> Prop} (hno : ¬ Ja9 P M mf -> Q (none, 1)) (h : ∀ (F : GFv) (p m v g : Nat), GFk F p m v g -> F.P = P -> F.M = M -> F.mod = mf -> Q (some F, 0)) : Jhf P M mf Q := by
 refine Jk9 ?_; by_cases hV : Ja9 P M mf
 .rw [Jb4 hV]; refine ⟨fun h1 => absurd rfl h1, fun _ => ?_⟩; obtain ⟨p, m, v, F⟩ := hV; obtain rfl := F.eP; obtain rfl := F.eM; have hp := F.p2; have hp2 := F.p256; have hm0 := F.m0; have hm8 := F.m8; have hq := F.q; have R := F.ring; have hq2 := R.q2; have hml : mf.length <= 1000000 := by
   by_cases hm1 : m = 1
   .rw [(F.m1 hm1).1]; simp
   .rw [F.m2 hm1, JD]; omega
  have hJ : Zo p m mf (fun q => match q with | (r27, r28, x29) => Q9 p m mf (fun r34 => r27 = p /\ r28 = m /\ x29 = mf /\ r34 = ((p ^ m : Nat) : Int))) := Jcf hml (Jcd hp hp2 fun r hr _ => by
   rw [Int.toNat_natCast] at hr; exact ⟨rfl, rfl, rfl, hr hq⟩)
  refine ⟨fun a b c d => a = p /\ b = m /\ c = mf /\ d = ((p ^ m : Nat) : Int), hJ, ?_⟩; rintro _ _ _ _ ⟨rfl, rfl, rfl, rfl⟩; refine Jk7 F fun g G => ?_; have hg := G.lt; generalize hqq : p ^ m = q at *
  generalize hMM : Jq p m (dv p v) = Mu at *
  rw [Yq]; have hql : (List.replicate ((q : Nat) : Int).toNat (0 : Int)).length = q := by rw [List.length_replicate, Int.toNat_natCast]
  rw [Int.toNat_natCast, Int.toNat_natCast]; rw [Int.toNat_natCast] at hql; refine ⟨⟨by omega, by omega, by omega⟩, ⟨by omega, by omega, by omega⟩, ⟨by omega, by omega⟩, ?_⟩; refine ⟨fun l z => ∃ k : Nat, z = k /\ k <= q - 1 /\ l.length = q /\ vo l 0 = -1 /\ ∀ t, t < k -> vo l (pw Mu g t) = (t : Int), fun l z => (q - z).toNat, ⟨0, rfl, Nat.zero_le _, ?_, ?_, fun t ht => by omega⟩, ?_⟩
  .rw [show (0 : Int) = ((0 : Nat) : Int) from rfl, Qo, List.length_set]; exact hql
  .rw [show si (List.replicate q (0 : Int)) 0 (-1) = (List.replicate q (0 : Int)).set 0 (-1) from rfl, JW, if_pos ⟨rfl, by rw [hql]; omega⟩]
  .rintro l _ ⟨k, rfl, hk, hl, hl0, hlv⟩; dsimp only; rw [JE]; refine ⟨fun hlt => ?_, fun hge => ?_⟩
   .rw [Jam (by omega), Qo]; have hlt2 := R.pw_lt g k; refine ⟨⟨by omega, by omega⟩, ⟨by omega, by omega⟩, Jo (by omega) (by omega), ⟨k + 1, by push_cast; rfl, by omega, by rw [List.length_set, hl], ?_, fun t ht => ?_⟩, by omega⟩
    .rw [JW, if_neg (fun h => G.ne0 R k h.1)]; exact hl0
    .rw [JW]; by_cases htk : t = k
     .subst htk; rw [if_pos ⟨rfl, by rw [hl]; exact hlt2⟩]
     .rw [if_neg (fun h => G.inj R (show t < k by omega) (by omega) h.1.symm)]; exact hlv t (by omega)
   .have hkq : k = q - 1 := by omega
    subst hkq; refine ⟨⟨by omega, by omega, by omega⟩, fun a z => ∃ k : Nat, z = k /\ k <= q - 1 /\ a.length = q - 1 /\ ∀ t, t < k -> vo a t = vo l (JT p m (pw Mu g t) 1), fun a z => (q - z).toNat, ⟨0, rfl, Nat.zero_le _, by simp, fun t ht => by omega⟩, ?_⟩; rintro a _ ⟨k, rfl, hk, hal, hav⟩; dsimp only; rw [JE]; refine ⟨fun hlt => ?_, fun hge => ?_⟩
    .rw [Jam (by omega)]; have hlt2 := R.pw_lt g k; have hsl := R.Al (pw Mu g k) 1; have hsf := Jho hp hm0 (x := pw Mu g k) (by rw [hqq]; exact hlt2); refine ⟨⟨by omega, by omega⟩, _, Jdk hp hp2 (by omega) rfl, ?_⟩; rw [hsf, JE, Qo]; refine ⟨⟨by omega, by omega⟩, ⟨by omega, by omega⟩, Jo (by omega) (by omega), ⟨k + 1, by push_cast; rfl, by omega, by rw [List.length_set, hal], fun t ht => ?_⟩, by omega⟩; rw [JW]; by_cases htk : k = t
     .subst htk; rw [if_pos ⟨rfl, by omega⟩]
     .rw [if_neg (fun h => htk h.1)]; exact hav t (by omega)
    .have hkq : k = q - 1 := by omega
     subst hkq; subst hMM; subst hqq; refine h _ p m v g ⟨F, rfl, G, ?_, fun k hk2 => ?_, hl, hl0, hlv, hal, hav⟩ rfl rfl rfl
     .simp only [List.length_append, Yq]; omega
     .show vo (pwl _ g _ ++ pwl _ g _) k = _; rw [vo_app, Yq]; by_cases hkl : k < p ^ m - 1
      .rw [if_pos hkl, Jam hkl]
      .rw [if_neg hkl, Jam (by omega)]; have := G.per R (k - (p ^ m - 1)) 1; rw [Nat.mul_one, show k - (p ^ m - 1) + (p ^ m - 1) = k by omega] at this; rw [this]
 .rw [Qz hV]; exact ⟨fun _ => hno hV, fun h1 => absurd (show (1 : Int) ≠ 0 by decide) h1⟩
end Go.Proofs.Ytbdmnolcmeojbaa
namespace Go.Proofs.Ytbdmnolcmeojbaa
def inE (q : Nat) (x : Int) : Nat := if 0 <= x /\ x < q then x.toNat else 0
theorem JS {q : Nat} (hq : 0 < q) (x : Int) : inE q x < q := by unfold inE; split <;> omega
theorem Yv {q x : Nat} (h : x < q) : inE q (x : Int) = x := by unfold inE; rw [if_pos (by omega)]; rfl
section
variable {P M : Int} {mf : LI} {p m v : Nat}
theorem FV.ord (F : FV P M mf p m v) : Jbf P M = ((p ^ m : Nat) : Int) := by
 rw [F.eP, F.eM, Jbf, if_pos]
 .simp
 .have := F.p2; have := F.m0; have := F.q; exact ⟨by omega, by omega, by simpa using this⟩
theorem FV.i64 (F : FV P M mf p m v) : I64 P := by
 have := F.p256; rw [F.eP]; exact Jo (by omega) (by omega)
theorem v_rIs (F : FV P M mf p m v) {x : Int} {Q : Bool -> Prop} (h : Q (decide (0 <= x /\ x < ((p ^ m : Nat) : Int)))) : Jhd P M mf x Q := by
 refine ⟨fun h0 => Qw ?_, fun h0 => ?_⟩
 .rw [F.ord]; simpa [h0] using h
 .simpa [h0] using h
theorem Jbq (F : FV P M mf p m v) {x : Int} {Q : Int -> Prop} (h : Q ((inE (p ^ m) x : Nat) : Int)) : Zl P M mf x Q := by
 refine v_rIs F ⟨fun hb => ?_, fun hb => ?_⟩
 .have hb := of_decide_eq_true hb; unfold inE at h; rw [if_pos hb] at h
  rwa [Int.toNat_of_nonneg hb.1] at h
 .have hb := of_decide_eq_false hb; unfold inE at h; rw [if_neg hb] at h; exact h
theorem Yp (F : FV P M mf p m v) {x : Int} {Q : LI -> Prop} (h : Q (dgi p m (inE (p ^ m) x))) : Qs P M mf x Q := by
 have hp := F.p2; have hq := F.q; have hm8 := F.m8; have hlt := JS F.ring.pos x; refine ⟨_, Jbq F rfl, _, ?_, h⟩; rw [F.eP, F.eM]; exact Jbp (by omega) (by omega) (by omega) rfl
theorem Ji3 (F : FV P M mf p m v) {l : LI} {u : Vec} {Q : Int -> Prop} (hl : l.length = m) (hv : ∀ i, i < m -> vo l i = u i % (p : Int)) (h : Q ((nm p m u : Nat) : Int)) : QU P M mf l Q := by
 have hp := F.p2; rw [Zf (by omega) hl hv, F.eP]; have hlt := YM (p := p) (m := m) (by omega) u; refine Ji2 hp F.p256 (by rw [JD]; have := F.m8; omega) (by rw [JD]; exact ZH (by omega) hlt _) (by rw [JD]; exact F.q) ?_; rw [Jiz (by omega) hlt]; exact h
end
theorem Jcn {p m : Nat} {c w w' u : Vec} {s : Int} {k : Nat} (hk : w' k % (p : Int) = (w k + s) % (p : Int)) (ho : ∀ i, i ≠ k -> w' i = w i) : ∀ n, vcg p (opr m c w' n u) (Jz (opr m c w n u) (if k < n then vsm s (tXn m c k u) else vz))
  | 0 => fun i => by simp [opr, Jz, vz]
  | n + 1 => fun i => by
    have ih := Jcn hk ho (m := m) (c := c) (u := u) n i
    show (opr m c w' n u i + w' n * tXn m c n u i) % (p : Int) = ((opr m c w n u i + w n * tXn m c n u i) + (if k < n + 1 then vsm s (tXn m c k u) else vz) i) % (p : Int)
    rcases Nat.lt_trichotomy k n with h | h | h
    . rw [if_pos (by omega)]
      rw [if_pos h] at ih
      rw [ho n (by omega)]
      have := ZI ih (rfl : (w n * tXn m c n u i) % (p : Int) = _)
      rw [this]
      congr 1
      show opr m c w n u i + (vsm s (tXn m c k u)) i + _ = _
      omega
    . subst h
      rw [if_pos (by omega)]
      rw [if_neg (by omega)] at ih
      have := ZI ih (Zz hk (rfl : (tXn m c k u i) % (p : Int) = _))
      rw [this]
      congr 1
      show opr m c w k u i + 0 + (w k + s) * tXn m c k u i = _ + s * tXn m c k u i
      rw [Int.add_mul]; omega
    . rw [if_neg (by omega)]
      rw [if_neg (by omega)] at ih
      rw [ho n (by omega)]
      have := ZI ih (rfl : (w n * tXn m c n u i) % (p : Int) = _)
      rw [this]
      congr 1
      show opr m c w n u i + 0 + _ = _ + 0
      omega
theorem Xm {m : Nat} {c : Vec} (hm : 0 < m) : tXn m c m e0 = vsm (-1) (opr m c c m e0) := by
 obtain ⟨n, rfl⟩ : ∃ n, m = n + 1 := ⟨m - 1, by omega⟩
 show tX (n + 1) c (tXn (n + 1) c n e0) = _; rw [Je5 (by omega)]; funext i; simp only [vsm]; rw [Jco (Nat.le_refl _)]; simp only [tX, vei]; by_cases hi : i < n + 1
 .rw [if_pos hi, if_pos hi]; have e1 : (if i = 0 then (0 : Int) else if i - 1 = n then 1 else 0) = 0 := by
   split
   .rfl
   .rw [if_neg (by omega)]
  rw [e1, show n + 1 - 1 = n by omega, if_pos rfl]; omega
 .rw [if_neg hi, if_neg hi]; rfl
section
variable {P M : Int} {mf : LI} {p m v : Nat}
theorem Jcc (F : FV P M mf p m v) {x y : Int} {Q : Int -> Prop} (h : Q ((Jq p m (dv p v) (inE (p ^ m) x) (inE (p ^ m) y) : Nat) : Int)) : YX P M mf x y Q := by
 have hp := F.p2; have hp2 := F.p256; have hm0 := F.m0; have hm8 := F.m8; have hx := JS F.ring.pos x; have hy := JS F.ring.pos y; refine Yp F (Yp F ?_); obtain rfl := F.eP; obtain rfl := F.eM; generalize inE (p ^ m) x = a at *
 generalize inE (p ^ m) y = b at *
 rw [ZB hx hy] at h; have hla := JD p m a; have hlb := JD p m b; have hva := QO hx; have hvb := QO hy; have hsa := Qp hx; have hsb := Qp hy; have hN : (2 * (m : Int) - 1).toNat = 2 * m - 1 := by omega
 have e2 : (2 * (m : Int) - 1) = ((2 * m - 1 : Nat) : Int) := by omega
 rw [e2]; generalize hNN : 2 * m - 1 = N at *
 rw [Int.toNat_natCast]; have hself := Yf (c := dv p v) hsb; refine ⟨Jo (by omega) (by omega), Qn (by omega), ⟨by omega, by omega, by omega⟩, ?_⟩; refine ⟨fun l z => ∃ k : Nat, z = k /\ k <= m /\ l.length = N /\ Cn p N (vo l) /\ vcg p (opr m (dv p v) (vo l) N e0) (opr m (dv p v) (dv p a) k (dv p b)), fun l z => (m - z).toNat, ⟨0, rfl, Nat.zero_le _, by simp, fun i hi => by rw [Je0]; omega, ?_⟩, ?_⟩
 .have : vo (List.replicate N (0 : Int)) = vz := by funext i; rw [Je0]; rfl
  rw [this]; have h0 : ∀ n, opr m (dv p v) vz n e0 = vz := fun n => by
   induction n with
   | zero => rfl
   | succ n ih => show Jz (opr m (dv p v) vz n e0) (vsm (vz n) _) = vz; rw [ih]; funext i; simp [Jz, vsm, vz]
  rw [h0]; exact vcg.refl _
 rintro l _ ⟨i, rfl, hi, hl, hcn, hE⟩; dsimp only; refine ⟨fun hlt => ?_, fun hge => ?_⟩
 .refine ⟨fun r z => ∃ j : Nat, z = j /\ j <= m /\ r.length = N /\ Cn p N (vo r) /\ vcg p (opr m (dv p v) (vo r) N e0) (Jz (opr m (dv p v) (dv p a) i (dv p b)) (vsm (dv p a i) (tXn m (dv p v) i (opr m (dv p v) (dv p b) j e0)))), fun r z => (m - z).toNat, ⟨0, rfl, Nat.zero_le _, hl, hcn, ?_⟩, ?_⟩
  .show vcg p _ (Jz _ (vsm _ (tXn m (dv p v) i vz))); rw [Jdn, Jgf, YO]; exact hE
  rintro r _ ⟨j, rfl, hj, hr, hcr, hEr⟩; dsimp only; rw [show (i : Int) + (j : Int) = ((i + j : Nat) : Int) by push_cast; rfl, JE, JE, JE, Qo, hva, hvb]; refine ⟨fun hltj => ?_, fun hgej => ?_⟩
  .have c1 := Jb2 (p := p) (by omega) a i; have c2 := Jb2 (p := p) (by omega) b j; have c3 := hcr (i + j) (by omega); have c4 := Yk (a := dv p a i) (b := dv p b j) hp2 ⟨c1.1, by omega⟩ ⟨c2.1, by omega⟩; refine ⟨Qn (by omega), Qn (by omega), ⟨by omega, by omega⟩, ⟨by omega, by omega⟩, ⟨by omega, by omega⟩, Jo (by omega) (by omega), Jo (by omega) (by omega), by omega, ⟨by omega, by omega⟩, Jo (by omega) (by omega), ⟨j + 1, by push_cast; rfl, by omega, by rw [List.length_set, hr], fun t ht => ?_, ?_⟩, by omega⟩
   .rw [JW]; split
    .rw [Int.tmod_eq_emod_of_nonneg (by omega)]; exact ⟨Int.emod_nonneg _ (by omega), Int.emod_lt_of_pos _ (by omega)⟩
    .exact hcr t ht
   .have hup := Jcn (p := p) (m := m) (c := dv p v) (w := vo r) (w' := vo (r.set (i + j) ((vo r (i + j) + dv p a i * dv p b j).tmod p))) (u := e0) (s := dv p a i * dv p b j) (k := i + j) (by
     rw [JW, if_pos ⟨rfl, by omega⟩, Int.tmod_eq_emod_of_nonneg (by omega), Int.emod_emod]) (fun t ht => by rw [JW, if_neg (fun h => ht h.1.symm)]) N
    rw [if_pos (by omega)] at hup; refine hup.trans ((hEr.add (vcg.refl _)).trans ?_); show vcg p _ (Jz _ (vsm _ (tXn m (dv p v) i (Jz (opr m (dv p v) (dv p b) j e0) (vsm (dv p b j) (tXn m (dv p v) j e0)))))); rw [Y5, Zq, Z4, ZY, Jcb, <- QY]; exact vcg.refl _
  .have hjm : j = m := by omega
   subst hjm; rw [hself] at hEr; exact ⟨Jo (by omega) (by omega), ⟨i + 1, by push_cast; rfl, by omega, hr, hcr, hEr⟩, by omega⟩
 .have him : i = m := by omega
  subst him; have hE2 : vcg p (opr i (dv p v) (vo l) N e0) (Qv i (dv p v) (dv p b) (dv p a)) := hE; refine ⟨Jo (by omega) (by omega), Jo (by omega) (by omega), ?_⟩; refine ⟨fun r z => ∃ t : Nat, z = (t : Int) - 1 /\ i <= t /\ t <= N /\ r.length = N /\ Cn p N (vo r) /\ vcg p (opr i (dv p v) (vo r) t e0) (Qv i (dv p v) (dv p b) (dv p a)), fun r z => (z + 1).toNat, ⟨N, by omega, by omega, by omega, hl, hcn, hE2⟩, ?_⟩; rintro r _ ⟨t, rfl, hit, htN, hr, hcr, hEr⟩; dsimp only; refine ⟨fun hle => ?_, fun hgt => ?_⟩
  .obtain ⟨k, rfl⟩ : ∃ k, t = k + 1 := ⟨t - 1, by omega⟩
   have ek : ((k + 1 : Nat) : Int) - 1 = (k : Int) := by omega
   rw [ek] at hle ⊢; have hm1 : i ≠ 1 := by omega
   have hmf : vo mf = dv p v := F.vo; have hml : mf.length = i := (F.cn hm1).1; have hwk := hcr k (by omega); refine ⟨fun s z => ∃ j : Nat, z = j /\ j <= i /\ s.length = N /\ Cn p N (vo s) /\ vo s k = vo r k /\ vcg p (opr i (dv p v) (vo s) k e0) (Jz (opr i (dv p v) (vo r) k e0) (vsm (-(vo r k)) (tXn i (dv p v) (k - i) (opr i (dv p v) (dv p v) j e0)))), fun s z => (i - z).toNat, ⟨0, rfl, Nat.zero_le _, hr, hcr, rfl, ?_⟩, ?_⟩
   .show vcg p _ (Jz _ (vsm _ (tXn i (dv p v) (k - i) vz))); rw [Jdn, Jgf, YO]; exact vcg.refl _
   rintro s _ ⟨j, rfl, hj, hs, hcs, hsk, hEs⟩; dsimp only; rw [show (k : Int) - (i : Int) + (j : Int) = ((k - i + j : Nat) : Int) by omega, JE, JE, JE, Qo, hmf, hsk]; refine ⟨fun hltj => ?_, fun hgej => ?_⟩
   .have c1 := Jb2 (p := p) (by omega) v j; have c3 := hcs (k - i + j) (by omega); have c4 := Yk (a := (p : Int) - vo r k) (b := dv p v j) hp2 ⟨by omega, by omega⟩ ⟨c1.1, by omega⟩; refine ⟨Jo (by omega) (by omega), Qn (by omega), Jo (by omega) (by omega), Qn (by omega), ⟨by omega, by omega⟩, ⟨by omega, by omega⟩, Jo (by omega) (by omega), ⟨by omega, by omega⟩, Jo (by omega) (by omega), Jo (by omega) (by omega), by omega, ⟨by omega, by omega⟩, Jo (by omega) (by omega), ⟨j + 1, by push_cast; rfl, by omega, by rw [List.length_set, hs], fun u hu => ?_, ?_, ?_⟩, by omega⟩
    .rw [JW]; split
     .rw [Int.tmod_eq_emod_of_nonneg (by omega)]; exact ⟨Int.emod_nonneg _ (by omega), Int.emod_lt_of_pos _ (by omega)⟩
     .exact hcs u hu
    .rw [JW, if_neg (by omega)]; exact hsk
    .have hup := Jcn (p := p) (m := i) (c := dv p v) (w := vo s) (w' := vo (s.set (k - i + j) ((vo s (k - i + j) + ((p : Int) - vo r k) * dv p v j).tmod p))) (u := e0) (s := -(vo r k) * dv p v j) (k := k - i + j) (by
      rw [JW, if_pos ⟨rfl, by omega⟩, Jcj (by omega) c3.1 (by omega) c1.1, Int.emod_emod, Int.neg_mul]; rfl) (fun t ht => by rw [JW, if_neg (fun h => ht h.1.symm)]) k
     rw [if_pos (by omega)] at hup; refine hup.trans ((hEs.add (vcg.refl _)).trans ?_); show vcg p _ (Jz _ (vsm _ (tXn i (dv p v) (k - i) (Jz (opr i (dv p v) (dv p v) j e0) (vsm (dv p v j) (tXn i (dv p v) j e0)))))); rw [Y5, Zq, Z4, ZY, Jcb, <- QY]; exact vcg.refl _
   .have hji : j = i := by omega
    subst hji; refine ⟨Jo (by omega) (by omega), ⟨k, by omega, by omega, by omega, hs, hcs, ?_⟩, by omega⟩; refine hEs.trans (vcg.trans ?_ hEr); show vcg p _ (Jz (opr j (dv p v) (vo r) k e0) (vsm (vo r k) (tXn j (dv p v) k e0))); have e1 : tXn j (dv p v) k e0 = tXn j (dv p v) (k - j) (tXn j (dv p v) j e0) := by rw [Z4, show k - j + j = k by omega]
    rw [e1, Xm hm0, Zq, Jcb, show vo r k * -1 = -(vo r k) by omega]; exact vcg.refl _
  .have hti : t = i := by omega
   subst hti; refine ⟨⟨by omega, by omega⟩, _, Ji3 F (u := opr t (dv p v) (vo r) t e0) ?_ (fun j hj => ?_) rfl, ?_⟩
   .rw [List.length_take, Int.toNat_natCast, hr]; omega
   .rw [Int.toNat_natCast, Jch hj, Jco (Nat.le_refl _), if_pos hj]; have := hcr j (by omega); exact (Int.emod_eq_of_lt this.1 this.2).symm
   .rw [Q1 hEr]; exact h
theorem modk {n k : Int} (hk : 0 < k) : (n.tmod k + k).tmod k = n % k := by
 have h1 := Int.tmod_lt_of_pos n hk; have h2 : -k < n.tmod k := by
  have := Int.lt_tmod_of_pos n hk; omega
 rw [Int.tmod_eq_emod_of_nonneg (by omega)]; have h3 := Int.mul_tdiv_add_tmod n k; have : n = n.tmod k + k * (n.tdiv k) := by omega
 rw [show n.tmod k + k = n.tmod k + k * 1 by omega, Int.add_mul_emod_self_left]
 conv => rhs; rw [this, Int.add_mul_emod_self_left]
theorem Je3 (F : FV P M mf p m v) {x n : Int} {Q : Int × Int -> Prop} (h0 : inE (p ^ m) x = 0 -> Q (if n = 0 then (1, 0) else if n < 0 then (0, 7) else (0, 0)))
  (h1 : inE (p ^ m) x ≠ 0 -> Q (((pw (Jq p m (dv p v)) (inE (p ^ m) x) (n % (((p ^ m : Nat) : Int) - 1)).toNat : Nat) : Int), 0)) (hn : I64 n) : YW P M mf x n Q := by
 have hq := F.q; have R := F.ring; have hq2 := R.q2; have hlt := JS R.pos x; refine Jbq F ⟨fun hn0 => ?_, fun hn0 => ⟨fun hz => ⟨fun hneg => ?_, fun hpos => ?_⟩, fun hz => Qw ?_⟩⟩
 .by_cases hz : inE (p ^ m) x = 0
  .have := h0 hz; rwa [if_pos hn0] at this
  .have := h1 hz; rw [hn0, Int.zero_emod] at this; exact this
 .have := h0 (by omega); rwa [if_neg hn0, if_pos hneg] at this
 .have := h0 (by omega); rwa [if_neg hn0, if_neg hpos] at this
 .rw [F.ord]; have h1 := h1 (by omega); generalize inE (p ^ m) x = a at *
  generalize hqq : p ^ m = q at *
  have hk : (0 : Int) < (q : Int) - 1 := by omega
  have t1 := Int.tmod_lt_of_pos n hk; have t2 := Int.lt_tmod_of_pos n hk; have e1 := Int.emod_nonneg n (show (q : Int) - 1 ≠ 0 by omega); have e2 := Int.emod_lt_of_pos n hk; rw [modk hk]; refine ⟨Jo (by omega) (by omega), by omega, Jo (by omega) (by omega), by omega, ?_⟩; obtain ⟨e, he⟩ := Int.eq_ofNat_of_zero_le e1; rw [he] at h1 ⊢; rw [Int.toNat_natCast] at h1; refine ⟨fun z i => ∃ k : Nat, i = k /\ k <= e /\ z = ((pw (Jq p m (dv p v)) a k : Nat) : Int), fun z i => (e - i).toNat, ⟨0, rfl, Nat.zero_le _, rfl⟩, ?_⟩; rintro _ _ ⟨k, rfl, hk2, rfl⟩; dsimp only; refine ⟨fun hltk => Jcc F ?_, fun hge => ?_⟩
  .rw [hqq, Yv (R.pw_lt a k), Yv hlt]; exact ⟨Jo (by omega) (by omega), ⟨k + 1, by push_cast; rfl, by omega, rfl⟩, by omega⟩
  .rw [show k = e by omega]; exact h1
theorem ZN (F : FV P M mf p m v) {x : Int} {Q : Int -> Prop} (h0 : inE (p ^ m) x = 0 -> Q 0) (h1 : ∀ n : Nat, inE (p ^ m) x ≠ 0 -> Od (Jq p m (dv p v)) (inE (p ^ m) x) n -> n <= p ^ m - 1 -> Q n) : QN P M mf x Q := by
 have hq := F.q; have R := F.ring; have hq2 := R.q2; have hlt := JS R.pos x; obtain ⟨g, G⟩ := F.gen; refine Jbq F ⟨fun hz => h0 (by omega), fun hz => ?_⟩; have hz' : inE (p ^ m) x ≠ 0 := by omega
 have hone := G.xone R (Nat.pos_of_ne_zero hz') hlt
 replace h1 := fun n => h1 n hz'
 generalize inE (p ^ m) x = a at *
 generalize hqq : p ^ m = q at *
 refine ⟨fun i z => ∃ k : Nat, i = k /\ 0 < k /\ k <= q - 1 /\ z = ((pw (Jq p m (dv p v)) a k : Nat) : Int) /\ ∀ j, 0 < j -> j < k -> pw (Jq p m (dv p v)) a j ≠ 1, fun i z => (q - i).toNat, ⟨1, rfl, by omega, by omega, by rw [R.pw_one hlt], fun j h1 h2 => by omega⟩, ?_⟩; rintro _ _ ⟨k, rfl, hk0, hk, rfl, hno⟩; dsimp only; refine ⟨fun hne => ?_, fun heq => h1 k ⟨hk0, ?_, hno⟩ hk⟩
 .have hkq : k < q - 1 := by
   rcases Nat.lt_or_ge k (q - 1) with hc | hc
   .exact hc
   .rw [show k = q - 1 by omega, hone] at hne; exact absurd rfl hne
  refine ⟨Jo (by omega) (by omega), Jcc F ?_⟩; rw [hqq, Yv (R.pw_lt a k), Yv hlt]; refine ⟨⟨k + 1, by push_cast; rfl, by omega, by omega, rfl, fun j h3 h4 => ?_⟩, by omega⟩; by_cases hjk : j = k
  .subst hjk; intro e; rw [e] at hne; exact hne rfl
  .exact hno j h3 (by omega)
 .by_cases hc : ((pw (Jq p m (dv p v)) a k : Nat) : Int) = 1
  .omega
  .exact absurd hc heq
end
end Go.Proofs.Ytbdmnolcmeojbaa
namespace Go.Proofs.Ytbdmnolcmeojbaa
section
variable {F : GFv} {p m v g : Nat}
theorem v_Is {x : Int} {Q : Bool -> Prop} (K : GFk F p m v g) (h : Q (decide (0 <= x /\ x < ((p ^ m : Nat) : Int)))) : V_Is F x Q := by
 refine ⟨fun h0 => ?_, fun h0 => ?_⟩
 .rw [K.q]; simpa [h0] using h
 .simpa [h0] using h
theorem Y4 {x : Int} {Q : Bool -> Prop} (K : GFk F p m v g) (h : Q (decide (inE (p ^ m) x ≠ 0))) : QH F x Q := by
 unfold inE at h; refine ⟨fun h0 => ?_, fun h0 => ?_⟩
 .rw [K.q]; by_cases hx : x < ((p ^ m : Nat) : Int)
  .rw [if_pos ⟨by omega, hx⟩] at h; rw [decide_eq_true hx]; rw [decide_eq_true (by omega)] at h; exact h
  .rw [if_neg (by omega)] at h; rw [decide_eq_false hx]; exact h
 .by_cases hx : 0 <= x /\ x < ((p ^ m : Nat) : Int)
  .rw [if_pos hx] at h; rw [decide_eq_false (by omega)] at h; exact h
  .rw [if_neg hx] at h; exact h
theorem Jbr {x : Int} {Q : Int -> Prop} (K : GFk F p m v g) (h : Q ((inE (p ^ m) x : Nat) : Int)) : QV F x Q := by
 refine v_Is K ⟨fun hb => ?_, fun hb => ?_⟩
 .have hb := of_decide_eq_true hb; unfold inE at h; rw [if_pos hb, Int.toNat_of_nonneg hb.1] at h; exact h
 .have hb := of_decide_eq_false hb; unfold inE at h; rw [if_neg hb] at h; exact h
theorem Jj1 {q : Nat} {x : Int} (h : inE q x ≠ 0) : x = ((inE q x : Nat) : Int) := by
 unfold inE at h ⊢; split
 .rename_i hc; exact (Int.toNat_of_nonneg hc.1).symm
 .rename_i hc; rw [if_neg hc] at h; exact absurd rfl h
theorem GFk.lg (K : GFk F p m v g) {x : Int} (h : inE (p ^ m) x ≠ 0) : ∃ a : Nat, a < p ^ m - 1 /\ inE (p ^ m) x = pw (Jq p m (dv p v)) g a /\ gi F.log x = (a : Int) /\ (0 <= x /\ x < (F.log.length : Nat)) := by
  have R := K.fv.ring
  have hlt := JS R.pos x
  obtain ⟨a, ha, he⟩ := K.G.surj R (Nat.pos_of_ne_zero h) hlt
  have hx := Jj1 h
  refine ⟨a, ha, he.symm, ?_, ?_⟩
  . rw [hx, <- he, JE, K.lv a ha]
  . rw [K.ll]; omega
theorem v_Mul {x y : Int} {Q : Int -> Prop} (K : GFk F p m v g) (h : Q ((Jq p m (dv p v) (inE (p ^ m) x) (inE (p ^ m) y) : Nat) : Int)) : Jhg F x y Q := by
 have R := K.fv.ring; have hq := K.fv.q; have hx := JS R.pos x; have hy := JS R.pos y; refine Y4 K ⟨fun hb => ?_, fun hb => Y4 K ⟨fun hb2 => ?_, fun hb2 => ?_⟩⟩
 .have h0 : inE (p ^ m) x = 0 := by simpa using hb
  rw [h0, R.Z0 hy] at h; exact h
 .have h0 : inE (p ^ m) y = 0 := by simpa using hb2
  rw [h0, R.M0 hx] at h; exact h
 .obtain ⟨a, ha, ea, la, bx⟩ := K.lg (x := x) (by simpa using hb); obtain ⟨b, hb', eb, lb, by_⟩ := K.lg (x := y) (by simpa using hb2); rw [la, lb]; have hel := K.el; refine ⟨bx, by_, Jo (by omega) (by omega), ⟨by omega, by omega⟩, ?_⟩; rw [show (a : Int) + (b : Int) = ((a + b : Nat) : Int) by push_cast; rfl, JE, K.ev _ (by omega), R.pw_add K.G.lt, <- ea, <- eb]; exact h
theorem Jit {m x y : Nat} (hx : x < 2 ^ m) (hy : y < 2 ^ m) : x ^^^ y = JT 2 m x y := by
 refine (nm_eq (by decide) (Nat.xor_lt_two_pow hx hy) fun i hi => ?_).symm; have h := Nat.testBit_xor x y i; rw [Nat.testBit_eq_decide_div_mod_eq, Nat.testBit_eq_decide_div_mod_eq, Nat.testBit_eq_decide_div_mod_eq] at h; simp only [dv, Jz]; have h1 := Nat.mod_two_eq_zero_or_one (x / 2 ^ i); have h2 := Nat.mod_two_eq_zero_or_one (y / 2 ^ i); have h3 := Nat.mod_two_eq_zero_or_one ((x ^^^ y) / 2 ^ i); rcases h1 with h1 | h1 <;> rcases h2 with h2 | h2 <;> rcases h3 with h3 | h3 <;> rw [h1, h2, h3] at h <;> rw [h1, h2, h3] <;> first | rfl | exact absurd h (by decide)
theorem v_Add {x y : Int} {Q : Int -> Prop} (K : GFk F p m v g) (h : Q ((JT p m (inE (p ^ m) x) (inE (p ^ m) y) : Nat) : Int)) : Jhi F x y Q := by
 have R := K.fv.ring; have hq := K.fv.q; have hx := JS R.pos x; have hy := JS R.pos y; have hq2 := R.q2; refine Jbr K (Jbr K ⟨fun h2 => ⟨⟨by omega, by omega, by omega, by omega⟩, ?_⟩, fun h2 => ⟨fun h0 => ?_, fun h0 => ⟨fun h1 => ?_, fun h1 => ?_⟩⟩⟩)
 .have hp2 : p = 2 := by have := K.fv.eP; omega
  subst hp2; rw [<- Jit hx hy] at h; exact h
 .rw [show inE (p ^ m) x = 0 by omega, R.zA hy] at h; exact h
 .rw [show inE (p ^ m) y = 0 by omega, R.Az hx] at h; exact h
 .have hi : ∀ z : Nat, z < p ^ m -> inE (p ^ m) (z : Int) = z := fun z hz => Yv hz; obtain ⟨a, ha, ea, la, bx⟩ := K.lg (x := ((inE (p ^ m) x : Nat) : Int)) (by rw [hi _ hx]; omega); obtain ⟨b, hb, eb, lb, by_⟩ := K.lg (x := ((inE (p ^ m) y : Nat) : Int)) (by rw [hi _ hy]; omega); rw [hi _ hx] at ea; rw [hi _ hy] at eb; rw [la, lb]; have hal := K.al; have hel := K.el; refine ⟨by_, bx, Jo (by omega) (by omega), fun z => ∃ d : Nat, z = d /\ d < p ^ m - 1 /\ pw (Jq p m (dv p v)) g (a + d) = pw (Jq p m (dv p v)) g b, ⟨fun hn => ?_, fun hn => ?_⟩, ?_⟩
  .rw [K.q]; refine ⟨Jo (by omega) (by omega), Jo (by omega) (by omega), b + (p ^ m - 1) - a, by omega, by omega, ?_⟩; have := K.G.per R b 1; rw [Nat.mul_one] at this; rw [show a + (b + (p ^ m - 1) - a) = b + (p ^ m - 1) by omega]; exact this
  .exact ⟨b - a, by omega, by omega, by rw [show a + (b - a) = b by omega]⟩
  .rintro _ ⟨d, rfl, hd, hpd⟩; rw [JE, K.av d hd]; have hgd := R.pw_lt g d; have hga := R.pw_lt g a
   -- x + y = x (g^d + 1)
   have hsum : JT p m (inE (p ^ m) x) (inE (p ^ m) y) = Jq p m (dv p v) (pw (Jq p m (dv p v)) g a) (JT p m (pw (Jq p m (dv p v)) g d) 1) := by
    rw [R.Md hga hgd R.one_lt, R.M1 hga, <- R.pw_add K.G.lt, hpd, <- ea, <- eb, R.Ac]
   rw [hsum] at h; have hsl := R.Al (pw (Jq p m (dv p v)) g d) 1; refine ⟨⟨by omega, by omega⟩, fun hm1 => ?_, fun hm1 => ?_⟩
   .have hz : JT p m (pw (Jq p m (dv p v)) g d) 1 = 0 := by
     rcases Nat.eq_zero_or_pos (JT p m (pw (Jq p m (dv p v)) g d) 1) with h3 | h3
     .exact h3
     .obtain ⟨s, hs, hse⟩ := K.G.surj R h3 hsl; rw [<- hse, K.lv s hs] at hm1; omega
    rw [hz, R.M0 hga] at h; exact h
   .have hnz : 0 < JT p m (pw (Jq p m (dv p v)) g d) 1 := by
     rcases Nat.eq_zero_or_pos (JT p m (pw (Jq p m (dv p v)) g d) 1) with h3 | h3
     .rw [h3, K.l0] at hm1; exact absurd rfl hm1
     .exact h3
    obtain ⟨s, hs, hse⟩ := K.G.surj R hnz hsl; rw [<- hse] at h ⊢; rw [K.lv s hs]; refine ⟨bx, Jo (by omega) (by omega), ⟨by omega, by omega⟩, ?_⟩; rw [show (a : Int) + (s : Int) = ((a + s : Nat) : Int) by push_cast; rfl, JE, K.ev _ (by omega), R.pw_add K.G.lt]; exact h
theorem v_Inv {x : Int} {Q : Int × Int -> Prop} (K : GFk F p m v g) (h0 : inE (p ^ m) x = 0 -> Q (0, 7)) (h1 : ∀ z : Nat, inE (p ^ m) x ≠ 0 -> z < p ^ m -> Jq p m (dv p v) z (inE (p ^ m) x) = 1 -> Q ((z : Int), 0)) : Jhh F x Q := by
 have R := K.fv.ring; have hq := K.fv.q; refine Y4 K ⟨fun hb => h0 (by simpa using hb), fun hb => ?_⟩; have hne : inE (p ^ m) x ≠ 0 := by simpa using hb
 obtain ⟨a, ha, ea, la, bx⟩ := K.lg hne; have hel := K.el; rw [la, K.q]; refine ⟨Jo (by omega) (by omega), bx, Jo (by omega) (by omega), ⟨by omega, by omega⟩, ?_⟩; rw [show ((p ^ m : Nat) : Int) - 1 - (a : Int) = ((p ^ m - 1 - a : Nat) : Int) by omega, JE, K.ev _ (by omega)]; refine h1 _ hne (R.pw_lt g _) ?_; rw [ea, <- R.pw_add K.G.lt, show p ^ m - 1 - a + a = p ^ m - 1 by omega, K.G.one]
theorem Jju {q : Nat} {A M : Nat -> Nat -> Nat} {g : Nat} (G : Gn q M g) (R : CR q A M) (e : Nat) : Od M (pw M g e) ((q - 1) / Nat.gcd (q - 1) e) := by
 have hq := R.q2; have hg : 0 < Nat.gcd (q - 1) e := Nat.gcd_pos_of_pos_left _ (by omega); have hle : Nat.gcd (q - 1) e <= q - 1 := Nat.le_of_dvd (by omega) (Nat.gcd_dvd_left _ _); have hpos : 0 < (q - 1) / Nat.gcd (q - 1) e := Nat.div_pos hle hg; refine ⟨hpos, (G.ord_iff R e _).2 (Nat.dvd_refl _), fun k h0 hk h1 => ?_⟩; have := Nat.le_of_dvd h0 ((G.ord_iff R e k).1 h1); omega
theorem Od.uniq {M : Nat -> Nat -> Nat} {x n k : Nat} (h : Od M x n) (h' : Od M x k) : n = k := by
 rcases Nat.lt_trichotomy n k with h1 | h1 | h1
 .exact absurd h.one (h'.least n h.pos h1)
 .exact h1
 .exact absurd h'.one (h.least k h'.pos h1)
theorem Je4 {x : Int} {Q : Int × Int -> Prop} (K : GFk F p m v g) (h0 : inE (p ^ m) x = 0 -> Q (0, 7)) (h1 : ∀ a : Nat, a < p ^ m - 1 -> inE (p ^ m) x = pw (Jq p m (dv p v)) g a -> Q ((((p ^ m - 1) / Nat.gcd (p ^ m - 1) a : Nat) : Int), 0)) : Yb F x Q := by
 have R := K.fv.ring; have hq := K.fv.q; have hq2 := R.q2; refine Y4 K ⟨fun hb => h0 (by simpa using hb), fun hb => ?_⟩; have hne : inE (p ^ m) x ≠ 0 := by simpa using hb
 obtain ⟨a, ha, ea, la, bx⟩ := K.lg hne; have h1 := h1 a ha ea; rw [K.q, la]; have e1 : ((p ^ m : Nat) : Int) - 1 = ((p ^ m - 1 : Nat) : Int) := by omega
 rw [e1]; have hg : 0 < Nat.gcd (p ^ m - 1) a := Nat.gcd_pos_of_pos_left _ (by omega); have hd : (p ^ m - 1) / Nat.gcd (p ^ m - 1) a <= p ^ m - 1 := Nat.div_le_self _ _; refine ⟨Qn (by omega), Qn (by omega), bx, _, v_gcd rfl, ⟨by omega, ?_⟩, h1⟩; rw [Jgk]; exact Qn (by omega)
end
end Go.Proofs.Ytbdmnolcmeojbaa
namespace Go.Proofs.Ytbdmnolcmeojbaa
theorem FV.same {P M : Int} {mf : LI} {p m v p' m' v' : Nat} (F : FV P M mf p m v) (F' : FV P M mf p' m' v') : p = p' /\ m = m' /\ v = v' := by
 have h1 := F.eP; have h2 := F'.eP; have h3 := F.eM; have h4 := F'.eM; have e1 : p = p' := by omega
 have e2 : m = m' := by omega
 subst e1; subst e2; refine ⟨rfl, rfl, ?_⟩; have hp := F.p2; rw [<- YN (p := p) (m := m) (by omega) F.vlt, <- YN (p := p) (m := m) (by omega) F'.vlt, <- F.vo, <- F'.vo]
theorem Jcg {F : GFv} {p m v g : Nat} {Q : Int -> Prop} (K : GFk F p m v g) (h : Q ((p ^ m : Nat) : Int)) : Ya F Q := by
 unfold Ya; rw [K.q]; exact h
theorem FV.len {P M : Int} {mf : LI} {p m v : Nat} (F : FV P M mf p m v) : mf.length <= 1000000 := by
 have := F.m8; by_cases hm1 : m = 1
 .rw [(F.m1 hm1).1]; simp
 .rw [F.m2 hm1, JD]; omega
end Go.Proofs.Ytbdmnolcmeojbaa
namespace Go.Proofs.Ytbdmnolcmeojbaa
section
variable {F : GFv} {p m v g : Nat} {P M : Int} {mf : LI}
theorem w_open {Q : Option GFv × Bool -> Prop} (h0 : ¬ Ja9 P M mf -> Q (none, true)) (h1 : ∀ (F : GFv) (p m v g : Nat), GFk F p m v g -> FV P M mf p m v -> Q (some F, true)) : Jdg P M mf Q := by
 refine v_New (fun hV => Jdl ⟨fun _ => h0 hV, fun hn => absurd (Qz hV) (by intro e; rw [e] at hn; exact hn (by decide))⟩) fun F p m v g K eP eM em => ?_; have hF : FV P M mf p m v := by have := K.fv; rwa [eP, eM, em] at this
 refine Jdl ⟨fun hn => ?_, fun hn => ⟨fun h => absurd rfl h, fun _ => h1 F p m v g K hF⟩⟩; exact absurd (Jb4 ⟨_, _, _, hF⟩) hn
/-- x is primitive. -/
def PR (p m v : Nat) (x : Int) : Prop := inE (p ^ m) x ≠ 0 /\ Od (Jq p m (dv p v)) (inE (p ^ m) x) (p ^ m - 1)
theorem Jdj {x : Int} {Q : Bool -> Prop} (K : GFk F p m v g) (h1 : PR p m v x -> Q true) (h0 : ¬ PR p m v x -> Q false) : QA F x Q := by
 have R := K.fv.ring; have hq := K.fv.q; have hq2 := R.q2; refine Je4 K (fun hz => ⟨fun h => absurd h (by decide), fun _ => h0 fun h => h.1 hz⟩) fun a ha ea => ⟨fun _ => Jcg K ?_, fun h => absurd rfl h⟩
 have O := Jju K.G R a; rw [<- ea] at O; generalize (p ^ m - 1) / Nat.gcd (p ^ m - 1) a = n at O; rw [show ((p ^ m : Nat) : Int) - 1 = ((p ^ m - 1 : Nat) : Int) by omega]; refine ⟨Jo (by omega) (by omega), ?_⟩; by_cases hn : n = p ^ m - 1
 .rw [decide_eq_true (by rw [hn])]; exact h1 ⟨by rw [ea]; exact K.G.ne0 R a, by rw [<- hn]; exact O⟩
 .rw [decide_eq_false (by omega)]; exact h0 fun h => hn (O.uniq h.2)
theorem Jhk {x : Int} {Q : Bool -> Prop} (K : GFk F p m v g) (hF : FV P M mf p m v) (h1 : PR p m v x -> Q true) (h0 : ¬ PR p m v x -> Q false) : YB P M mf x Q := by
 have R := K.fv.ring; have hq := K.fv.q; have hq2 := R.q2; have e1 : ((p ^ m : Nat) : Int) - 1 = ((p ^ m - 1 : Nat) : Int) := by omega
 by_cases hz : inE (p ^ m) x = 0
 .refine ⟨0, ZN hF (fun _ => rfl) fun n h _ => absurd hz h, _, Qw rfl, ?_⟩; rw [hF.ord, e1]; refine ⟨Jo (by omega) (by omega), ?_⟩; rw [decide_eq_false (by omega)]; exact h0 fun h => h.1 hz
 .obtain ⟨a, ha, ea⟩ := K.G.surj R (Nat.pos_of_ne_zero hz) (JS R.pos x); have O := Jju K.G R a; rw [ea] at O; generalize (p ^ m - 1) / Nat.gcd (p ^ m - 1) a = n at O; refine ⟨(n : Int), ZN hF (fun h => absurd h hz) fun k _ Ok _ => by rw [Ok.uniq O], _, Qw rfl, ?_⟩; rw [hF.ord, e1]; refine ⟨Jo (by omega) (by omega), ?_⟩; by_cases hn : n = p ^ m - 1
  .rw [decide_eq_true (by rw [hn])]; exact h1 ⟨hz, by rw [<- hn]; exact O⟩
  .rw [decide_eq_false (by omega)]; exact h0 fun h => hn (O.uniq h.2)
end
end Go.Proofs.Ytbdmnolcmeojbaa
namespace Go.Proofs.Ytbdmnolcmeojbaa
/-! ### tables of logarithms -/
section
variable {F : GFv} {p m v g : Nat} {P M : Int} {mf : LI}
theorem PR.gn {x : Int} (R : CR (p ^ m) (JT p m) (Jq p m (dv p v))) (h : PR p m v x) : Gn (p ^ m) (Jq p m (dv p v)) (inE (p ^ m) x) := ⟨JS R.pos x, h.2.one, h.2.least⟩
theorem Q4 {q : Nat} {x : Int} (h : ¬ (0 < x /\ x < (q : Int))) : inE q x = 0 := by
 unfold inE; split
 .rename_i c; omega
 .rfl
theorem JZ {q : Nat} {x : Nat} (h : x < q) : inE q (x : Int) = x := Yv h
/-- the logarithm in the table -/
noncomputable def LG (q : Nat) (Mu : Nat -> Nat -> Nat) (b x : Nat) : Int := if x = 0 then -1 else (lg_ q Mu b x : Int)
where lg_ (q : Nat) (Mu : Nat -> Nat -> Nat) (b x : Nat) : Nat := Gn.lg q Mu b x
structure Tab (q : Nat) (A Mu : Nat -> Nat -> Nat) (b : Nat) (E L Z : LI) : Prop where
  el : E.length = q - 1
  ev : ∀ n, n < q - 1 -> gi E (n : Int) = (pw Mu b n : Int)
  ll : L.length = q
  lv : ∀ x, x < q -> gi L (x : Int) = LG q Mu b x
  zl : Z.length = q - 1
  zv : ∀ n, n < q - 1 -> gi Z (n : Int) = LG q Mu b (A 1 (pw Mu b n))
theorem Jay {x : LI} {r i : Nat} (hr : r < x.length) (b : Int) : gi (si x (r : Int) b) (i : Int) = if i = r then b else gi x (i : Int) := by
 unfold gi si; rw [Int.toNat_natCast, Int.toNat_natCast, List.getD_eq_getElem?_getD, List.getD_eq_getElem?_getD, List.getElem?_set]; by_cases e : i = r
 .subst e; rw [if_pos rfl, if_pos hr, if_pos rfl]; rfl
 .rw [if_neg (fun c => e c.symm), if_neg e]
theorem w_tNew {x : Int} {Q : Option (Int × LI × LI × LI) × Int -> Prop} (K : GFk F p m v g) (h7 : inE (p ^ m) x = 0 -> Q (none, 7)) (h5 : inE (p ^ m) x ≠ 0 -> ¬ PR p m v x -> Q (none, 5))
  (h : PR p m v x -> ∀ E L Z, Tab (p ^ m) (JT p m) (Jq p m (dv p v)) (inE (p ^ m) x) E L Z -> Q (some (x, E, L, Z), 0)) : Jde F x Q := by
 have R := K.fv.ring; have hq := K.fv.q; have hq2 := R.q2; refine v_Inv K (fun hz => ⟨fun _ => ⟨by decide, h7 hz⟩, fun c => absurd (by decide) c⟩) fun z hz _ _ => ⟨fun c => absurd rfl c, fun _ => Jdj K (fun hP => ?_) fun hn => ⟨fun _ => ⟨by decide, h5 hz hn⟩, fun c => absurd c (by decide)⟩⟩
 refine ⟨fun c => absurd c (by decide), fun _ => Jcg K ?_⟩; have G := hP.gn R; generalize hb : inE (p ^ m) x = b at *
 generalize hMu : Jq p m (dv p v) = Mu at *
 generalize hA : JT p m = A at *
 have eN : ((p ^ m : Nat) : Int) - 1 = ((p ^ m - 1 : Nat) : Int) := by omega
 rw [eN]; generalize hqq : p ^ m = q at *
 rw [Int.toNat_natCast]; refine ⟨Jo (by omega) (by omega), ⟨by omega, by omega, by omega⟩, (q : Int), Jcg K (by rw [hqq]), ?_⟩; rw [Int.toNat_natCast]; refine ⟨⟨by omega, by omega, by omega⟩, ⟨by omega, by omega, by omega⟩, ⟨by omega, by omega⟩, fun l e z n => ∃ k : Nat, n = k /\ k <= q - 1 /\ z = (pw Mu b k : Int) /\ l.length = q /\ e.length = q - 1 /\ gi l 0 = -1 /\ (∀ i, i < k -> gi e (i : Int) = (pw Mu b i : Int)) /\ ∀ i, i < k -> gi l (pw Mu b i : Int) = i, fun _ _ _ n => (((q - 1 : Nat) : Int) - n).toNat, ⟨0, rfl, Nat.zero_le _, rfl, ?_, by simp, ?_, fun i hi => by omega, fun i hi => by omega⟩, ?_⟩
 .unfold si; simp
 .have := Jay (x := List.replicate q (0 : Int)) (r := 0) (i := 0) (by simp; omega) (-1); rw [if_pos rfl] at this; exact this
 rintro l e _ _ ⟨k, rfl, hk, rfl, hl, he, hl0, hev, hlv⟩; have hpl := R.pw_lt b k; have hpn := G.ne0 R k; refine ⟨fun hlt => ?_, fun hge => ?_⟩
 .have hk' : k < q - 1 := by omega
  refine ⟨fun z => z = (pw Mu b (k + 1) : Int), ⟨True, ⟨⟨by omega, by omega⟩, ⟨by omega, by omega⟩, trivial⟩, fun _ => v_Mul K ?_⟩, ?_⟩
  .rw [hqq, hMu, hb, JZ hpl]; rfl
  .rintro _ rfl; refine ⟨Jo (by omega) (by omega), ⟨k + 1, by push_cast; rfl, by omega, rfl, by unfold si; simp [hl], by unfold si; simp [he], ?_, fun i hi => ?_, fun i hi => ?_⟩, by show (((q - 1 : Nat) : Int) - ((k : Int) + 1)).toNat < (((q - 1 : Nat) : Int) - (k : Int)).toNat; omega⟩
   .have := Jay (x := l) (r := pw Mu b k) (i := 0) (by omega) (k : Int); rw [if_neg (fun c => hpn c.symm)] at this; exact this.trans hl0
   .rw [Jay (by omega)]; by_cases c : i = k
    .rw [if_pos c, c]
    .rw [if_neg c]; exact hev i (by omega)
   .rw [Jay (by omega)]; by_cases c : i = k
    .rw [c, if_pos rfl]
    .rw [if_neg (G.inj R (show i < k by omega) hk')]; exact hlv i (by omega)
 .have hkk : k = q - 1 := by omega
  subst hkk; have hL : ∀ y, y < q -> gi l (y : Int) = LG q Mu b y := fun y hy => by
   unfold LG; by_cases c : y = 0
   .rw [if_pos c, c]; exact hl0
   .rw [if_neg c]; obtain ⟨h1, h2⟩ := G.lg_spec R (Nat.pos_of_ne_zero c) hy; have := hlv _ h1; rw [h2] at this; exact this
  refine ⟨fun z n => ∃ k : Nat, n = k /\ k <= q - 1 /\ z.length = q - 1 /\ ∀ i, i < k -> gi z (i : Int) = LG q Mu b (A 1 (pw Mu b i)), fun _ n => (((q - 1 : Nat) : Int) - n).toNat, ⟨0, rfl, Nat.zero_le _, by simp, fun i hi => by omega⟩, ?_⟩; rintro z _ ⟨k, rfl, hk2, hz2, hzv⟩; refine ⟨fun hlt => ?_, fun hge2 => ?_⟩
  .have hk' : k < q - 1 := by omega
   have hal := R.Al 1 (pw Mu b k); refine ⟨⟨by omega, by omega⟩, ((A 1 (pw Mu b k) : Nat) : Int), v_Add K ?_, ⟨by omega, by omega⟩, ⟨by omega, by omega⟩, Jo (by omega) (by omega), ⟨k + 1, by push_cast; rfl, by omega, by unfold si; simp [hz2], fun i hi => ?_⟩, by show (((q - 1 : Nat) : Int) - ((k : Int) + 1)).toNat < (((q - 1 : Nat) : Int) - (k : Int)).toNat; omega⟩
   .rw [hqq, hA, hev k hk', JZ (R.pw_lt b k), show inE q 1 = 1 from JZ (x := 1) R.one_lt]
   .rw [Jay (by omega)]; by_cases c : i = k
    .rw [if_pos c, c]; exact hL _ hal
    .rw [if_neg c]; exact hzv i (by omega)
  .have hkk : k = q - 1 := by omega
   subst hkk; exact h hP e l z ⟨he, hev, hl, hL, hz2, hzv⟩
end
section
variable {q : Nat} {A Mu : Nat -> Nat -> Nat} {b : Nat} {E L Z : LI} {bt : Int}
theorem Jk5 {x : Nat} (h : 0 < x) : LG q Mu b x = (Gn.lg q Mu b x : Int) := by unfold LG; rw [if_neg (by omega)]; rfl
theorem QD {x : Int} {Q : Int × Int -> Prop} (hT : Tab q A Mu b E L Z) (h7 : ¬ (0 < x /\ x < (q : Int)) -> Q (0, 7)) (h : ∀ y : Nat, x = y -> 0 < y -> y < q -> Q ((Gn.lg q Mu b y : Int), 0)) : Qq bt E L Z x Q := by
 have hl := hT.ll; refine ⟨fun c => h7 (by omega), fun c1 => ⟨fun c => h7 (by omega), fun c2 => ⟨⟨by omega, by omega⟩, ?_⟩⟩⟩; obtain ⟨y, rfl⟩ := Int.eq_ofNat_of_zero_le (show 0 <= x by omega); rw [show gi L ((y : Nat) : Int) = _ from hT.lv y (by omega), Jk5 (by omega)]; exact h y rfl (by omega) (by omega)
theorem ZM {x : Int} {Q : Int -> Prop} (hT : Tab q A Mu b E L Z) (hq : 2 <= q) (h256 : q <= 256) (h : Q (x % ((q - 1 : Nat) : Int))) : Qf bt E L Z x Q := by
 have he := hT.el; unfold Qf; rw [he]; have hN : (0 : Int) < ((q - 1 : Nat) : Int) := by omega
 have hb1 := Int.lt_tmod_of_pos x hN; have hb2 := Int.tmod_lt_of_pos x hN; have hm1 := Int.emod_nonneg x (show ((q - 1 : Nat) : Int) ≠ 0 by omega); have hm2 := Int.emod_lt_of_pos x hN; have e : x.tmod ((q - 1 : Nat) : Int) % ((q - 1 : Nat) : Int) = x % ((q - 1 : Nat) : Int) := by
  have h3 := Int.mul_tdiv_add_tmod x ((q - 1 : Nat) : Int); have h4 : x = x.tmod ((q - 1 : Nat) : Int) + ((q - 1 : Nat) : Int) * x.tdiv ((q - 1 : Nat) : Int) := by omega
  conv => rhs; rw [h4, Int.add_mul_emod_self_left]
 generalize x.tmod ((q - 1 : Nat) : Int) = t at *
 refine ⟨by omega, fun z => z = x % ((q - 1 : Nat) : Int), ⟨fun c => ⟨Jo (by omega) (by omega), ?_⟩, fun c => ?_⟩, fun z hz => by rw [hz]; exact h⟩
 .rw [<- e]; have := Int.add_mul_emod_self_left t ((q - 1 : Nat) : Int) 1; rw [Int.mul_one] at this; rw [<- this, Int.emod_eq_of_lt (by omega) (by omega)]
 .rw [<- e, Int.emod_eq_of_lt (by omega) hb2]
theorem Jaa {x : Int} {Q : Int -> Prop} (hT : Tab q A Mu b E L Z) (hq : 2 <= q) (h256 : q <= 256) (h : Q ((pw Mu b (x % ((q - 1 : Nat) : Int)).toNat : Nat) : Int)) : Q8 bt E L Z x Q := by
 have he := hT.el; have hm1 := Int.emod_nonneg x (show ((q - 1 : Nat) : Int) ≠ 0 by omega); have hm2 := Int.emod_lt_of_pos x (show (0 : Int) < ((q - 1 : Nat) : Int) by omega); refine ⟨_, ZM hT hq h256 rfl, ⟨hm1, by omega⟩, ?_⟩; have := hT.ev (x % ((q - 1 : Nat) : Int)).toNat (by omega); rw [Int.toNat_of_nonneg hm1] at this; rw [this]; exact h
variable (R : CR q A Mu) (G : Gn q Mu b)
include R G
theorem Jjx {x y : Nat} (hx : 0 < x) (hxq : x < q) (hy : 0 < y) (hyq : y < q) : pw Mu b (Gn.lg q Mu b x + Gn.lg q Mu b y) = Mu x y := by
 rw [R.pw_add G.lt, (G.lg_spec R hx hxq).2, (G.lg_spec R hy hyq).2]
theorem Y7 (x : Nat) : pw Mu b ((x : Int) % ((q - 1 : Nat) : Int)).toNat = pw Mu b x := by
 rw [<- Int.natCast_emod, Int.toNat_natCast, G.modp R]
end
end Go.Proofs.Ytbdmnolcmeojbaa
namespace Go.Proofs.Ytbdmnolcmeojbaa
/-! ### tables of logarithms: sums, products, the laws -/
section
variable {q : Nat} {A Mu : Nat -> Nat -> Nat} {b : Nat} {E L Z : LI} {bt : Int}
theorem Jiu {x y : Int} {Q : Int -> Prop} (R : CR q A Mu) (G : Gn q Mu b) (hT : Tab q A Mu b E L Z) (h256 : q <= 256) (h : Q ((Mu (inE q x) (inE q y) : Nat) : Int)) : Jba bt E L Z x y Q := by
 have hq := R.q2; refine QD hT (fun hx => ⟨fun _ => ?_, fun c => absurd (by decide) c⟩) fun x' ex hx0 hxq => ⟨fun c => absurd rfl c, fun _ => QD hT (fun hy => ⟨fun _ => ?_, fun c => absurd (by decide) c⟩) fun y' ey hy0 hyq => ⟨fun c => absurd rfl c, fun _ => ?_⟩⟩
 .rw [Q4 hx, R.Z0 (JS R.pos y)] at h; exact h
 .rw [Q4 hy, R.M0 (JS R.pos x)] at h; exact h
 .subst ex; subst ey; rw [JZ hxq, JZ hyq] at h; have h1 := (G.lg_spec R hx0 hxq).1; have h2 := (G.lg_spec R hy0 hyq).1; refine ⟨Jo (by omega) (by omega), Jaa hT hq h256 ?_⟩; rw [<- Int.natCast_add, Y7 R G, Jjx R G hx0 hxq hy0 hyq]; exact h
end
section
variable {F : GFv} {p m v g : Nat} {P M : Int} {mf : LI}
theorem Y3 {b x : Int} {Q : Int × Int -> Prop} (hF : FV P M mf p m v) (hP : PR p m v b) (h7 : inE (p ^ m) x = 0 -> Q (0, 7)) (h : inE (p ^ m) x ≠ 0 -> Q ((Gn.lg (p ^ m) (Jq p m (dv p v)) (inE (p ^ m) b) (inE (p ^ m) x) : Int), 0)) : Ym P M mf b x Q := by
 have R := hF.ring; have hq := hF.q; have G := hP.gn R; have hb0 := hP.1; refine Jbq hF (Jbq hF ⟨fun c => absurd (by omega) hb0, fun _ => ⟨fun c => h7 (by omega), fun c => ?_⟩⟩); have hx0 : inE (p ^ m) x ≠ 0 := fun e => c (by rw [e]; rfl); obtain ⟨h1, h2⟩ := G.lg_spec R (Nat.pos_of_ne_zero hx0) (JS R.pos x); have h' := h hx0; generalize hl : Gn.lg (p ^ m) (Jq p m (dv p v)) (inE (p ^ m) b) (inE (p ^ m) x) = l at *
 refine ⟨fun z n => ∃ k : Nat, n = k /\ z = ((pw (Jq p m (dv p v)) (inE (p ^ m) b) k : Nat) : Int) /\ k <= l, fun _ n => (((p ^ m : Nat) : Int) - n).toNat, ⟨0, rfl, rfl, Nat.zero_le _⟩, ?_⟩; rintro _ _ ⟨k, rfl, rfl, hk⟩; refine Qw ?_; rw [hF.ord]; refine ⟨fun hlt => ⟨fun e => ?_, fun e => Jcc hF ⟨Jo (by omega) (by omega), ⟨k + 1, by push_cast; rfl, ?_, ?_⟩, by show (((p ^ m : Nat) : Int) - ((k : Int) + 1)).toNat < (((p ^ m : Nat) : Int) - (k : Int)).toNat; omega⟩⟩, fun hge => by omega⟩
 .have : k = l := by
   rcases Nat.lt_or_ge k l with c | c
   .exact absurd (show pw (Jq p m (dv p v)) (inE (p ^ m) b) k = pw (Jq p m (dv p v)) (inE (p ^ m) b) l by rw [h2]; omega) (G.inj R c h1)
   .omega
  rw [this]; exact h'
 .rw [JZ (R.pw_lt _ k), JZ (JS R.pos b)]; rfl
 .rcases Nat.lt_or_ge k l with c | c
  .exact c
  .have : k = l := by omega
   subst this; exact absurd (by rw [h2]) e
theorem Jca {b : Int} {Q : Int -> Prop} (K : GFk F p m v g) (hF : FV P M mf p m v) (h7 : inE (p ^ m) b = 0 -> Q 7) (h5 : inE (p ^ m) b ≠ 0 -> ¬ PR p m v b -> Q 5) (h0 : PR p m v b -> Q 0) : Zm P M mf b Q := by
 refine Jbq hF ⟨fun c => h7 (by omega), fun c => Jhk K hF (fun hP => ⟨fun d => absurd d (by decide), fun _ => h0 hP⟩) fun hn => ⟨fun _ => h5 (fun e => c (by rw [e]; rfl)) hn, fun d => absurd d (by decide)⟩⟩
theorem Jb9 {b : Int} {Q : Option (Int × LI × LI × LI) × Bool -> Prop} (h0 : Q (none, true))
  (h : ∀ (F : GFv) (p m v g : Nat) (E L Z : LI), GFk F p m v g -> FV P M mf p m v -> PR p m v b -> Tab (p ^ m) (JT p m) (Jq p m (dv p v)) (inE (p ^ m) b) E L Z -> Q (some (b, E, L, Z), true)) : YA P M mf b Q := by
 refine w_open (fun _ => h0) fun F p m v g K hF => ?_; have R := hF.ring; have hq2 := R.q2; have hone : ∀ {hT : Bool -> Prop}, hT (decide (p ^ m = 2)) -> QA F 1 hT := fun {hT} hT => by
  have e1 : inE (p ^ m) 1 = 1 := JZ (x := 1) R.one_lt; refine Jdj K (fun hP => ?_) fun hn => ?_
  .have : p ^ m = 2 := by
    have O := hP.2; rcases Nat.lt_or_ge 1 (p ^ m - 1) with c | c
    .exact absurd (by rw [e1]; exact R.one_pw 1) (O.least 1 (by omega) c)
    .omega
   rw [decide_eq_true this] at hT; exact hT
  .have : p ^ m ≠ 2 := fun c => hn ⟨by rw [e1]; decide, ⟨by omega, by rw [e1]; exact R.one_pw _, fun k h1 h2 => by omega⟩⟩; rw [decide_eq_false this] at hT; exact hT
 have key : ∀ e : Int, e ≠ 0 -> ((e ≠ (0 : Int)) -> (((e = e) -> (∃ (r53 : Bool), QA F (1 : Int) (fun q => q = r53) /\ (∃ (r58 : Int), J1 P M mf (fun q => q = r58) /\ (Q (none, (r53 == (decide (r58 = (2 : Int))))))))) /\ (¬ (e = e) -> (Q (none, false))))) /\ (¬ (e ≠ (0 : Int)) -> (Q (none, false))) := fun e he => by
  refine ⟨fun _ => ⟨fun _ => ⟨_, hone rfl, _, Qw rfl, ?_⟩, fun c => absurd rfl c⟩, fun c => absurd he c⟩; rw [hF.ord]; have : (decide (p ^ m = 2) == decide (((p ^ m : Nat) : Int) = 2)) = true := by
   by_cases c : p ^ m = 2
   .rw [decide_eq_true c, decide_eq_true (by omega)]; rfl
   .rw [decide_eq_false c, decide_eq_false (by omega)]; rfl
  rw [this]; exact h0
 refine w_tNew K (fun hz => ?_) (fun hz hn => ?_) fun hP E L Z hT => ?_
 .exact fun _ => Jca K hF (fun _ => key 7 (by decide)) (fun c => absurd hz c) fun c => absurd hz c.1
 .exact fun _ => Jca K hF (fun c => absurd c hz) (fun _ _ => key 5 (by decide)) fun c => absurd c hn
 .exact Jca K hF (fun c => absurd c hP.1) (fun _ c => absurd hP c) fun _ => ⟨fun c => absurd rfl c, fun _ => ⟨fun c => absurd rfl c, fun _ => h F p m v g E L Z K hF hP hT⟩⟩
end
end Go.Proofs.Ytbdmnolcmeojbaa
namespace Go.Proofs.Ytbdmnolcmeojbaa
end Go.Proofs.Ytbdmnolcmeojbaa
