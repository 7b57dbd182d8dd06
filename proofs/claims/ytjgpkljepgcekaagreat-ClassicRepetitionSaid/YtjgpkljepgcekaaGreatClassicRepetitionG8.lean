/- Contracts of functions of the program, and what they lean on: V1, V2, V3, V4, V5, V6, M1, M2, M3. -/
import Derived.Test.YtjgpkljepgcekaaGreatClassicRepetitionG7
set_option linter.unusedVariables false
set_option linter.unusedSimpArgs false
namespace Go.Proofs.YtjgpkljepgcekaaGreat
def vo (l : LI) : Vec := fun i => l.getD i 0
theorem JN (l : LI) (i : Nat) : gi l (i : Int) = vo l i := rfl
theorem Qa (l : LI) (i : Nat) (x : Int) : si l (i : Int) x = l.set i x := rfl
theorem Jc9 (a b : Nat) : (a : Int).tmod (b : Int) = ((a % b : Nat) : Int) := rfl
theorem Jts (a b : Nat) : (a : Int).tdiv (b : Int) = ((a / b : Nat) : Int) := rfl
theorem J5 (l : LI) (i j : Nat) (x : Int) : vo (l.set i x) j = if i = j /\ i < l.length then x else vo l j := by
 unfold vo; rw [List.getD_eq_getElem?_getD, List.getD_eq_getElem?_getD, List.getElem?_set]; by_cases h : i = j
 .subst h; by_cases h2 : i < l.length
  .simp [h2]
  .simp [h2]
 .simp [h]
theorem Jks (n : Nat) (i : Nat) : vo (List.replicate n (0 : Int)) i = 0 := by
 unfold vo; rw [List.getD_eq_getElem?_getD, List.getElem?_replicate]; split <;> rfl
theorem Jd7 {l : LI} {i : Nat} (h : l.length <= i) : vo l i = 0 := by
 unfold vo; rw [List.getD_eq_getElem?_getD, List.getElem?_eq_none h]; rfl
theorem YP {l o : LI} (h : l.length = o.length) (hv : ∀ i, i < l.length -> vo l i = vo o i) : l = o := by
 refine List.ext_getElem h fun i h1 h2 => ?_; have := hv i h1; unfold vo at this; rw [List.getD_eq_getElem?_getD, List.getD_eq_getElem?_getD, List.getElem?_eq_getElem h1, List.getElem?_eq_getElem h2] at this; exact this
theorem Js {x : Int} (h : -1000000000000 <= x) (h2 : x <= 1000000000000) : I64 x := ⟨by omega, by omega⟩
theorem YQ {n : Nat} (h : n <= 1000000000000) : I64 (n : Int) := Js (by omega) (by omega)
def dgi (p n x : Nat) : LI := (dgl p n x).map fun (a : Nat) => (a : Int)
theorem JX (p n x : Nat) : (dgi p n x).length = n := by simp [dgi, QT]
theorem QV {p n x i : Nat} (h : i < n) : vo (dgi p n x) i = dv p x i := by
 rw [<- Jc2 p n x i h]; unfold vo dgi; rw [List.getD_eq_getElem?_getD, List.getElem?_map, List.getD_eq_getElem?_getD]; rw [List.getElem?_eq_getElem (by rw [QT]; exact h)]; rfl
theorem Jtp {b : Bool} {Q : Int -> Prop} (h : Q (if b = true then 0 else 1)) : Jfg b Q := by
 cases b
 .exact ⟨fun h' => absurd h' (by decide), fun _ => h⟩
 .exact ⟨fun _ => h, fun h' => absurd h' (by decide)⟩
theorem Jxd {n k : Nat} (hn : 2 <= n) (hk : n < k * k) (h : ∀ e, e < k -> 2 <= e -> n % e ≠ 0) : IsLf n n := by
 refine ⟨hn, Nat.mod_self n, fun e he hm => ?_⟩; rcases Nat.lt_or_ge e k with hc | hc
 .exact absurd hm (h e hc he)
 .obtain ⟨t, ht⟩ := Nat.dvd_of_mod_eq_zero hm; have hq1 : t < k := by
   rcases Nat.lt_or_ge t k with h1 | h1
   .exact h1
   .have := Nat.mul_le_mul hc h1; omega
  rcases Nat.lt_or_ge t 2 with h2 | h2
  .have : t = 0 ∨ t = 1 := by omega
   rcases this with rfl | rfl
   .omega
   .omega
  .exact absurd (Nat.mod_eq_zero_of_dvd ⟨e, by rw [ht, Nat.mul_comm]⟩) (h t hq1 h2)
theorem Jeb {x : Nat} {Q : Int -> Prop} (h2 : 2 <= x) (hx : x <= 256) (h : ∀ d : Nat, IsLf x d -> Q d) : Yc x Q := by
 refine ⟨fun z => ∃ k : Nat, z = k /\ 2 <= k /\ k <= 17 /\ ∀ e, e < k -> 2 <= e -> x % e ≠ 0, fun z => (20 - z).toNat, ⟨2, rfl, by omega, by omega, fun e _ _ => by omega⟩, ?_⟩; rintro _ ⟨k, rfl, hk2, hk, hm⟩; dsimp only; have e1 : ((k : Nat) : Int) * (k : Int) = ((k * k : Nat) : Int) := by push_cast; rfl
 have hb : k * k <= 17 * 17 := Nat.mul_le_mul hk hk; rw [e1]; refine ⟨Js (by omega) (by omega), fun hle => ⟨by omega, ?_, ?_⟩, fun hgt => ?_⟩
 .intro h0; rw [Jc9] at h0; refine h k ⟨hk2, by omega, fun e he h3 => ?_⟩; rcases Nat.lt_or_ge e k with hc | hc
  .exact absurd h3 (hm e hc he)
  .exact hc
 .intro h0; rw [Jc9] at h0; have hk16 : k <= 16 := by
   rcases Nat.lt_or_ge 16 k with hc | hc
   .have := Nat.mul_le_mul hc hc; omega
   .exact hc
  refine ⟨Js (by omega) (by omega), ⟨k + 1, by push_cast; rfl, by omega, by omega, fun e he h3 => ?_⟩, by omega⟩; rcases Nat.lt_or_ge e k with hc | hc
  .exact hm e hc h3
  .rw [show e = k by omega]; omega
 .exact h x (Jxd h2 (by omega) hm)
theorem IsLf.uniq {n d e : Nat} (h : IsLf n d) (h' : IsLf n e) : d = e := Nat.le_antisymm (h.min e h'.two h'.dvd) (h'.min d h.two h.dvd)
theorem Jpq {x : Int} {Q : Bool -> Prop} (hx : x <= 256) (h : ∀ b : Bool, (b = true ↔ 2 <= x /\ IsLf x.toNat x.toNat) -> Q b) : Jak x Q := by
 refine ⟨fun h2 => ?_, fun h2 => h false ⟨fun h' => by (cases h'), fun h' => absurd h'.1 h2⟩⟩; obtain ⟨n, rfl⟩ := Int.eq_ofNat_of_zero_le (show 0 <= x by omega); refine Jeb (by omega) (by omega) fun d hd => h _ ?_; rw [decide_eq_true_iff, Int.toNat_natCast]; constructor
 .intro he; have : d = n := by omega
  subst this; exact ⟨h2, hd⟩
 .rintro ⟨_, hn⟩; rw [hd.uniq hn]
theorem Jtl {x : Nat} {Q : Bool -> Prop} (h2 : 2 <= x) (hx : x <= 256) (h : ∀ b : Bool, (b = true ↔ IsLf x x) -> Q b) : Jb9 x Q := by
 refine ⟨fun z => ∃ k : Nat, z = k /\ 2 <= k /\ k <= x /\ ∀ e, e < k -> 2 <= e -> x % e ≠ 0, fun z => (x - z).toNat, ⟨2, rfl, by omega, by omega, fun e _ _ => by omega⟩, ?_⟩; rintro _ ⟨k, rfl, hk2, hk, hm⟩; dsimp only; refine ⟨fun hlt => ⟨by omega, fun h0 => ?_, fun h0 => ?_⟩, fun hge => ?_⟩
 .rw [Jc9] at h0; refine h false ⟨fun h' => by (cases h'), fun hp => ?_⟩; have := hp.min k hk2 (by omega); omega
 .rw [Jc9] at h0; refine ⟨Js (by omega) (by omega), ⟨k + 1, by push_cast; rfl, by omega, by omega, fun e he h3 => ?_⟩, by omega⟩; rcases Nat.lt_or_ge e k with hc | hc
  .exact hm e hc h3
  .rw [show e = k by omega]; omega
 .refine h true ⟨fun _ => ⟨h2, Nat.mod_self x, fun e he h0 => ?_⟩, fun _ => rfl⟩; rcases Nat.lt_or_ge e x with hc | hc
  .exact absurd h0 (hm e (by omega) he)
  .exact hc
theorem Qw {p a b : Nat} (hp : 0 < p) (h : a <= b) : p ^ a <= p ^ b := Nat.pow_le_pow_right hp h
theorem Jgr {p : Nat} {M : Int} {mf : LI} {Q : Int -> Prop} (hp : 2 <= p) (hp2 : p <= 256) (h : ∀ r : Int, (p ^ M.toNat <= 256 -> r = ((p ^ M.toNat : Nat) : Int)) -> (256 < p ^ M.toNat -> 256 < r) -> Q r) : Zz p M mf Q := by
 refine ⟨fun r => (p ^ M.toNat <= 256 -> r = ((p ^ M.toNat : Nat) : Int)) /\ (256 < p ^ M.toNat -> 256 < r), ⟨fun z i => ∃ k : Nat, i = k /\ k <= M.toNat /\ z = ((p ^ k : Nat) : Int) /\ p ^ k <= 65536 /\ k <= 16, fun z i => (20 - i).toNat, ⟨0, rfl, Nat.zero_le _, by simp, by simp, by omega⟩, ?_⟩, fun r hr => h r hr.1 hr.2⟩; rintro _ _ ⟨k, rfl, hk, rfl, hb, hk16⟩; dsimp only; refine ⟨fun hlt => ⟨fun hle => ?_, fun hgt => ?_⟩, fun hge => ?_⟩
 .have hk8 : p ^ k <= 256 := by omega
  have hkk : k < 16 := by
   rcases Nat.lt_or_ge k 16 with hc | hc
   .exact hc
   .have h1 := Qw (p := p) (by omega) hc; have h2 : 2 ^ 16 <= p ^ 16 := Nat.pow_le_pow_left hp 16; omega
  have e1 : ((p ^ k : Nat) : Int) * (p : Int) = ((p ^ (k + 1) : Nat) : Int) := by rw [Nat.pow_succ]; push_cast; rfl
  have hb2 : p ^ (k + 1) <= 65536 := by
   rw [Nat.pow_succ]; have := Nat.mul_le_mul hk8 hp2; omega
  rw [e1]; exact ⟨Js (by omega) (by omega), Js (by omega) (by omega), ⟨k + 1, by push_cast; rfl, by omega, rfl, hb2, by omega⟩, by omega⟩
 .have := Qw (p := p) (by omega) hk; exact ⟨fun h' => by omega, fun _ => by omega⟩
 .have : k = M.toNat := by omega
  subst this; exact ⟨fun _ => rfl, fun h' => by omega⟩
def Jfn (P M : Int) : Int := if 2 <= P /\ 1 <= M /\ P.toNat ^ M.toNat <= 256 then ((P.toNat ^ M.toNat : Nat) : Int) else 0
theorem Jd9 {P M : Int} {mf : LI} {Q : Int -> Prop} (h : Q (Jfn P M)) : Y9 P M mf Q := by
 refine ⟨fun h1 => ?_, fun h1 => ⟨fun h2 => ?_, fun h2 => ⟨fun h3 => ?_, fun h3 => ?_⟩⟩⟩
 .rw [Jfn, if_neg (by omega)] at h; exact h
 .rw [Jfn, if_neg (by omega)] at h; exact h
 .rw [Jfn, if_neg] at h
  .exact h
  .rintro ⟨h4, h5, h6⟩; have e1 : 2 ^ 9 <= P.toNat ^ 9 := Nat.pow_le_pow_left (by omega) 9; have e2 := Qw (p := P.toNat) (by omega) (show 9 <= M.toNat by omega); omega
 .obtain ⟨p, rfl⟩ := Int.eq_ofNat_of_zero_le (show 0 <= P by omega); obtain ⟨m, rfl⟩ := Int.eq_ofNat_of_zero_le (show 0 <= M by omega); refine ⟨fun z i => ∃ k : Nat, i = k /\ k <= m /\ z = ((p ^ k : Nat) : Int) /\ p ^ k <= 256, fun z i => (20 - i).toNat, ⟨0, rfl, Nat.zero_le _, by simp, by simp⟩, ?_⟩; rintro _ _ ⟨k, rfl, hk, rfl, hb⟩; dsimp only; rw [show (256 : Int) = ((256 : Nat) : Int) from rfl, Jts]; have hd : 256 / p <= 256 := Nat.div_le_self _ _; have hdm : ∀ a, a <= 256 / p ↔ a * p <= 256 := fun a => Nat.le_div_iff_mul_le (show 0 < p by omega); generalize 256 / p = D at *
  refine ⟨fun hlt => ⟨⟨by omega, Js (by omega) (by omega)⟩, fun hgt => ?_, fun hle => ?_⟩, fun hge => ?_⟩
  .rw [Jfn, if_neg] at h
   .exact h
   .rintro ⟨_, _, h6⟩; simp only [Int.toNat_natCast] at h6; have h7 : p ^ (k + 1) <= 256 := Nat.le_trans (Qw (by omega) (by omega)) h6; rw [Nat.pow_succ] at h7; have := (hdm _).2 h7; omega
  .have h7 : p ^ (k + 1) <= 256 := by rw [Nat.pow_succ]; exact (hdm _).1 (by omega)
   have e1 : ((p ^ k : Nat) : Int) * (p : Int) = ((p ^ (k + 1) : Nat) : Int) := by rw [Nat.pow_succ]; push_cast; rfl
   rw [e1]; exact ⟨Js (by omega) (by omega), Js (by omega) (by omega), ⟨k + 1, by push_cast; rfl, by omega, rfl, h7⟩, by omega⟩
  .have : k = m := by omega
   subst this; rw [Jfn, if_pos ⟨by omega, by omega, by simpa using hb⟩] at h
   simpa using h
theorem Jby (x p i : Nat) : x / p ^ i / p = x / p ^ (i + 1) := by rw [Nat.div_div_eq_div_mul, Nat.pow_succ]
theorem Jed {p n x : Nat} {Q : LI -> Prop} (hp : 0 < p) (hn : n <= 1000) (hx : x <= 1000) (h : Q (dgi p n x)) : Ze p n x Q := by
 refine ⟨⟨by omega, by omega, by omega⟩, fun l z i => ∃ k : Nat, i = k /\ k <= n /\ z = ((x / p ^ k : Nat) : Int) /\ l.length = n /\ ∀ j, j < k -> vo l j = dv p x j, fun l z i => (n - i).toNat, ⟨0, rfl, Nat.zero_le _, by simp, by simp, fun j hj => by omega⟩, ?_⟩; rintro l _ _ ⟨k, rfl, hk, rfl, hl, hv⟩; dsimp only; have hd : x / p ^ k <= x := Nat.div_le_self _ _; have hd2 : x / p ^ k / p <= x / p ^ k := Nat.div_le_self _ _; rw [Jts, Jc9, Qa]; simp only [Int.toNat_natCast]; refine ⟨fun hlt => ⟨by omega, ⟨by omega, by omega⟩, ⟨by omega, YQ (by omega)⟩, Js (by omega) (by omega), ⟨k + 1, by push_cast; rfl, by omega, by rw [Jby], by rw [List.length_set, hl], fun j hj => ?_⟩, by omega⟩, fun hge => ?_⟩
 .rw [J5]; by_cases hjk : k = j
  .subst hjk; rw [if_pos ⟨rfl, by omega⟩]; rfl
  .rw [if_neg (by omega)]; exact hv j (by omega)
 .have : l = dgi p n x := YP (by rw [hl, JX]) fun j hj => by rw [hv j (by omega), QV (by omega)]
  rw [this]; exact h
theorem Jf3 {p n x : Nat} {Q : LI -> Prop} (hp : 0 < p) (hn : n <= 1000) (hx : x <= 1000) (h : Q (dgi p n x)) : Y8 x p n Q := by
 refine ⟨⟨by omega, by omega, by omega⟩, fun l z i => ∃ k : Nat, i = k /\ k <= n /\ z = ((x / p ^ k : Nat) : Int) /\ l.length = n /\ ∀ j, j < k -> vo l j = dv p x j, fun l z i => (n - i).toNat, ⟨0, rfl, Nat.zero_le _, by simp, by simp, fun j hj => by omega⟩, ?_⟩; rintro l _ _ ⟨k, rfl, hk, rfl, hl, hv⟩; dsimp only; have hd : x / p ^ k <= x := Nat.div_le_self _ _; have hd2 : x / p ^ k / p <= x / p ^ k := Nat.div_le_self _ _; rw [Jts, Jc9, Qa]; simp only [Int.toNat_natCast]; refine ⟨fun hlt => ⟨by omega, ⟨by omega, by omega⟩, ⟨by omega, YQ (by omega)⟩, Js (by omega) (by omega), ⟨k + 1, by push_cast; rfl, by omega, by rw [Jby], by rw [List.length_set, hl], fun j hj => ?_⟩, by omega⟩, fun hge => ?_⟩
 .rw [J5]; by_cases hjk : k = j
  .subst hjk; rw [if_pos ⟨rfl, by omega⟩]; rfl
  .rw [if_neg (by omega)]; exact hv j (by omega)
 .have : l = dgi p n x := YP (by rw [hl, JX]) fun j hj => by rw [hv j (by omega), QV (by omega)]
  rw [this]; exact h
theorem Jip {p m x : Nat} {mf : LI} {Q : Int -> Prop} (hp : 2 <= p) (hp2 : p <= 256) (hx : x <= 256) (h : Q ((if x % p = p - 1 then x - x % p else x + 1 : Nat) : Int)) : YI p m mf x Q := by
 have hm := Nat.mod_lt x (show 0 < p by omega); have hm2 := Nat.mod_le x p; refine ⟨by omega, Js (by omega) (by omega), fun h0 => ⟨by omega, ?_⟩, fun h0 => ?_⟩
 .rw [Jc9] at h0 ⊢; rw [if_pos (by omega)] at h; refine ⟨Js (by omega) (by omega), ?_⟩; rw [show (x : Int) - ((x % p : Nat) : Int) = ((x - x % p : Nat) : Int) by omega]; exact h
 .rw [Jc9] at h0; rw [if_neg (by omega)] at h; exact ⟨Js (by omega) (by omega), by push_cast at h ⊢; exact h⟩
theorem Jbm {l : LI} {Q : LI -> Prop} (hl : l.length <= 1000000) (h : Q l) : YM l Q := by
 intro b hb; refine ⟨fun h1 => by rw [<- hb h1]; exact h, fun _ => ⟨by omega, by simpa using h⟩⟩
end Go.Proofs.YtjgpkljepgcekaaGreat
namespace Go.Proofs.YtjgpkljepgcekaaGreat
theorem Jad {l : LI} {f : Int -> Bool} : l.any f = true ↔ ∃ i, i < l.length /\ f (vo l i) = true := by
  rw [List.any_eq_true]
  constructor
  . rintro ⟨x, hx, hf⟩
    obtain ⟨i, hi, rfl⟩ := List.mem_iff_getElem.1 hx
    refine ⟨i, hi, ?_⟩
    unfold vo; rw [List.getD_eq_getElem?_getD, List.getElem?_eq_getElem hi]; exact hf
  . rintro ⟨i, hi, hf⟩
    unfold vo at hf
    rw [List.getD_eq_getElem?_getD, List.getElem?_eq_getElem hi] at hf
    exact ⟨l[i], List.getElem_mem hi, hf⟩
theorem Jee {l : LI} {p : Int -> (Bool -> Prop) -> Prop} {f : Int -> Bool} {Q : Bool -> Prop} (hl : l.length <= 1000000000) (hp : ∀ x (R : Bool -> Prop), R (f x) -> p x R) (h : Q (l.any f)) : YG l p Q := by
 refine ⟨fun z => ∃ k : Nat, z = k /\ k <= l.length /\ ∀ j, j < k -> f (vo l j) = false, fun z => (l.length - z).toNat, ⟨0, rfl, Nat.zero_le _, fun j hj => by omega⟩, ?_⟩; rintro _ ⟨k, rfl, hk, hv⟩; dsimp only; refine ⟨fun hlt => ⟨⟨by omega, by omega⟩, hp _ _ ⟨fun hb => ?_, fun hb => ⟨Js (by omega) (by omega), ⟨k + 1, by push_cast; rfl, by omega, fun j hj => ?_⟩, by omega⟩⟩⟩, fun hge => ?_⟩
 .rw [Jad.2 ⟨k, by omega, hb⟩] at h; rw [decide_eq_true (by omega)]; exact h
 .rw [JN] at hb; by_cases hjk : j = k
  .subst hjk; exact hb
  .exact hv j (by omega)
 .have : l.any f = false := by
   cases hb : l.any f with
   | false => rfl
   | true =>
    obtain ⟨i, hi, hf⟩ := Jad.1 hb; rw [hv i (by omega)] at hf; cases hf
  rw [this] at h; exact h
theorem Jgx {p : Nat} {a l c : Int} (hp : 0 < p) (ha : 0 <= a) (hl : l <= p) (hc : 0 <= c) : (a + ((p : Int) - l) * c).tmod p = (a - l * c) % (p : Int) := by
 have h1 : 0 <= ((p : Int) - l) * c := Int.mul_nonneg (by omega) hc; rw [Int.tmod_eq_emod_of_nonneg (by omega)]; have : a + ((p : Int) - l) * c = (a - l * c) + p * c := by rw [Int.sub_mul]; omega
 rw [this, Int.add_mul_emod_self_left]
theorem Jk6 {p d n : Nat} {l R : Vec} (hp : 0 < p) {N : Nat} (hR : Cn p N R) : ∀ k, Cn p N (rem p d l R n k)
 | 0 => hR
 | k + 1 => fun j hj => by
  show 0 <= rst _ _ _ _ _ j /\ rst _ _ _ _ _ j < _; unfold rst; split
  .exact ⟨Int.emod_nonneg _ (by omega), Int.emod_lt_of_pos _ (by omega)⟩
  .exact Jk6 hp hR k j hj
theorem ZX {a b : Int} {p : Nat} (hp : p <= 256) (ha : 0 <= a /\ a <= p) (hb : 0 <= b /\ b <= p) : 0 <= a * b /\ a * b <= 65536 := by
 obtain ⟨x, rfl⟩ := Int.eq_ofNat_of_zero_le ha.1; obtain ⟨y, rfl⟩ := Int.eq_ofNat_of_zero_le hb.1; have : x * y <= 256 * 256 := Nat.mul_le_mul (by omega) (by omega); have e : ((x : Int)) * (y : Int) = ((x * y : Nat) : Int) := by push_cast; rfl
 rw [e]; omega
theorem Jgu {l : LI} {n i : Nat} (h : i < n) : vo (l.take n) i = vo l i := by
 unfold vo; rw [List.getD_eq_getElem?_getD, List.getD_eq_getElem?_getD, List.getElem?_take, if_pos h]
theorem Jf5 {p : Nat} {l o : LI} {Q : Bool -> Prop} (hp : 0 < p) (hp2 : p <= 256) (hl : Cn p l.length (vo l)) (ho : Cn p o.length (vo o)) (hd : 0 < l.length) (hdn : l.length <= o.length) (hn : o.length <= 1000)
  (h : ∀ b : Bool, (b = true ↔ Dvd p l.length (vo l) (vo o) o.length) -> Q b) : Zd p l o Q := by
 refine Jbm (by omega) ⟨Js (by omega) (by omega), ?_⟩; generalize hdd : l.length = d at *
 generalize hnn : o.length = n at *
 refine ⟨fun x z => ∃ k : Nat, z = (n : Int) - 1 - k /\ k <= n - d /\ x.length = n /\ ∀ j, j < n -> vo x j = rem p d (vo l) (vo o) n k j, fun x z => (z + 1).toNat, ⟨0, by omega, by omega, hnn, fun j _ => rfl⟩, ?_⟩; rintro x _ ⟨k, rfl, hk, hx, hv⟩; dsimp only; have hc := Jk6 (d := d) (l := vo l) (n := n) hp ho k; refine ⟨fun hle => ?_, fun hgt => ?_⟩
 .obtain ⟨i, hi⟩ : ∃ i : Nat, (n : Int) - 1 - k = i := ⟨n - 1 - k, by omega⟩
  rw [hi]; have hin : i = n - 1 - k := by omega
  refine ⟨fun y z => ∃ t : Nat, z = t /\ t <= d /\ y.length = n /\ ∀ j, j < n -> vo y j = if i <= j + d /\ j + d < i + t then rem p d (vo l) (vo o) n (k + 1) j else rem p d (vo l) (vo o) n k j, fun y z => (d - z).toNat, ⟨0, rfl, Nat.zero_le _, hx, fun j hj => by rw [if_neg (by omega)]; exact hv j hj⟩, ?_⟩; rintro y _ ⟨t, rfl, ht, hy, hw⟩; dsimp only; have e1 : (i : Int) - (d : Int) + (t : Int) = ((i - d + t : Nat) : Int) := by omega
  rw [e1, JN, JN, JN, Qa]; have hyi : vo y i = rem p d (vo l) (vo o) n k i := by rw [hw i (by omega), if_neg (by omega)]
  refine ⟨fun hlt => ?_, fun hge => ?_⟩
  .have hyj : vo y (i - d + t) = rem p d (vo l) (vo o) n k (i - d + t) := by rw [hw _ (by omega), if_neg (by omega)]
   have c1 := hl t (by omega); have c2 := hc i (by omega); have c3 := hc (i - d + t) (by omega); rw [hyi, hyj]; have c4 := ZX (a := (p : Int) - vo l t) (b := rem p d (vo l) (vo o) n k i) hp2 ⟨by omega, by omega⟩ ⟨c2.1, by omega⟩; refine ⟨⟨by omega, by omega⟩, Js (by omega) (by omega), Js (by omega) (by omega), ⟨by omega, by omega⟩, Js (by omega) (by omega), ⟨by omega, by omega⟩, Js (by omega) (by omega), Js (by omega) (by omega), by omega, ⟨by omega, by omega⟩, Js (by omega) (by omega), ⟨t + 1, by push_cast; rfl, by omega, by rw [List.length_set, hy], fun j hj => ?_⟩, by omega⟩; rw [J5]; by_cases hjt : i - d + t = j
   .subst hjt; rw [if_pos ⟨rfl, by omega⟩, if_pos (by omega), Jgx hp c3.1 (by omega) c2.1]; show _ = rst p d (n - 1 - k) (vo l) (rem p d (vo l) (vo o) n k) (i - d + t); unfold rst; rw [<- hin, if_pos (by omega), show i - d + t + d - i = t by omega]
   .rw [if_neg (fun h => hjt h.1), hw j hj]; by_cases hc2 : i <= j + d /\ j + d < i + t
    .rw [if_pos hc2, if_pos (by omega)]
    .rw [if_neg hc2, if_neg (by omega)]
  .refine ⟨Js (by omega) (by omega), ⟨k + 1, by omega, by omega, hy, fun j hj => ?_⟩, by omega⟩; rw [hw j hj]; have htd : t = d := by omega
   by_cases hc2 : i <= j + d /\ j + d < i + t
   .rw [if_pos hc2]
   .rw [if_neg hc2]; show _ = rst p d (n - 1 - k) (vo l) (rem p d (vo l) (vo o) n k) j; unfold rst; rw [<- hin, if_neg (by omega)]
 .refine ⟨⟨by omega, by omega⟩, Jee (f := fun x => decide (x ≠ 0)) (by rw [List.length_take]; omega) (fun x R hR => hR) (h _ ?_)⟩; have hkk : k = n - d := by omega
  have hlen : (x.take (d : Int).toNat).length = d := by rw [List.length_take]; omega
  rw [Bool.not_eq_true']; constructor
  .intro hb j hj; have h2 : ¬ (x.take (d : Int).toNat).any (fun x => decide (x ≠ 0)) = true := by rw [hb]; decide
   rw [Jad] at h2; have h3 : decide (vo (x.take (d : Int).toNat) j ≠ 0) = false := by
    cases hc3 : decide (vo (x.take (d : Int).toNat) j ≠ 0) with
    | false => rfl
    | true => exact absurd ⟨j, by omega, hc3⟩ h2
   rw [Jgu (by simpa using hj), hv j (by omega), hkk] at h3; have h4 := of_decide_eq_false h3; omega
  .intro hD; cases hb : (x.take (d : Int).toNat).any (fun x => decide (x ≠ 0)) with
   | false => rfl
   | true =>
    obtain ⟨i, hi, hf⟩ := Jad.1 hb; rw [Jgu (by simpa using (by omega : i < d)), hv i (by omega), hkk, hD i (by omega)] at hf; exact absurd hf (by decide)
theorem Jdn (o : LI) : vo (o ++ [(1 : Int)]) = fun i => if i = o.length then 1 else vo o i := by
 funext i; unfold vo; rw [List.getD_eq_getElem?_getD, List.getD_eq_getElem?_getD]; rcases Nat.lt_trichotomy i o.length with h | h | h
 .rw [List.getElem?_append_left h, if_neg (by omega)]
 .subst h; simp
 .rw [if_neg (by omega), List.getElem?_eq_none (by simp; omega), List.getElem?_eq_none (by omega)]
theorem Jn9 {p : Nat} {o : LI} (hp : 2 <= p) (ho : Cn p o.length (vo o)) : Cn p (o.length + 1) (vo (o ++ [(1 : Int)])) := fun i hi => by
 rw [Jdn]; dsimp only; split
 .omega
 .exact ho i (by omega)
theorem Jku {p : Nat} {l o : LI} {Q : Bool -> Prop} (hp : 2 <= p) (hp2 : p <= 256) (hl : Cn p l.length (vo l)) (ho : Cn p o.length (vo o)) (hd : 0 < l.length) (hdn : l.length <= o.length) (hn : o.length <= 1000)
  (h : ∀ b : Bool, (b = true ↔ Dvd p l.length (vo l) (fun i => if i = o.length then 1 else vo o i) (o.length + 1)) -> Q b) : YA l o p Q := by
 unfold YA; simp only [List.nil_append]; rw [<- Jdn] at h; have hcR := Jn9 hp ho; have hnn : (o ++ [(1 : Int)]).length = o.length + 1 := by simp
 refine ⟨by omega, by omega, Js (by omega) (by omega), ?_⟩; generalize hdd : l.length = d at *
 generalize hN : o.length + 1 = n at *
 generalize hoo : o ++ [(1 : Int)] = r at *
 refine ⟨fun x z => ∃ k : Nat, z = (n : Int) - 1 - k /\ k <= n - d /\ x.length = n /\ ∀ j, j < n -> vo x j = if j + k < n then rem p d (vo l) (vo r) n k j else 0, fun x z => (z + 1).toNat, ⟨0, by omega, by omega, hnn, fun j hj => by rw [if_pos (by omega)]; rfl⟩, ?_⟩; rintro x _ ⟨k, rfl, hk, hx, hv⟩; dsimp only; have hc := Jk6 (d := d) (l := vo l) (n := n) (p := p) (by omega) hcR k; refine ⟨fun hle => ⟨⟨by omega, by omega⟩, ?_⟩, fun hgt => ?_⟩
 .obtain ⟨i, hi⟩ : ∃ i : Nat, (n : Int) - 1 - k = i := ⟨n - 1 - k, by omega⟩
  rw [hi]; have hin : i = n - 1 - k := by omega
  have hxi : vo x i = rem p d (vo l) (vo r) n k i := by rw [hv i (by omega), if_pos (by omega)]
  refine ⟨fun y z => ∃ t : Nat, z = t /\ t <= d /\ y.length = n /\ ∀ j, j < n -> vo y j = if i <= j + d /\ j + d < i + t then rem p d (vo l) (vo r) n (k + 1) j else vo x j, fun y z => (d - z).toNat, ⟨0, rfl, Nat.zero_le _, hx, fun j hj => by rw [if_neg (by omega)]⟩, ?_⟩; rintro y _ ⟨t, rfl, ht, hy, hw⟩; dsimp only; have e1 : (i : Int) - (d : Int) + (t : Int) = ((i - d + t : Nat) : Int) := by omega
  rw [e1, JN, JN, JN, Qa, Qa]; refine ⟨fun hlt => ?_, fun hge => ?_⟩
  .have hyj : vo y (i - d + t) = rem p d (vo l) (vo r) n k (i - d + t) := by rw [hw _ (by omega), if_neg (by omega), hv _ (by omega), if_pos (by omega)]
   have c1 := hl t (by omega); have c2 := hc i (by omega); have c3 := hc (i - d + t) (by omega); rw [hxi, hyj]; have c4 := ZX (a := (p : Int) - rem p d (vo l) (vo r) n k i) (b := vo l t) hp2 ⟨by omega, by omega⟩ ⟨c1.1, by omega⟩; refine ⟨Js (by omega) (by omega), Js (by omega) (by omega), Js (by omega) (by omega), Js (by omega) (by omega), ⟨by omega, by omega⟩, Js (by omega) (by omega), ⟨by omega, by omega⟩, Js (by omega) (by omega), Js (by omega) (by omega), by omega, ⟨by omega, by omega⟩, Js (by omega) (by omega), ⟨t + 1, by push_cast; rfl, by omega, by rw [List.length_set, hy], fun j hj => ?_⟩, by omega⟩; rw [J5]; by_cases hjt : i - d + t = j
   .subst hjt; rw [if_pos ⟨rfl, by omega⟩, if_pos (by omega), Jgx (by omega) c3.1 (by omega) c1.1]; show _ = rst p d (n - 1 - k) (vo l) (rem p d (vo l) (vo r) n k) (i - d + t); unfold rst; rw [<- hin, if_pos (by omega), show i - d + t + d - i = t by omega, Int.mul_comm]
   .rw [if_neg (fun h => hjt h.1), hw j hj]; by_cases hc2 : i <= j + d /\ j + d < i + t
    .rw [if_pos hc2, if_pos (by omega)]
    .rw [if_neg hc2, if_neg (by omega)]
  .refine ⟨⟨by omega, by omega⟩, Js (by omega) (by omega), ⟨k + 1, by omega, by omega, by rw [List.length_set, hy], fun j hj => ?_⟩, by omega⟩; rw [J5]; by_cases hij : i = j
   .subst hij; rw [if_pos ⟨rfl, by omega⟩, if_neg (by omega)]
   .rw [if_neg (fun h => hij h.1), hw j hj]; have htd : t = d := by omega
    by_cases hc2 : i <= j + d /\ j + d < i + t
    .rw [if_pos hc2, if_pos (by omega)]
    .rw [if_neg hc2, hv j hj]; by_cases hjk : j + k < n
     .rw [if_pos hjk, if_pos (by omega)]; show _ = rst p d (n - 1 - k) (vo l) (rem p d (vo l) (vo r) n k) j; unfold rst; rw [<- hin, if_neg (by omega)]
     .rw [if_neg hjk, if_neg (by omega)]
 .have hkk : k = n - d := by omega
  refine ⟨fun z => ∃ t : Nat, z = t /\ t <= n /\ ∀ j, j < t -> vo x j = 0, fun z => (n - z).toNat, ⟨0, rfl, Nat.zero_le _, fun j hj => by omega⟩, ?_⟩; rintro _ ⟨t, rfl, ht, hz⟩; dsimp only; rw [JN]; refine ⟨fun hlt => ⟨⟨by omega, by omega⟩, fun hne => ?_, fun heq => ⟨Js (by omega) (by omega), ⟨t + 1, by push_cast; rfl, by omega, fun j hj => ?_⟩, by omega⟩⟩, fun hge => ?_⟩
  .refine h false ⟨fun h' => absurd h' (by decide), fun hD => ?_⟩; rw [hv t (by omega)] at hne; by_cases hc2 : t + k < n
   .rw [if_pos hc2, hkk, hD t (by omega)] at hne; exact absurd rfl hne
   .rw [if_neg hc2] at hne; exact absurd rfl hne
  .by_cases hjt : j = t
   .subst hjt; omega
   .exact hz j (by omega)
  .refine h true ⟨fun _ j hj => ?_, fun _ => rfl⟩; have h1 := hz j (by omega); rw [hv j (by omega), if_pos (by omega), hkk] at h1; exact h1
theorem YS {p d w : Nat} (hw : w < p ^ d) : vo (dgi p d w) = dv p w := by
 funext i; rcases Nat.lt_or_ge i d with h | h
 .exact QV h
 .rw [Jd7 (by rw [JX]; exact h), Ju2 hw h]
theorem Jc3 {p d w : Nat} (hp : 0 < p) (hw : w < p ^ d) (n : Nat) : Cn p n (vo (dgi p d w)) := by rw [YS hw]; exact Jgg hp w n
theorem Jwn {p m : Nat} {mf : LI} {Q : Bool -> Prop} (hp : 2 <= p) (hp2 : p <= 256) (hm : mf.length = m) (hq : p ^ m <= 256) (hc : Cn p m (vo mf))
  (h : ∀ b : Bool, (b = true ↔ Irr p m (vo mf)) -> Q b) : QU p m mf Q := by
 have hm9 : m <= 8 := by
  rcases Nat.lt_or_ge 8 m with h1 | h1
  .have e1 : 2 ^ 9 <= p ^ 9 := Nat.pow_le_pow_left (by omega) 9; have e2 := Qw (p := p) (by omega) (show 9 <= m by omega); omega
  .exact h1
 refine Jbm (by omega) ⟨by omega, ?_⟩; have hlen : (mf ++ [(1 : Int)]).length = m + 1 := by simp [hm]
 have hcs : Cn p (m + 1) (vo (mf ++ [(1 : Int)])) := by have := Jn9 hp (o := mf) (by rw [hm]; exact hc); rwa [hm] at this
 have hpd : ∀ d, 2 * d <= m -> p ^ d <= 256 := fun d hd => Nat.le_trans (Qw (by omega) (by omega)) hq; refine ⟨fun a b => ∃ d : Nat, a = d /\ 1 <= d /\ 2 * (d - 1) <= m /\ b = ((p ^ d : Nat) : Int) /\ p ^ d <= 65536 /\ ∀ e, 0 < e -> e < d -> 2 * e <= m -> ∀ w, w < p ^ e -> ¬ Dvd p e (dv p w) (fun i => if i = m then 1 else vo mf i) (m + 1), fun a b => (20 - a).toNat, ⟨1, rfl, by omega, by omega, by simp, by simp; omega, fun e h1 h2 => by omega⟩, ?_⟩; rintro _ _ ⟨d, rfl, hd1, hd2, rfl, hdp, hnd⟩; dsimp only; refine ⟨Js (by omega) (by omega), fun hle => ?_, fun hgt => ?_⟩
 .have hpd' := hpd d (by omega); refine ⟨fun z => ∃ w : Nat, z = w /\ w <= p ^ d /\ ∀ u, u < w -> ¬ Dvd p d (dv p u) (fun i => if i = m then 1 else vo mf i) (m + 1), fun z => ((p ^ d : Nat) - z).toNat, ⟨0, rfl, Nat.zero_le _, fun u hu => by omega⟩, ?_⟩; rintro _ ⟨w, rfl, hw, hnw⟩; dsimp only; refine ⟨fun hlt => ?_, fun hge => ?_⟩
  .have hw2 : w < p ^ d := by omega
   refine ⟨_, Jed (by omega) (by omega) (by omega) rfl, ?_⟩; have hdl := JX p d w; refine (?_ : ∃ r : Bool, Zd p (dgi p d w) (mf ++ [(1 : Int)]) (fun q => q = r) /\ _); by_cases hD : Dvd p d (dv p w) (fun i => if i = m then 1 else vo mf i) (m + 1)
   .refine ⟨true, Jf5 (by omega) hp2 (by rw [hdl]; exact Jc3 (by omega) hw2 d) (by rw [hlen]; exact hcs) (by omega) (by omega) (by omega) fun b hb => ?_, fun _ => ?_, fun h' => absurd h' (by decide)⟩
    .rw [hdl, hlen, YS hw2, Jdn, hm] at hb; exact hb.2 hD
    .exact h false ⟨fun h' => absurd h' (by decide), fun hI => absurd hD (hI d (by omega) (by omega) w hw2)⟩
   .refine ⟨false, Jf5 (by omega) hp2 (by rw [hdl]; exact Jc3 (by omega) hw2 d) (by rw [hlen]; exact hcs) (by omega) (by omega) (by omega) fun b hb => ?_, fun h' => absurd h' (by decide), fun _ => ?_⟩
    .rw [hdl, hlen, YS hw2, Jdn, hm] at hb; cases b with
     | false => rfl
     | true => exact absurd (hb.1 rfl) hD
    .refine ⟨Js (by omega) (by omega), ⟨w + 1, by push_cast; rfl, by omega, fun u hu => ?_⟩, by omega⟩; by_cases huw : u = w
     .subst huw; exact hD
     .exact hnw u (by omega)
  .have e1 : ((p ^ d : Nat) : Int) * (p : Int) = ((p ^ (d + 1) : Nat) : Int) := by rw [Nat.pow_succ]; push_cast; rfl
   have hb2 : p ^ (d + 1) <= 65536 := by
    rw [Nat.pow_succ]; have := Nat.mul_le_mul hpd' hp2; omega
   rw [e1]; refine ⟨Js (by omega) (by omega), YQ (by omega), ⟨d + 1, by push_cast; rfl, by omega, by omega, rfl, hb2, fun e he0 he h2 u hu => ?_⟩, by omega⟩; by_cases hed : e = d
   .subst hed; exact hnw u (by omega)
   .exact hnd e he0 (by omega) h2 u hu
 .exact h true ⟨fun _ e he0 h2 u hu => hnd e he0 (by omega) h2 u hu, fun _ => rfl⟩
theorem v_rirr {p m : Nat} {mf : LI} {Q : Bool -> Prop} (hp : 2 <= p) (hp2 : p <= 256) (hm : mf.length = m) (hq : p ^ m <= 256) (hc : Cn p m (vo mf))
  (h : ∀ b : Bool, (b = true ↔ Irr p m (vo mf)) -> Q b) : Jfe mf p Q := by
 have hm9 : m <= 8 := by
  rcases Nat.lt_or_ge 8 m with h1 | h1
  .have e1 : 2 ^ 9 <= p ^ 9 := Nat.pow_le_pow_left (by omega) 9; have e2 := Qw (p := p) (by omega) (show 9 <= m by omega); omega
  .exact h1
 unfold Jfe; rw [hm]; have hpd : ∀ d, 2 * d <= m -> p ^ d <= 256 := fun d hd => Nat.le_trans (Qw (by omega) (by omega)) hq; refine ⟨fun b a => ∃ d : Nat, a = d + 1 /\ 2 * d <= m /\ b = ((p ^ d : Nat) : Int) /\ ∀ e, 0 < e -> e <= d -> 2 * e <= m -> ∀ w, w < p ^ e -> ¬ Dvd p e (dv p w) (fun i => if i = m then 1 else vo mf i) (m + 1), fun b a => (20 - a).toNat, ⟨0, rfl, by omega, by simp, fun e h1 h2 => by omega⟩, ?_⟩; rintro _ _ ⟨d, rfl, hd2, rfl, hnd⟩; dsimp only; have hpd' := hpd d hd2; refine ⟨Js (by omega) (by omega), fun hle => ?_, fun hgt => ?_⟩
 .have e1 : ((p ^ d : Nat) : Int) * (p : Int) = ((p ^ (d + 1) : Nat) : Int) := by rw [Nat.pow_succ]; push_cast; rfl
  have hpd2 := hpd (d + 1) (by omega); rw [e1]; refine ⟨YQ (by omega), ?_⟩; refine ⟨fun z => ∃ w : Nat, z = w /\ w <= p ^ (d + 1) /\ ∀ u, u < w -> ¬ Dvd p (d + 1) (dv p u) (fun i => if i = m then 1 else vo mf i) (m + 1), fun z => ((p ^ (d + 1) : Nat) - z).toNat, ⟨0, rfl, Nat.zero_le _, fun u hu => by omega⟩, ?_⟩; rintro _ ⟨w, rfl, hw, hnw⟩; dsimp only; rw [show (d : Int) + 1 = ((d + 1 : Nat) : Int) by push_cast; rfl]; refine ⟨fun hlt => ?_, fun hge => ?_⟩
  .have hw2 : w < p ^ (d + 1) := by omega
   have hdl := JX p (d + 1) w; refine Jf3 (by omega) (by omega) (by omega) (Jku hp hp2 (by rw [hdl]; exact Jc3 (by omega) hw2 _) (by rw [hm]; exact hc) (by omega) (by omega) (by omega) fun b hb => ?_); rw [hdl, hm, YS hw2] at hb; refine ⟨fun hb1 => ?_, fun hb0 => ?_⟩
   .exact h false ⟨fun h' => absurd h' (by decide), fun hI => absurd (hb.1 hb1) (hI (d + 1) (by omega) (by omega) w hw2)⟩
   .refine ⟨Js (by omega) (by omega), ⟨w + 1, by push_cast; rfl, by omega, fun u hu => ?_⟩, by omega⟩; by_cases huw : u = w
    .subst huw; intro hD; rw [hb.2 hD] at hb0; exact absurd hb0 (by decide)
    .exact hnw u (by omega)
  .refine ⟨Js (by omega) (by omega), ⟨d + 1, rfl, by omega, rfl, fun e he0 he h2 u hu => ?_⟩, by omega⟩; by_cases hed : e = d + 1
   .subst hed; exact hnw u (by omega)
   .exact hnd e he0 (by omega) h2 u hu
 .exact h true ⟨fun _ e he0 h2 u hu => hnd e he0 (by omega) h2 u hu, fun _ => rfl⟩
structure FV (P M : Int) (mf : LI) (p m v : Nat) : Prop where
  eP : P = p
  eM : M = m
  pr : IsLf p p
  m0 : 0 < m
  q : p ^ m <= 256
  vlt : v < p ^ m
  m1 : m = 1 -> mf = [] /\ v = 0
  m2 : m ≠ 1 -> mf = dgi p m v
  irr : Irr p m (dv p v)
def Qt (P M : Int) (mf : LI) : Prop := ∃ p m v, FV P M mf p m v
open Classical in
noncomputable def ck (P M : Int) (mf : LI) : Int := if Qt P M mf then 0 else 1
theorem Jbz {P M : Int} {mf : LI} (h : Qt P M mf) : ck P M mf = 0 := if_pos h
theorem Q8 {P M : Int} {mf : LI} (h : ¬ Qt P M mf) : ck P M mf = 1 := if_neg h
theorem Jxg (p : Nat) (c : Vec) : Irr p 1 c := fun d h1 h2 => by omega
theorem Jf1 {p : Nat} (hp : IsLf p p) (hq : p <= 256) : FV p ((1 : Nat) : Int) [] p 1 0 := ⟨rfl, rfl, hp, by omega, by simpa using hq, by have := hp.two; simp; omega, fun _ => ⟨rfl, rfl⟩, fun h => absurd rfl h, Jxg p _⟩
theorem Jou {p m : Nat} {mf : LI} (hp : 0 < p) (hl : mf.length = m) (hc : Cn p m (vo mf)) : nm p m (vo mf) < p ^ m /\ mf = dgi p m (nm p m (vo mf)) /\ vo mf = dv p (nm p m (vo mf)) := by
 have hlt := Jaw (m := m) hp (vo mf); have he : mf = dgi p m (nm p m (vo mf)) := YP (by rw [hl, JX]) fun i hi => by
  have h1 := hc i (by omega); rw [QV (by omega), Jot hp _ (by omega), Int.emod_eq_of_lt h1.1 h1.2]
 exact ⟨hlt, he, by have := congrArg vo he; rw [YS hlt] at this; exact this⟩
theorem FV.cn {P M : Int} {mf : LI} {p m v : Nat} (h : FV P M mf p m v) (hm : m ≠ 1) : mf.length = m /\ Cn p m (vo mf) /\ Irr p m (vo mf) := by
 have := h.pr.two; rw [h.m2 hm]; exact ⟨JX p m v, Jc3 (by omega) h.vlt m, by rw [YS h.vlt]; exact h.irr⟩
theorem FV.vo {P M : Int} {mf : LI} {p m v : Nat} (h : FV P M mf p m v) : Go.Proofs.YtjgpkljepgcekaaGreat.vo mf = dv p v := by
 by_cases hm : m = 1
 .rw [(h.m1 hm).1, (h.m1 hm).2, Je5]; rfl
 .rw [h.m2 hm, YS h.vlt]
theorem Jgt {P M : Int} {mf : LI} {Q : Int -> Prop} (h : Q (ck P M mf)) : Jal P M mf Q := by
 refine ⟨fun h1 => ?_, fun h1 => Jpq (by omega) fun b hb => ⟨fun hb0 => ?_, fun hb1 => ?_⟩⟩
 .rw [Q8] at h
  .exact h
  .rintro ⟨p, m, v, hV⟩; have e1 := Qw (p := p) (by have := hV.pr.two; omega) hV.m0; have := hV.q; have := hV.eP; rw [show p ^ (0 + 1) = p from Nat.pow_one p] at e1; omega
 .rw [Q8] at h
  .exact h
  .rintro ⟨p, m, v, hV⟩; have := hV.pr.two; have : b = true := hb.2 ⟨by rw [hV.eP]; omega, by rw [hV.eP]; exact hV.pr⟩; rw [this] at hb0; exact absurd hb0 (by decide)
 .have hbt : b = true := by cases b <;> first | rfl | exact absurd hb1 (by decide)
  obtain ⟨hP2, hPr⟩ := hb.1 hbt; obtain ⟨p, rfl⟩ := Int.eq_ofNat_of_zero_le (show 0 <= P by omega); rw [Int.toNat_natCast] at hPr; refine ⟨fun h2 => ?_, fun h2 => Jgr (by omega) (by omega) fun r hr1 hr2 => ⟨fun h3 => ?_, fun h3 => ?_⟩⟩
  .rw [Q8] at h
   .exact h
   .rintro ⟨p', m, v, hV⟩; have := hV.m0; have := hV.eM; omega
  .rw [Q8] at h
   .exact h
   .rintro ⟨p', m, v, hV⟩; have e1 := hV.eM; have e2 := hV.eP; have e3 := hV.q; have : p = p' := by omega
    subst this; rw [e1, Int.toNat_natCast] at hr1; have := hr1 e3; omega
  .obtain ⟨m, rfl⟩ := Int.eq_ofNat_of_zero_le (show 0 <= M by omega); rw [Int.toNat_natCast] at hr1 hr2; have hq : p ^ m <= 256 := by
    rcases Nat.lt_or_ge 256 (p ^ m) with hc | hc
    .exact absurd (hr2 hc) h3
    .exact hc
   refine ⟨fun h4 => Jtp ?_, fun h4 => ⟨fun h5 => ?_, fun h5 => ?_⟩⟩
   .have hm1 : m = 1 := by omega
    subst hm1; by_cases hl : mf = []
    .subst hl; rw [Jbz ⟨_, _, _, Jf1 hPr (by omega)⟩] at h
     simpa using h
    .rw [Q8] at h
     .simpa [hl] using h
     .rintro ⟨p', m, v, hV⟩; exact hl (hV.m1 (by have := hV.eM; omega)).1
   .rw [Q8] at h
    .exact h
    .rintro ⟨p', m', v, hV⟩; have e1 := hV.eM; have := (hV.cn (by omega)).1; omega
   .have hlen : mf.length = m := by omega
    have hm8 : mf.length <= 1000000000 := by
     have := Nat.lt_two_pow_self (n := m); have e1 : 2 ^ m <= p ^ m := Nat.pow_le_pow_left (by omega) m; omega
    refine Jee (f := fun x => if x < 0 then true else decide ((p : Int) <= x)) hm8 (fun x R hR => ⟨fun hx => by simpa [hx] using hR, fun hx => by simpa [hx] using hR⟩) ⟨fun hb6 => ?_, fun hb6 => ?_⟩
    .rw [Q8] at h
     .exact h
     .rintro ⟨p', m', v, hV⟩; have e1 := hV.eM; have e2 := hV.eP; have e3 : p = p' := by omega
      have e4 : m = m' := by omega
      subst e3; subst e4; obtain ⟨i, hi, hf⟩ := Jad.1 hb6; have hcn := (hV.cn (by omega)).2.1 i (by omega); rw [if_neg (by omega)] at hf; have := of_decide_eq_true hf; omega
    .have hcn : Cn p m (vo mf) := fun i hi => by
      have h6 : ¬ mf.any (fun x => if x < 0 then true else decide ((p : Int) <= x)) = true := by rw [hb6]; decide
      rw [Jad] at h6; by_cases hx : vo mf i < 0
      .exact absurd ⟨i, by omega, by rw [if_pos hx]⟩ h6
      .by_cases hx2 : (p : Int) <= vo mf i
       .exact absurd ⟨i, by omega, by rw [if_neg hx, decide_eq_true hx2]⟩ h6
       .omega
     have hcl := Jou (by omega) hlen hcn; refine Jwn (by omega) (by omega) hlen hq hcn fun b2 hb2 => Jtp ?_; by_cases hI : Irr p m (vo mf)
     .rw [hb2.2 hI, if_pos rfl]; rw [Jbz ⟨p, m, nm p m (vo mf), rfl, rfl, hPr, by omega, hq, hcl.1, fun e => by omega, fun _ => hcl.2.1, by rw [<- hcl.2.2]; exact hI⟩] at h; exact h
     .rw [if_neg (fun e => hI (hb2.1 e))]; rw [Q8] at h
      .exact h
      .rintro ⟨p', m', v, hV⟩; have e1 := hV.eM; have e2 := hV.eP; have e3 : p = p' := by omega
       have e4 : m = m' := by omega
       subst e3; subst e4; exact hI (hV.cn (by omega)).2.2
theorem Jea {P M : Int} {mf : LI} {Q : Int -> Prop} (h : Q (ck P M mf)) : Za P M mf Q := by
 refine Jd9 ⟨fun h0 => ?_, fun h0 => ?_⟩
 .rw [Q8] at h
  .exact h
  .rintro ⟨p, m, v, hV⟩; have h1 := hV.pr.two; have h2 := hV.m0; have h3 := hV.q; rw [hV.eP, hV.eM, Jfn, if_pos ⟨by omega, by omega, by simpa using h3⟩] at h0; have h4 : 0 < p ^ m := Nat.pow_pos (by omega); simp only [Int.toNat_natCast] at h0; omega
 .unfold Jfn at h0; by_cases hc : 2 <= P /\ 1 <= M /\ P.toNat ^ M.toNat <= 256
  .obtain ⟨h1, h2, hq⟩ := hc; obtain ⟨p, rfl⟩ := Int.eq_ofNat_of_zero_le (show 0 <= P by omega); obtain ⟨m, rfl⟩ := Int.eq_ofNat_of_zero_le (show 0 <= M by omega); simp only [Int.toNat_natCast] at hq; have hp256 : p <= 256 := by
    have := Qw (p := p) (by omega) (show 1 <= m by omega); rw [Nat.pow_one] at this; omega
   refine Jtl (by omega) hp256 fun b hb => ⟨fun hb0 => ?_, fun hb1 => ?_⟩
   .rw [Q8] at h
    .exact h
    .rintro ⟨p', m', v, hV⟩; have e2 := hV.eP; have e3 : p = p' := by omega
     subst e3; rw [hb.2 hV.pr] at hb0; exact absurd hb0 (by decide)
   .have hbt : b = true := by cases b <;> first | rfl | exact absurd hb1 (by decide)
    have hPr := hb.1 hbt; refine ⟨fun h4 => ⟨fun h5 => ?_, fun h5 => ?_⟩, fun h4 => ⟨fun h5 => ?_, fun h5 => ?_⟩⟩
    .rw [Q8] at h
     .exact h
     .rintro ⟨p', m', v, hV⟩; have e1 := hV.eM; have := (hV.m1 (by omega)).1; rw [this] at h5; exact h5 rfl
    .have hm1 : m = 1 := by omega
     subst hm1; have hl : mf = [] := List.length_eq_zero_iff.1 (by omega); subst hl; rw [Jbz ⟨_, _, _, Jf1 hPr hp256⟩] at h; exact h
    .rw [Q8] at h
     .exact h
     .rintro ⟨p', m', v, hV⟩; have e1 := hV.eM; have := (hV.cn (by omega)).1; omega
    .have hlen : mf.length = m := by omega
     refine ⟨fun z => ∃ k : Nat, z = k /\ k <= m /\ Cn p k (vo mf), fun z => (m - z).toNat, ⟨0, rfl, Nat.zero_le _, fun i hi => by omega⟩, ?_⟩; rintro _ ⟨k, rfl, hk, hcn⟩; dsimp only; rw [JN]; have hno : ¬ (0 <= vo mf k /\ vo mf k < p) -> k < m -> ¬ Qt p m mf := by
      rintro hbad hkm ⟨p', m', v, hV⟩; have e1 := hV.eM; have e2 := hV.eP; have e3 : p = p' := by omega
      have e4 : m = m' := by omega
      subst e3; subst e4; exact hbad ((hV.cn (by omega)).2.1 k hkm)
     have hm8 : m <= 1000000000 := by
      have := Nat.lt_two_pow_self (n := m); have e1 : 2 ^ m <= p ^ m := Nat.pow_le_pow_left (by omega) m; omega
     refine ⟨fun hlt => ⟨fun hneg => ⟨⟨by omega, by omega⟩, ?_⟩, fun hpos => ⟨⟨by omega, by omega⟩, ⟨by omega, by omega⟩, fun hbig => ?_, fun hsm => ⟨Js (by omega) (by omega), ⟨k + 1, by push_cast; rfl, by omega, fun i hi => ?_⟩, by omega⟩⟩⟩, fun hge => ?_⟩
     .rw [Q8 (hno (by omega) (by omega))] at h; exact h
     .rw [Q8 (hno (by omega) (by omega))] at h; exact h
     .by_cases hik : i = k
      .subst hik; omega
      .exact hcn i (by omega)
     .have hkm : k = m := by omega
      subst hkm; have hcl := Jou (by omega) hlen hcn; refine v_rirr (by omega) hp256 hlen hq hcn fun b2 hb2 => ⟨fun hb3 => ?_, fun hb3 => ?_⟩
      .rw [Q8] at h
       .exact h
       .rintro ⟨p', m', v, hV⟩; have e1 := hV.eM; have e2 := hV.eP; have e3 : p = p' := by omega
        have e4 : k = m' := by omega
        subst e3; subst e4; rw [hb2.2 (hV.cn (by omega)).2.2] at hb3; exact absurd hb3 (by decide)
      .have hbt2 : b2 = true := by cases b2 <;> first | rfl | exact absurd hb3 (by decide)
       rw [Jbz ⟨p, k, nm p k (vo mf), rfl, rfl, hPr, by omega, hq, hcl.1, fun e => by omega, fun _ => hcl.2.1, by rw [<- hcl.2.2]; exact hb2.1 hbt2⟩] at h; exact h
  .rw [if_neg hc] at h0; exact absurd rfl h0
end Go.Proofs.YtjgpkljepgcekaaGreat
namespace Go.Proofs.YtjgpkljepgcekaaGreat
theorem Jb0 {p m : Nat} {r : LI} {u : Vec} (hp : 0 < p) (hl : r.length = m) (hv : ∀ i, i < m -> vo r i = u i % (p : Int)) : r = dgi p m (nm p m u) :=
  YP (by rw [hl, JX]) fun i hi => by rw [hv i (by omega), QV (by omega), Jot hp _ (by omega)]
theorem Jdo (p i : Nat) (l : LI) (n : Nat) (h : i < n) : vl p (i + 1) (fun t => vo l (n - (i + 1) + t)) = vo l (n - (i + 1)) + (p : Int) * vl p i (fun t => vo l (n - i + t)) := by
 show vo l (n - (i + 1) + 0) + (p : Int) * vl p i (fun t => vo l (n - (i + 1) + (t + 1))) = _; rw [Nat.add_zero]; have : (fun t => vo l (n - (i + 1) + (t + 1))) = fun t => vo l (n - i + t) := by
  funext t; rw [show n - (i + 1) + (t + 1) = n - i + t by omega]
 rw [this]
theorem Jdp {p : Nat} {l : LI} {n i : Nat} (hp : 2 <= p) (hc : Cn p n (vo l)) (hq : p ^ n <= 256) (hi : i <= n) : 0 <= vl p i (fun t => vo l (n - i + t)) /\ vl p i (fun t => vo l (n - i + t)) < 256 := by
 have h1 := Jn0 (p := p) (n := i) (v := fun t => vo l (n - i + t)) (by omega) (fun t ht => hc (n - i + t) (by omega)); have h2 := Qw (p := p) (by omega) hi; omega
theorem Jgs {p : Nat} {l : LI} {Q : Int -> Prop} (hp : 2 <= p) (hp2 : p <= 256) (hc : Cn p l.length (vo l)) (hq : p ^ l.length <= 256) (h : Q (vl p l.length (vo l))) : Yx p l Q := by
 refine ⟨fun i z => i <= l.length /\ z = vl p i (fun t => vo l (l.length - i + t)), ⟨Nat.zero_le _, rfl⟩, ?_, ?_⟩
 .rintro i hi _ ⟨_, rfl⟩; have h1 := Jdp hp hc hq (i := i) (by omega); have h2 := Jdp hp hc hq (i := i + 1) (by omega); rw [Jdo p i l l.length hi] at h2; have h3 := ZX (a := vl p i (fun t => vo l (l.length - i + t))) (b := p) (p := 256) (by omega) ⟨h1.1, by omega⟩ ⟨by omega, by omega⟩; rw [show ((l.length - 1 - i : Nat) : Int) = ((l.length - (i + 1) : Nat) : Int) by omega, JN]; refine ⟨Js (by omega) (by omega), ?_, by omega, ?_⟩
  .rw [Int.mul_comm, Int.add_comm]; exact Js (by omega) (by omega)
  .rw [Jdo p i l l.length hi, Int.mul_comm, Int.add_comm]
 .rintro _ ⟨_, rfl⟩; have : (fun t => vo l (l.length - l.length + t)) = vo l := by funext t; rw [Nat.sub_self, Nat.zero_add]
  rw [this]; exact h
theorem Jtm {p : Nat} {M : Int} {mf l : LI} {Q : Int -> Prop} (hp : 2 <= p) (hp2 : p <= 256) (hl : l.length <= 1000) (hc : Cn p l.length (vo l)) (hq : p ^ l.length <= 256) (h : Q (vl p l.length (vo l))) : YC p M mf l Q := by
 refine ⟨Js (by omega) (by omega), fun z j => ∃ i : Nat, j = (l.length : Int) - 1 - i /\ i <= l.length /\ z = vl p i (fun t => vo l (l.length - i + t)), fun z j => (j + 1).toNat, ⟨0, by omega, Nat.zero_le _, rfl⟩, ?_⟩; rintro _ _ ⟨i, rfl, hi, rfl⟩; dsimp only; refine ⟨fun hge => ?_, fun hlt => ?_⟩
 .have h1 := Jdp hp hc hq (i := i) (by omega); have h2 := Jdp hp hc hq (i := i + 1) (by omega); rw [Jdo p i l l.length (by omega)] at h2; have h3 := ZX (a := vl p i (fun t => vo l (l.length - i + t))) (b := p) (p := 256) (by omega) ⟨h1.1, by omega⟩ ⟨by omega, by omega⟩; rw [show (l.length : Int) - 1 - i = ((l.length - (i + 1) : Nat) : Int) by omega, JN]; refine ⟨Js (by omega) (by omega), ⟨by omega, by omega⟩, ?_, Js (by omega) (by omega), ⟨i + 1, by omega, by omega, ?_⟩, by omega⟩
  .rw [Int.mul_comm, Int.add_comm]; exact Js (by omega) (by omega)
  .rw [Jdo p i l l.length (by omega), Int.mul_comm, Int.add_comm]
 .have hil : i = l.length := by omega
  subst hil; have : (fun t => vo l (l.length - l.length + t)) = vo l := by funext t; rw [Nat.sub_self, Nat.zero_add]
  rw [this]; exact h
theorem Jtj {p m x : Nat} (hp : 0 < p) (hx : x < p ^ m) : vl p (dgi p m x).length (vo (dgi p m x)) = (x : Int) := by
 rw [JX, YS hx, Jti hp hx]
namespace FV
variable {P M : Int} {mf : LI} {p m v : Nat} (F : FV P M mf p m v)
include F
theorem p2 : 2 <= p := F.pr.two
theorem pq : p <= p ^ m := by
 have := Qw (p := p) (by have := F.pr.two; omega) F.m0
 rwa [show p ^ (0 + 1) = p from Nat.pow_one p] at this
theorem p256 : p <= 256 := Nat.le_trans F.pq F.q
theorem m8 : m <= 8 := by
 rcases Nat.lt_or_ge 8 m with h1 | h1
 .have e1 : 2 ^ 9 <= p ^ 9 := Nat.pow_le_pow_left F.p2 9; have e2 := Qw (p := p) (by have := F.p2; omega) (show 9 <= m by omega); have := F.q; omega
 .exact h1
theorem ring : CR (p ^ m) (Qx p m) (JF p m (dv p v)) := Jnw _ F.p2 F.m0
theorem gen : ∃ g, Gn (p ^ m) (JF p m (dv p v)) g := gen_ex F.pr F.m0 F.q F.vlt (fun h => (F.m1 h).2) F.irr
end FV
def sh (v : Vec) : Vec := fun i => if i = 0 then 0 else v (i - 1)
theorem Jtv {m : Nat} {c v : Vec} {i : Nat} (hi : i < m) : tX m c v i = sh v i - c i * v (m - 1) := by simp only [tX, if_pos hi, sh]
theorem Jtk {P M : Int} {mf : LI} {p m v : Nat} (F : FV P M mf p m v) {x : Nat} {Q : LI -> Prop} (hx : x < p ^ m) (h : Q (dgi p m (nm p m (tX m (dv p v) (dv p x))))) : Jb5 P M mf (dgi p m x) Q := by
 have hp := F.p2; have hp2 := F.p256; have hm0 := F.m0; have hm8 := F.m8; rw [F.eP, F.eM]; have hlen := JX p m x; have hcx := Jgg (p := p) (by omega) x m; refine ⟨Js (by omega) (by omega), ⟨by omega, by omega⟩, ⟨by omega, by omega⟩, ⟨by omega, by omega⟩, ?_⟩; generalize hA : (si ((dgi p m x).take ((1 : Int).toNat) ++ (dgi p m x).take (min (dgi p m x).length ((dgi p m x).length - ((1 : Int).toNat))) ++ (dgi p m x).drop ((1 : Int).toNat + (min (dgi p m x).length ((dgi p m x).length - ((1 : Int).toNat))))) (0 : Int) (0 : Int)) = A; have hAl : A.length = m := by
  rw [<- hA]; show (List.set _ _ _).length = m; rw [List.length_set]; simp only [List.length_append, List.length_take, List.length_drop, hlen]; show min 1 m + min (min m (m - 1)) m + (m - (1 + min m (m - 1))) = m; omega
 have hAv : ∀ i, i < m -> vo A i = sh (dv p x) i := fun i hi => by
  unfold sh; rw [<- hA]; show vo (List.set _ 0 0) i = _; rw [J5]; by_cases h0 : i = 0
  .subst h0; rw [if_pos ⟨rfl, by simp only [List.length_append, List.length_take, hlen]; show 0 < min 1 m + _ + _; omega⟩, if_pos rfl]
  .rw [if_neg (fun h => h0 h.1.symm), if_neg h0]; have e1 : ((dgi p m x).take ((1 : Int).toNat)).length = 1 := by rw [List.length_take, hlen]; show min 1 m = 1; omega
   have e2 : (min (dgi p m x).length ((dgi p m x).length - ((1 : Int).toNat))) = m - 1 := by rw [hlen]; show min m (m - 1) = m - 1; omega
   rw [e2]; have e3 : ((dgi p m x).take (m - 1)).length = m - 1 := by rw [List.length_take, hlen]; omega
   unfold vo; rw [List.getD_eq_getElem?_getD, List.append_assoc, List.getElem?_append_right (by omega), e1, List.getElem?_append_left (by omega), List.getElem?_take, if_pos (by omega)]; have := QV (p := p) (x := x) (i := i - 1) (n := m) (by omega); unfold vo at this; rw [List.getD_eq_getElem?_getD] at this; exact this
 rw [show (m : Int) - 1 = ((m - 1 : Nat) : Int) by omega, JN, QV (by omega)]; have hshift : ∀ i, i < m -> 0 <= sh (dv p x) i /\ sh (dv p x) i < p := fun i hi => by
  unfold sh; split
  .omega
  .exact hcx (i - 1) (by omega)
 refine ⟨fun h0 => ?_, fun h0 => ?_⟩
 .rw [Jb0 (p := p) (u := tX m (dv p v) (dv p x)) (by omega) hAl fun i hi => ?_]
  .exact h
  .have := hshift i hi; rw [hAv i hi]; rw [Jtv hi, h0, Int.mul_zero, Int.sub_zero, Int.emod_eq_of_lt this.1 this.2]
 .have hml : mf.length <= m := by
   by_cases hm1 : m = 1
   .rw [(F.m1 hm1).1]; simp
   .rw [F.m2 hm1, JX]; omega
  have hcv := Jgg (p := p) (by omega) v m; have ht := hcx (m - 1) (by omega); refine ⟨fun l z => ∃ k : Nat, z = k /\ k <= mf.length /\ l.length = m /\ ∀ i, i < m -> vo l i = if i < k then tX m (dv p v) (dv p x) i % (p : Int) else vo A i, fun l z => (mf.length - z).toNat, ⟨0, rfl, Nat.zero_le _, hAl, fun i hi => by rw [if_neg (by omega)]⟩, ?_⟩; rintro l _ ⟨k, rfl, hk, hl, hv⟩; dsimp only; rw [JN, JN, Qa, F.vo]; refine ⟨fun hlt => ?_, fun hge => ?_⟩
  .have c1 := hcv k (by omega); have c2 := hshift k (by omega); have c3 := ZX (a := (p : Int) - dv p v k) (b := dv p x (m - 1)) hp2 ⟨by omega, by omega⟩ ⟨ht.1, by omega⟩; rw [hv k (by omega), if_neg (by omega), hAv k (by omega)]; refine ⟨⟨by omega, by omega⟩, ⟨by omega, by omega⟩, Js (by omega) (by omega), Js (by omega) (by omega), Js (by omega) (by omega), by omega, ⟨by omega, by omega⟩, Js (by omega) (by omega), ⟨k + 1, by push_cast; rfl, by omega, by rw [List.length_set, hl], fun i hi => ?_⟩, by omega⟩; rw [J5]; by_cases hki : k = i
   .subst hki; rw [if_pos ⟨rfl, by omega⟩, if_pos (by omega), Jgx (by omega) c2.1 (by omega) ht.1, Jtv hi]
   .rw [if_neg (fun h => hki h.1), hv i hi]; by_cases hik : i < k
    .rw [if_pos hik, if_pos (by omega)]
    .rw [if_neg hik, if_neg (by omega)]
  .rw [Jb0 (p := p) (u := tX m (dv p v) (dv p x)) (by omega) hl fun i hi => ?_]
   .exact h
   .rw [hv i hi]; by_cases hik : i < k
    .rw [if_pos hik]
    .rw [if_neg hik]; have hm1 : m = 1 := by
      by_cases hm1 : m = 1
      .exact hm1
      .rw [F.m2 hm1, JX] at hge hk; omega
     have hi0 : i = 0 := by omega
     rw [hAv i hi, Jtv hi, (F.m1 hm1).2, Je5]; subst hi0; simp [sh, vz]
theorem hz_z {m : Nat} {c b y : Vec} {n : Nat} : ∀ {k : Nat}, k <= n -> (∀ i, n - k <= i -> i < n -> b i = 0) -> hz m c b y n k = vz
 | 0, _, _ => rfl
 | k + 1, hk, h => by
  show JV (tX m c (hz m c b y n k)) (vsm (b (n - 1 - k)) y) = vz; rw [hz_z (k := k) (by omega) (fun i h1 h2 => h i (by omega) h2), h (n - 1 - k) (by omega) (by omega), tX_z]; funext i; simp [JV, vsm, vz]
theorem hz_sup {m : Nat} {c b y : Vec} {n : Nat} (hy : Sup m y) : ∀ k, Sup m (hz m c b y n k)
 | 0 => Sup.z
 | k + 1 => Sup.add Sup.tX hy.sm
theorem rep_z (p m : Nat) : List.replicate m (0 : Int) = dgi p m 0 := YP (by simp [JX]) fun i hi => by
 rw [Jks, QV (by simpa using hi), Je5]; rfl
theorem nm_z {p m : Nat} (hp : 0 < p) : nm p m vz = 0 := by rw [<- Je5 p, Jax hp (Nat.pow_pos hp)]
theorem Jpp {P M : Int} {mf : LI} {p m v : Nat} (F : FV P M mf p m v) {o : LI} {x y : Nat} {Q : LI -> Prop} (ho : o.length = m) (hx : x < p ^ m) (hy : y < p ^ m) (h : Q (dgi p m (JF p m (dv p v) x y))) : Jaj P M mf o (dgi p m x) (dgi p m y) Q := by
 have hp := F.p2; have hp2 := F.p256; have hm0 := F.m0; have hm8 := F.m8; obtain rfl := F.eP; obtain rfl := F.eM; have hlx := JX p m x; have hly := JX p m y; have hcx := Jgg (p := p) (by omega) x m; have hcy := Jgg (p := p) (by omega) y m; refine ⟨Js (by omega) (by omega), fun z => ∃ k : Nat, z = k /\ k < m /\ ∀ i, k < i -> i < m -> dv p y i = 0, ⟨fun z => ∃ k : Nat, z = k /\ k < m /\ ∀ i, k < i -> i < m -> dv p y i = 0, fun z => z.toNat, ⟨m - 1, by omega, by omega, fun i h1 h2 => by omega⟩, ?_⟩, ?_⟩
 .rintro _ ⟨k, rfl, hk, hzz⟩; dsimp only; refine ⟨fun hlt => ⟨⟨by omega, by omega⟩, fun h0 => ⟨Js (by omega) (by omega), ⟨k - 1, by omega, by omega, fun i h1 h2 => ?_⟩, by omega⟩, fun _ => ⟨k, rfl, hk, hzz⟩⟩, fun _ => ⟨k, rfl, hk, hzz⟩⟩; rw [JN, QV hk] at h0; by_cases hik : i = k
  .subst hik; exact h0
  .exact hzz i (by omega) h2
 .rintro _ ⟨k0, rfl, hk0, hzz⟩; refine ⟨fun l z => ∃ k : Nat, z = (m : Int) - 1 - k /\ k <= m /\ l = dgi p m (nm p m (hz m (dv p v) (dv p y) (dv p x) m k)), fun l z => (z + 1).toNat, ⟨m - 1 - k0, by omega, by omega, ?_⟩, ?_⟩
  .rw [hz_z (by omega) (fun i h1 h2 => hzz i (by omega) h2), nm_z (by omega), ho, rep_z p m]
  .rintro _ _ ⟨k, rfl, hk, rfl⟩; dsimp only; refine ⟨fun hge => Jtk F (Jaw (by omega) _) ?_, fun hlt => ?_⟩
   .have hs := hz_sup (c := dv p v) (b := dv p y) (n := m) (Q7 hx) k; rw [YR (vcg.tX (vcg.refl _) (Jj6 (by omega) hs))]; generalize hT : tX m (dv p v) (hz m (dv p v) (dv p y) (dv p x) m k) = T; have hnT := Jaw (p := p) (m := m) (by omega) T; refine ⟨fun l z => ∃ t : Nat, z = t /\ t <= m /\ l.length = m /\ ∀ i, i < m -> vo l i = if i < t then (T i + dv p y (m - 1 - k) * dv p x i) % (p : Int) else T i % (p : Int), fun l z => (m - z).toNat, ⟨0, rfl, Nat.zero_le _, JX _ _ _, fun i hi => by rw [if_neg (by omega), QV hi, Jot (by omega) _ hi]⟩, ?_⟩; rintro l _ ⟨t, rfl, ht, hl, hv⟩; dsimp only; rw [show (m : Int) - 1 - k = ((m - 1 - k : Nat) : Int) by omega, JN, JN, JN, Qa]; rw [hlx]; refine ⟨fun hlt => ?_, fun hge2 => ?_⟩
    .rw [hv t (by omega), if_neg (by omega), QV (by omega), QV (by omega)]; have c1 := hcy (m - 1 - k) (by omega); have c2 := hcx t (by omega); have c3 := ZX (a := dv p y (m - 1 - k)) (b := dv p x t) hp2 ⟨c1.1, by omega⟩ ⟨c2.1, by omega⟩; have c4 : 0 <= T t % (p : Int) /\ T t % (p : Int) < p := ⟨Int.emod_nonneg _ (by omega), Int.emod_lt_of_pos _ (by omega)⟩
     refine ⟨⟨by omega, by omega⟩, ⟨by omega, by omega⟩, ⟨by omega, by omega⟩, Js (by omega) (by omega), Js (by omega) (by omega), by omega, ⟨by omega, by omega⟩, Js (by omega) (by omega), ⟨t + 1, by push_cast; rfl, by omega, by rw [List.length_set, hl], fun i hi => ?_⟩, by omega⟩; rw [J5]; by_cases hti : t = i
     .subst hti; rw [if_pos ⟨rfl, by omega⟩, if_pos (by omega), Int.tmod_eq_emod_of_nonneg (by omega)]; exact Jc4 (Int.emod_emod _ _) rfl
     .rw [if_neg (fun h => hti h.1), hv i hi]; by_cases hit : i < t
      .rw [if_pos hit, if_pos (by omega)]
      .rw [if_neg hit, if_neg (by omega)]
    .refine ⟨Js (by omega) (by omega), ⟨k + 1, by omega, by omega, ?_⟩, by omega⟩; refine Jb0 (by omega) hl fun i hi => ?_; rw [hv i hi, if_pos (by omega)]; show _ = (JV (tX m (dv p v) (hz m (dv p v) (dv p y) (dv p x) m k)) (vsm (dv p y (m - 1 - k)) (dv p x))) i % _; rw [hT]; rfl
   .have hkm : k = m := by omega
    subst hkm; rw [hz_all]; exact h
def pwl (M : Nat -> Nat -> Nat) (x n : Nat) : LI := (List.range n).map fun k => ((pw M x k : Nat) : Int)
theorem Z6 (M : Nat -> Nat -> Nat) (x n : Nat) : (pwl M x n).length = n := by simp [pwl]
theorem Jem {M : Nat -> Nat -> Nat} {x n i : Nat} (h : i < n) : vo (pwl M x n) i = ((pw M x i : Nat) : Int) := by
 unfold vo pwl; rw [List.getD_eq_getElem?_getD, List.getElem?_map, List.getElem?_range h]; rfl
theorem Juc (M : Nat -> Nat -> Nat) (x n : Nat) : pwl M x (n + 1) = pwl M x n ++ [((pw M x n : Nat) : Int)] := by simp [pwl, List.range_succ]
structure Od (M : Nat -> Nat -> Nat) (x n : Nat) : Prop where
  pos : 0 < n
  one : pw M x n = 1
  least : ∀ k, 0 < k -> k < n -> pw M x k ≠ 1
theorem Jto {P M : Int} {mf : LI} {p m v : Nat} (F : FV P M mf p m v) {x : Nat} {Q : LI -> Prop} (h0 : 0 < x) (hx : x < p ^ m)
  (h : ∀ n, Od (JF p m (dv p v)) x n -> n <= p ^ m - 1 -> Q (pwl (JF p m (dv p v)) x n)) : Jcd P M mf x Q := by
 have hp := F.p2; have hp2 := F.p256; have hm0 := F.m0; have hm8 := F.m8; have hq := F.q; have R := F.ring; obtain ⟨g, G⟩ := F.gen; have hone := G.xone R h0 hx; have hq2 := R.q2; obtain rfl := F.eP; obtain rfl := F.eM; refine Jgr hp hp2 fun r hr _ => ?_; rw [Int.toNat_natCast] at hr; rw [hr hq]; refine ⟨⟨by omega, by omega, by omega⟩, by omega, _, Jed (by omega) (by omega) (by omega) rfl, _, Jed (by omega) (by omega) (by omega) rfl, ⟨by omega, by omega, by omega⟩, ?_⟩; refine ⟨fun l z a b => ∃ k : Nat, 0 < k /\ k <= p ^ m - 1 /\ l = pwl (JF p m (dv p v)) x k /\ z = ((pw (JF p m (dv p v)) x k : Nat) : Int) /\ a = dgi p m (pw (JF p m (dv p v)) x k) /\ b.length = m /\ ∀ j, 0 < j -> j < k -> pw (JF p m (dv p v)) x j ≠ 1, fun l z a b => 300 - l.length, ⟨1, by omega, by omega, rfl, by rw [R.pw_one hx], by rw [R.pw_one hx], by simp, fun j h1 h2 => by omega⟩, ?_⟩; rintro _ _ _ b ⟨k, hk0, hk, rfl, rfl, rfl, hb, hno⟩; dsimp only; refine ⟨fun hne => ?_, fun heq => ?_⟩
 .have hkq : k < p ^ m - 1 := by
   rcases Nat.lt_or_ge k (p ^ m - 1) with hc | hc
   .exact hc
   .have : k = p ^ m - 1 := by omega
    rw [this, hone] at hne; exact absurd rfl hne
  rw [Z6]; refine ⟨by omega, ?_⟩; refine Jpp F hb (R.pw_lt x k) hx ?_; have hlt := R.pw_lt x (k + 1); refine Jgs hp hp2 (by rw [JX]; exact Jc3 (by omega) hlt _) (by rw [JX]; exact hq) ?_; have hvd := Jtj (p := p) (m := m) (by omega) hlt; refine ⟨⟨k + 1, by omega, by omega, (Juc _ _ _).symm, hvd, rfl, JX _ _ _, fun j h1 h2 => ?_⟩, ?_⟩
  .by_cases hjk : j = k
   .subst hjk; intro e; rw [e] at hne; exact hne rfl
   .exact hno j h1 (by omega)
  .rw [List.length_append, Z6]; simp; omega
 .refine h k ⟨hk0, ?_, hno⟩ hk; have : ((pw (JF p m (dv p v)) x k : Nat) : Int) = 1 := by
   by_cases hc : ((pw (JF p m (dv p v)) x k : Nat) : Int) = 1
   .exact hc
   .exact absurd hc heq
  omega
end Go.Proofs.YtjgpkljepgcekaaGreat
namespace Go.Proofs.YtjgpkljepgcekaaGreat
theorem gb_nat (l : List Bool) (i : Nat) : gb l (i : Int) = l.getD i false := rfl
theorem Jt4 (l : List Bool) (i : Nat) (x : Bool) : sb l (i : Int) x = l.set i x := rfl
theorem Jac (l : List Bool) (i j : Nat) (x : Bool) : (l.set i x).getD j false = if i = j /\ i < l.length then x else l.getD j false := by
 rw [List.getD_eq_getElem?_getD, List.getD_eq_getElem?_getD, List.getElem?_set]; by_cases h : i = j
 .subst h; by_cases h2 : i < l.length
  .simp [h2]
  .simp [h2]
 .simp [h]
theorem Jwm {P M : Int} {mf : LI} {p m v : Nat} (F : FV P M mf p m v) {Q : LI -> Prop}
  (h : ∀ g, Gn (p ^ m) (JF p m (dv p v)) g -> Q (pwl (JF p m (dv p v)) g (p ^ m - 1))) : Jdz ⟨P, M, mf, ((p ^ m : Nat) : Int), [], [], []⟩ Q := by
 have hq := F.q; have R := F.ring; have hq2 := R.q2; obtain ⟨g0, G0⟩ := F.gen; generalize hqq : p ^ m = q at *
 generalize hMM : JF p m (dv p v) = Mu at *
 refine ⟨⟨by show (0 : Int) <= q; omega, by show (q : Int) * 1 <= _; omega, by show (q : Int) <= _; omega⟩, ⟨by omega, by show (0 : Int) < ((((q : Nat) : Int).toNat : Nat) : Int); omega⟩, ?_⟩; refine ⟨YQ (by omega), fun i x s => s.length = q /\ s.getD 0 false = true /\ (∀ j, j < i -> ¬ Gn q Mu j) /\ ∀ j, j < q -> s.getD j false = true -> ¬ Gn q Mu j, fun x s => ∃ g, Gn q Mu g /\ x = pwl Mu g (q - 1), ?_, ?_, ?_, ?_⟩
 .have h0 : ¬ Gn q Mu 0 := fun G => by
   have := G.one; rw [R.zero_pw (by omega)] at this; omega
  dsimp only; rw [show (0 : Int) = ((0 : Nat) : Int) from rfl, Jt4]; refine ⟨by rw [List.length_set, List.length_replicate]; exact Int.toNat_natCast q, ?_, fun j hj => by omega, fun j hj hs => ?_⟩
  .rw [Jac, if_pos ⟨rfl, by rw [List.length_replicate, Int.toNat_natCast]; omega⟩]
  .rw [Jac] at hs; by_cases hj0 : 0 = j
   .rw [<- hj0]; exact h0
   .rw [if_neg (fun h => hj0 h.1), List.getD_eq_getElem?_getD, List.getElem?_replicate] at hs; split at hs <;> exact absurd hs (by decide)
 .rintro i hi x s ⟨hs, hs0, hno, hsn⟩; dsimp only at hi ⊢; rw [Int.toNat_natCast] at hi; rw [gb_nat]; refine ⟨⟨by omega, by rw [Int.toNat_natCast]; omega⟩, fun hb => ⟨hs, hs0, fun j hj => ?_, hsn⟩, fun hb => ?_⟩
  .by_cases hji : j = i
   .subst hji; exact hsn j hi hb
   .exact hno j (by omega)
  .have hi0 : 0 < i := by
    rcases Nat.eq_zero_or_pos i with h0 | h0
    .subst h0; rw [hs0] at hb; exact absurd hb (by decide)
    .exact h0
   refine Jto F hi0 (by rw [hqq]; exact hi) fun n O hn => ?_; rw [hMM] at O ⊢; rw [hqq] at hn; rw [Z6]; refine ⟨Js (by omega) (by omega), fun he => ?_, fun hne => ?_⟩
   .have hnq : n = q - 1 := by omega
    subst hnq; exact ⟨i, ⟨hi, O.one, O.least⟩, rfl⟩
   .have hnq : n < q - 1 := by omega
    have hnG : ∀ k, ¬ Gn q Mu (pw Mu i k) := fun k G => by
     have h1 : pw Mu (pw Mu i k) n = 1 := by rw [R.pw_pw hi, Nat.mul_comm, <- R.pw_pw hi, O.one, R.one_pw]
     exact G.no n O.pos hnq h1
    refine ⟨fun s' z => ∃ k : Nat, z = k /\ k <= n /\ s'.length = q /\ s'.getD 0 false = true /\ ∀ j, j < q -> s'.getD j false = true -> ¬ Gn q Mu j, fun s' z => (n - z).toNat, ⟨0, rfl, Nat.zero_le _, hs, hs0, hsn⟩, ?_⟩; rintro s' _ ⟨k, rfl, hk, hs', hs0', hsn'⟩; dsimp only; rw [JN]; refine ⟨fun hlt => ?_, fun hge => ⟨hs', hs0', fun j hj => ?_, hsn'⟩⟩
    .rw [Jem (by omega), Jt4]; have hlt2 := R.pw_lt i k; refine ⟨⟨by omega, by omega⟩, ⟨by omega, by rw [Int.toNat_natCast]; omega⟩, Js (by omega) (by omega), ⟨k + 1, by push_cast; rfl, by omega, by rw [List.length_set, hs'], ?_, fun j hj hj2 => ?_⟩, by omega⟩
     .rw [Jac]; split
      .rfl
      .exact hs0'
     .rw [Jac] at hj2; by_cases hjk : pw Mu i k = j
      .rw [<- hjk]; exact hnG k
      .rw [if_neg (fun h => hjk h.1)] at hj2; exact hsn' j hj hj2
    .by_cases hji : j = i
     .subst hji; have := hnG 1
      rwa [R.pw_one hi] at this
     .exact hno j (by omega)
 .rintro x s ⟨hs, hs0, hno, hsn⟩; have := G0.lt; exact absurd G0 (hno g0 (by show g0 < ((q : Nat) : Int).toNat; rw [Int.toNat_natCast]; exact this))
 .rintro x s ⟨g, G, rfl⟩; exact h g G
structure GFk (F : GFv) (p m v g : Nat) : Prop where
  fv : FV F.P F.M F.mod p m v
  q : F.q = ((p ^ m : Nat) : Int)
  G : Gn (p ^ m) (JF p m (dv p v)) g
  el : F.exp.length = 2 * (p ^ m - 1)
  ev : ∀ k, k < 2 * (p ^ m - 1) -> vo F.exp k = ((pw (JF p m (dv p v)) g k : Nat) : Int)
  ll : F.log.length = p ^ m
  l0 : vo F.log 0 = -1
  lv : ∀ k, k < p ^ m - 1 -> vo F.log (pw (JF p m (dv p v)) g k) = (k : Int)
  al : F.above.length = p ^ m - 1
  av : ∀ k, k < p ^ m - 1 -> vo F.above k = vo F.log (Qx p m (pw (JF p m (dv p v)) g k) 1)
theorem Jps {p m x : Nat} (hp : 2 <= p) (hm : 0 < m) (hx : x < p ^ m) : (if x % p = p - 1 then x - x % p else x + 1) = Qx p m x 1 := by
 have hmd := Nat.mod_add_div x p; have hlt := Nat.mod_lt x (show 0 < p by omega); obtain ⟨n, rfl⟩ : ∃ n, m = n + 1 := ⟨m - 1, by omega⟩
 have hxd : x / p < p ^ n := by rw [Nat.div_lt_iff_lt_mul (by omega), <- Nat.pow_succ]; exact hx
 generalize hA : x / p = a at *
 generalize hR : x % p = r at *
 have key : ∀ y s, y = s + p * a -> s < p -> s = (r + 1) % p -> y = Qx p (n + 1) x 1 := fun y s hy hs hsr => by
  have hyd : y / p = a := by rw [hy, Nat.add_mul_div_left _ _ (by omega), Nat.div_eq_of_lt hs, Nat.zero_add]
  have hym : y % p = s := by rw [hy, Nat.add_mul_mod_self_left, Nat.mod_eq_of_lt hs]
  have hyl : y < p ^ (n + 1) := by
   have h1 : p * (a + 1) <= p * p ^ n := Nat.mul_le_mul_left p hxd; rw [Nat.pow_succ', hy]; rw [Nat.mul_add, Nat.mul_one] at h1; omega
  refine (nm_eq (by omega) hyl fun i hi => ?_).symm; cases i with
  | zero =>
   simp only [JV]; rw [YH, YH, YH, hym, hR, Nat.mod_eq_of_lt (show 1 < p by omega), hsr]; push_cast; rfl
  | succ i =>
   simp only [JV]; rw [Zs, Zs, Zs, hyd, hA, Nat.div_eq_of_lt (show 1 < p by omega), Je5]; simp only [vz]; rw [Int.add_zero, Ja5]
 by_cases hc : r = p - 1
 .rw [if_pos hc]; refine key (x - r) 0 (by omega) (by omega) ?_; rw [hc, show p - 1 + 1 = p by omega, Nat.mod_self]
 .rw [if_neg hc]; exact key (x + 1) (r + 1) (by omega) (by omega) (Nat.mod_eq_of_lt (by omega)).symm
theorem vo_app {a b : LI} {i : Nat} : vo (a ++ b) i = if i < a.length then vo a i else vo b (i - a.length) := by
 unfold vo; rw [List.getD_eq_getElem?_getD]; split
 .rename_i h
  rw [List.getElem?_append_left h, List.getD_eq_getElem?_getD]
 .rename_i h
  rw [List.getElem?_append_right (by omega), List.getD_eq_getElem?_getD]
theorem v_New {P M : Int} {mf : LI} {Q : Option GFv × Int -> Prop} (hno : ¬ Qt P M mf -> Q (none, 1)) (h : ∀ (F : GFv) (p m v g : Nat), GFk F p m v g -> F.P = P -> F.M = M -> F.mod = mf -> Q (some F, 0)) : Jpe P M mf Q := by
 refine Jgt ?_; by_cases hV : Qt P M mf
 .rw [Jbz hV]; refine ⟨fun h1 => absurd rfl h1, fun _ => ?_⟩; obtain ⟨p, m, v, F⟩ := hV; obtain rfl := F.eP; obtain rfl := F.eM; have hp := F.p2; have hp2 := F.p256; have hm0 := F.m0; have hm8 := F.m8; have hq := F.q; have R := F.ring; have hq2 := R.q2; have hml : mf.length <= 1000000 := by
   by_cases hm1 : m = 1
   .rw [(F.m1 hm1).1]; simp
   .rw [F.m2 hm1, JX]; omega
  have hJ : Jch p m mf (fun q => match q with | (r27, r28, x29) => Zz p m mf (fun r34 => r27 = p /\ r28 = m /\ x29 = mf /\ r34 = ((p ^ m : Nat) : Int))) := Jbm hml (Jgr hp hp2 fun r hr _ => by
   rw [Int.toNat_natCast] at hr; exact ⟨rfl, rfl, rfl, hr hq⟩)
  refine ⟨fun a b c d => a = p /\ b = m /\ c = mf /\ d = ((p ^ m : Nat) : Int), hJ, ?_⟩; rintro _ _ _ _ ⟨rfl, rfl, rfl, rfl⟩; refine Jwm F fun g G => ?_; have hg := G.lt; generalize hqq : p ^ m = q at *
  generalize hMM : JF p m (dv p v) = Mu at *
  rw [Z6]; have hql : (List.replicate ((q : Nat) : Int).toNat (0 : Int)).length = q := by rw [List.length_replicate, Int.toNat_natCast]
  rw [Int.toNat_natCast, Int.toNat_natCast]; rw [Int.toNat_natCast] at hql; refine ⟨⟨by omega, by omega, by omega⟩, ⟨by omega, by omega, by omega⟩, ⟨by omega, by omega⟩, ?_⟩; refine ⟨fun l z => ∃ k : Nat, z = k /\ k <= q - 1 /\ l.length = q /\ vo l 0 = -1 /\ ∀ t, t < k -> vo l (pw Mu g t) = (t : Int), fun l z => (q - z).toNat, ⟨0, rfl, Nat.zero_le _, ?_, ?_, fun t ht => by omega⟩, ?_⟩
  .rw [show (0 : Int) = ((0 : Nat) : Int) from rfl, Qa, List.length_set]; exact hql
  .rw [show si (List.replicate q (0 : Int)) 0 (-1) = (List.replicate q (0 : Int)).set 0 (-1) from rfl, J5, if_pos ⟨rfl, by rw [hql]; omega⟩]
  .rintro l _ ⟨k, rfl, hk, hl, hl0, hlv⟩; dsimp only; rw [JN]; refine ⟨fun hlt => ?_, fun hge => ?_⟩
   .rw [Jem (by omega), Qa]; have hlt2 := R.pw_lt g k; refine ⟨⟨by omega, by omega⟩, ⟨by omega, by omega⟩, Js (by omega) (by omega), ⟨k + 1, by push_cast; rfl, by omega, by rw [List.length_set, hl], ?_, fun t ht => ?_⟩, by omega⟩
    .rw [J5, if_neg (fun h => G.ne0 R k h.1)]; exact hl0
    .rw [J5]; by_cases htk : t = k
     .subst htk; rw [if_pos ⟨rfl, by rw [hl]; exact hlt2⟩]
     .rw [if_neg (fun h => G.inj R (show t < k by omega) (by omega) h.1.symm)]; exact hlv t (by omega)
   .have hkq : k = q - 1 := by omega
    subst hkq; refine ⟨⟨by omega, by omega, by omega⟩, fun a z => ∃ k : Nat, z = k /\ k <= q - 1 /\ a.length = q - 1 /\ ∀ t, t < k -> vo a t = vo l (Qx p m (pw Mu g t) 1), fun a z => (q - z).toNat, ⟨0, rfl, Nat.zero_le _, by simp, fun t ht => by omega⟩, ?_⟩; rintro a _ ⟨k, rfl, hk, hal, hav⟩; dsimp only; rw [JN]; refine ⟨fun hlt => ?_, fun hge => ?_⟩
    .rw [Jem (by omega)]; have hlt2 := R.pw_lt g k; have hsl := R.Al (pw Mu g k) 1; have hsf := Jps hp hm0 (x := pw Mu g k) (by rw [hqq]; exact hlt2); refine ⟨⟨by omega, by omega⟩, _, Jip hp hp2 (by omega) rfl, ?_⟩; rw [hsf, JN, Qa]; refine ⟨⟨by omega, by omega⟩, ⟨by omega, by omega⟩, Js (by omega) (by omega), ⟨k + 1, by push_cast; rfl, by omega, by rw [List.length_set, hal], fun t ht => ?_⟩, by omega⟩; rw [J5]; by_cases htk : k = t
     .subst htk; rw [if_pos ⟨rfl, by omega⟩]
     .rw [if_neg (fun h => htk h.1)]; exact hav t (by omega)
    .have hkq : k = q - 1 := by omega
     subst hkq; subst hMM; subst hqq; refine h _ p m v g ⟨F, rfl, G, ?_, fun k hk2 => ?_, hl, hl0, hlv, hal, hav⟩ rfl rfl rfl
     .simp only [List.length_append, Z6]; omega
     .show vo (pwl _ g _ ++ pwl _ g _) k = _; rw [vo_app, Z6]; by_cases hkl : k < p ^ m - 1
      .rw [if_pos hkl, Jem hkl]
      .rw [if_neg hkl, Jem (by omega)]; have := G.per R (k - (p ^ m - 1)) 1; rw [Nat.mul_one, show k - (p ^ m - 1) + (p ^ m - 1) = k by omega] at this; rw [this]
 .rw [Q8 hV]; exact ⟨fun _ => hno hV, fun h1 => absurd (show (1 : Int) ≠ 0 by decide) h1⟩
end Go.Proofs.YtjgpkljepgcekaaGreat
namespace Go.Proofs.YtjgpkljepgcekaaGreat
def inE (q : Nat) (x : Int) : Nat := if 0 <= x /\ x < q then x.toNat else 0
theorem Qh {q : Nat} (hq : 0 < q) (x : Int) : inE q x < q := by unfold inE; split <;> omega
theorem QS {q x : Nat} (h : x < q) : inE q (x : Int) = x := by unfold inE; rw [if_pos (by omega)]; rfl
section
variable {P M : Int} {mf : LI} {p m v : Nat}
theorem FV.ord (F : FV P M mf p m v) : Jfn P M = ((p ^ m : Nat) : Int) := by
 rw [F.eP, F.eM, Jfn, if_pos]
 .simp
 .have := F.p2; have := F.m0; have := F.q; exact ⟨by omega, by omega, by simpa using this⟩
theorem FV.i64 (F : FV P M mf p m v) : I64 P := by
 have := F.p256; rw [F.eP]; exact Js (by omega) (by omega)
theorem v_rIs (F : FV P M mf p m v) {x : Int} {Q : Bool -> Prop} (h : Q (decide (0 <= x /\ x < ((p ^ m : Nat) : Int)))) : Jkg P M mf x Q := by
 refine ⟨fun h0 => Jd9 ?_, fun h0 => ?_⟩
 .rw [F.ord]; simpa [h0] using h
 .simpa [h0] using h
theorem v_rIn (F : FV P M mf p m v) {x : Int} {Q : Int -> Prop} (h : Q ((inE (p ^ m) x : Nat) : Int)) : Jpd P M mf x Q := by
 refine v_rIs F ⟨fun hb => ?_, fun hb => ?_⟩
 .have hb := of_decide_eq_true hb; unfold inE at h; rw [if_pos hb] at h
  rwa [Int.toNat_of_nonneg hb.1] at h
 .have hb := of_decide_eq_false hb; unfold inE at h; rw [if_neg hb] at h; exact h
theorem YZ (F : FV P M mf p m v) {x : Int} {Q : LI -> Prop} (h : Q (dgi p m (inE (p ^ m) x))) : QY P M mf x Q := by
 have hp := F.p2; have hq := F.q; have hm8 := F.m8; have hlt := Qh F.ring.pos x; refine ⟨_, v_rIn F rfl, _, ?_, h⟩; rw [F.eP, F.eM]; exact Jf3 (by omega) (by omega) (by omega) rfl
theorem Jkv (F : FV P M mf p m v) {l : LI} {u : Vec} {Q : Int -> Prop} (hl : l.length = m) (hv : ∀ i, i < m -> vo l i = u i % (p : Int)) (h : Q ((nm p m u : Nat) : Int)) : YC P M mf l Q := by
 have hp := F.p2; rw [Jb0 (by omega) hl hv, F.eP]; have hlt := Jaw (p := p) (m := m) (by omega) u; refine Jtm hp F.p256 (by rw [JX]; have := F.m8; omega) (by rw [JX]; exact Jc3 (by omega) hlt _) (by rw [JX]; exact F.q) ?_; rw [Jtj (by omega) hlt]; exact h
theorem v_rAdd (F : FV P M mf p m v) {x y : Int} {Q : Int -> Prop} (h : Q ((Qx p m (inE (p ^ m) x) (inE (p ^ m) y) : Nat) : Int)) : Jh8 P M mf x y Q := by
 have hp := F.p2; have hp2 := F.p256; have hm8 := F.m8; have hx := Qh F.ring.pos x; have hy := Qh F.ring.pos y; refine YZ F (YZ F ?_); generalize inE (p ^ m) x = a at *
 generalize inE (p ^ m) y = b at *
 have hla := JX p m a; have hlb := JX p m b; rw [hla]; refine ⟨fun l z => ∃ k : Nat, z = k /\ k <= m /\ l.length = m /\ ∀ i, i < m -> vo l i = if i < k then (JV (dv p a) (dv p b)) i % (p : Int) else dv p a i, fun l z => (m - z).toNat, ⟨0, rfl, Nat.zero_le _, hla, fun i hi => by rw [if_neg (by omega), QV hi]⟩, ?_⟩; rintro l _ ⟨k, rfl, hk, hl, hv⟩; dsimp only; rw [JN, JN, Qa]; refine ⟨fun hlt => ?_, fun hge => Jkv F hl (fun i hi => by rw [hv i hi, if_pos (by omega)]) h⟩; rw [hv k (by omega), if_neg (by omega), QV (by omega)]; have c1 := Je6 (p := p) (by omega) a k; have c2 := Je6 (p := p) (by omega) b k; refine ⟨⟨by omega, by omega⟩, ⟨by omega, by omega⟩, Js (by omega) (by omega), by rw [F.eP]; omega, ⟨by omega, by omega⟩, Js (by omega) (by omega), ⟨k + 1, by push_cast; rfl, by omega, by rw [List.length_set, hl], fun i hi => ?_⟩, by omega⟩; rw [J5]; by_cases hki : k = i
 .subst hki; rw [if_pos ⟨rfl, by omega⟩, if_pos (by omega), F.eP, Int.tmod_eq_emod_of_nonneg (by omega)]; rfl
 .rw [if_neg (fun h => hki h.1), hv i hi]; by_cases hik : i < k
  .rw [if_pos hik, if_pos (by omega)]
  .rw [if_neg hik, if_neg (by omega)]
theorem Jtn (F : FV P M mf p m v) {x : Int} {Q : Int -> Prop} (h : Q ((ZR p m (inE (p ^ m) x) : Nat) : Int)) : Jff P M mf x Q := by
 have hp := F.p2; have hp2 := F.p256; have hm8 := F.m8; have hx := Qh F.ring.pos x; refine YZ F ?_; generalize inE (p ^ m) x = a at *
 have hla := JX p m a; rw [hla]; refine ⟨fun l z => ∃ k : Nat, z = k /\ k <= m /\ l.length = m /\ ∀ i, i < m -> vo l i = if i < k then (vsm (-1) (dv p a)) i % (p : Int) else dv p a i, fun l z => (m - z).toNat, ⟨0, rfl, Nat.zero_le _, hla, fun i hi => by rw [if_neg (by omega), QV hi]⟩, ?_⟩; rintro l _ ⟨k, rfl, hk, hl, hv⟩; dsimp only; rw [JN, Qa]; refine ⟨fun hlt => ?_, fun hge => Jkv F hl (fun i hi => by rw [hv i hi, if_pos (by omega)]) h⟩; rw [hv k (by omega), if_neg (by omega)]; have c1 := Je6 (p := p) (by omega) a k; rw [F.eP]; refine ⟨⟨by omega, by omega⟩, Js (by omega) (by omega), by omega, ⟨by omega, by omega⟩, Js (by omega) (by omega), ⟨k + 1, by push_cast; rfl, by omega, by rw [List.length_set, hl], fun i hi => ?_⟩, by omega⟩; rw [J5]; by_cases hki : k = i
 .subst hki; rw [if_pos ⟨rfl, by omega⟩, if_pos (by omega), Int.tmod_eq_emod_of_nonneg (by omega)]; show _ = (-1 * dv p a k) % (p : Int); rw [show (p : Int) - dv p a k = -1 * dv p a k + p * 1 by omega, Int.add_mul_emod_self_left]
 .rw [if_neg (fun h => hki h.1), hv i hi]; by_cases hik : i < k
  .rw [if_pos hik, if_pos (by omega)]
  .rw [if_neg hik, if_neg (by omega)]
end
theorem Jg3 {p m : Nat} {c w w' u : Vec} {s : Int} {k : Nat} (hk : w' k % (p : Int) = (w k + s) % (p : Int)) (ho : ∀ i, i ≠ k -> w' i = w i) : ∀ n, vcg p (opr m c w' n u) (JV (opr m c w n u) (if k < n then vsm s (tXn m c k u) else vz))
  | 0 => fun i => by simp [opr, JV, vz]
  | n + 1 => fun i => by
    have ih := Jg3 hk ho (m := m) (c := c) (u := u) n i
    show (opr m c w' n u i + w' n * tXn m c n u i) % (p : Int) = ((opr m c w n u i + w n * tXn m c n u i) + (if k < n + 1 then vsm s (tXn m c k u) else vz) i) % (p : Int)
    rcases Nat.lt_trichotomy k n with h | h | h
    . rw [if_pos (by omega)]
      rw [if_pos h] at ih
      rw [ho n (by omega)]
      have := Jc4 ih (rfl : (w n * tXn m c n u i) % (p : Int) = _)
      rw [this]
      congr 1
      show opr m c w n u i + (vsm s (tXn m c k u)) i + _ = _
      omega
    . subst h
      rw [if_pos (by omega)]
      rw [if_neg (by omega)] at ih
      have := Jc4 ih (Jcx hk (rfl : (tXn m c k u i) % (p : Int) = _))
      rw [this]
      congr 1
      show opr m c w k u i + 0 + (w k + s) * tXn m c k u i = _ + s * tXn m c k u i
      rw [Int.add_mul]; omega
    . rw [if_neg (by omega)]
      rw [if_neg (by omega)] at ih
      rw [ho n (by omega)]
      have := Jc4 ih (rfl : (w n * tXn m c n u i) % (p : Int) = _)
      rw [this]
      congr 1
      show opr m c w n u i + 0 + _ = _ + 0
      omega
theorem Xm {m : Nat} {c : Vec} (hm : 0 < m) : tXn m c m e0 = vsm (-1) (opr m c c m e0) := by
 obtain ⟨n, rfl⟩ : ∃ n, m = n + 1 := ⟨m - 1, by omega⟩
 show tX (n + 1) c (tXn (n + 1) c n e0) = _; rw [Jkx (by omega)]; funext i; simp only [vsm]; rw [Jg4 (Nat.le_refl _)]; simp only [tX, vei]; by_cases hi : i < n + 1
 .rw [if_pos hi, if_pos hi]; have e1 : (if i = 0 then (0 : Int) else if i - 1 = n then 1 else 0) = 0 := by
   split
   .rfl
   .rw [if_neg (by omega)]
  rw [e1, show n + 1 - 1 = n by omega, if_pos rfl]; omega
 .rw [if_neg hi, if_neg hi]; rfl
section
variable {P M : Int} {mf : LI} {p m v : Nat}
theorem Jkw (F : FV P M mf p m v) {x y : Int} {Q : Int -> Prop} (h : Q ((JF p m (dv p v) (inE (p ^ m) x) (inE (p ^ m) y) : Nat) : Int)) : Jc7 P M mf x y Q := by
 have hp := F.p2; have hp2 := F.p256; have hm0 := F.m0; have hm8 := F.m8; have hx := Qh F.ring.pos x; have hy := Qh F.ring.pos y; refine YZ F (YZ F ?_); obtain rfl := F.eP; obtain rfl := F.eM; generalize inE (p ^ m) x = a at *
 generalize inE (p ^ m) y = b at *
 rw [Jcy hx hy] at h; have hla := JX p m a; have hlb := JX p m b; have hva := YS hx; have hvb := YS hy; have hsa := Q7 hx; have hsb := Q7 hy; have hN : (2 * (m : Int) - 1).toNat = 2 * m - 1 := by omega
 have e2 : (2 * (m : Int) - 1) = ((2 * m - 1 : Nat) : Int) := by omega
 rw [e2]; generalize hNN : 2 * m - 1 = N at *
 rw [Int.toNat_natCast]; have hself := Y3 (c := dv p v) hsb; refine ⟨Js (by omega) (by omega), YQ (by omega), ⟨by omega, by omega, by omega⟩, ?_⟩; refine ⟨fun l z => ∃ k : Nat, z = k /\ k <= m /\ l.length = N /\ Cn p N (vo l) /\ vcg p (opr m (dv p v) (vo l) N e0) (opr m (dv p v) (dv p a) k (dv p b)), fun l z => (m - z).toNat, ⟨0, rfl, Nat.zero_le _, by simp, fun i hi => by rw [Jks]; omega, ?_⟩, ?_⟩
 .have : vo (List.replicate N (0 : Int)) = vz := by funext i; rw [Jks]; rfl
  rw [this]; have h0 : ∀ n, opr m (dv p v) vz n e0 = vz := fun n => by
   induction n with
   | zero => rfl
   | succ n ih => show JV (opr m (dv p v) vz n e0) (vsm (vz n) _) = vz; rw [ih]; funext i; simp [JV, vsm, vz]
  rw [h0]; exact vcg.refl _
 rintro l _ ⟨i, rfl, hi, hl, hcn, hE⟩; dsimp only; refine ⟨fun hlt => ?_, fun hge => ?_⟩
 .refine ⟨fun r z => ∃ j : Nat, z = j /\ j <= m /\ r.length = N /\ Cn p N (vo r) /\ vcg p (opr m (dv p v) (vo r) N e0) (JV (opr m (dv p v) (dv p a) i (dv p b)) (vsm (dv p a i) (tXn m (dv p v) i (opr m (dv p v) (dv p b) j e0)))), fun r z => (m - z).toNat, ⟨0, rfl, Nat.zero_le _, hl, hcn, ?_⟩, ?_⟩
  .show vcg p _ (JV _ (vsm _ (tXn m (dv p v) i vz))); rw [Jir, Jnz, Ja0]; exact hE
  rintro r _ ⟨j, rfl, hj, hr, hcr, hEr⟩; dsimp only; rw [show (i : Int) + (j : Int) = ((i + j : Nat) : Int) by push_cast; rfl, JN, JN, JN, Qa, hva, hvb]; refine ⟨fun hltj => ?_, fun hgej => ?_⟩
  .have c1 := Je6 (p := p) (by omega) a i; have c2 := Je6 (p := p) (by omega) b j; have c3 := hcr (i + j) (by omega); have c4 := ZX (a := dv p a i) (b := dv p b j) hp2 ⟨c1.1, by omega⟩ ⟨c2.1, by omega⟩; refine ⟨YQ (by omega), YQ (by omega), ⟨by omega, by omega⟩, ⟨by omega, by omega⟩, ⟨by omega, by omega⟩, Js (by omega) (by omega), Js (by omega) (by omega), by omega, ⟨by omega, by omega⟩, Js (by omega) (by omega), ⟨j + 1, by push_cast; rfl, by omega, by rw [List.length_set, hr], fun t ht => ?_, ?_⟩, by omega⟩
   .rw [J5]; split
    .rw [Int.tmod_eq_emod_of_nonneg (by omega)]; exact ⟨Int.emod_nonneg _ (by omega), Int.emod_lt_of_pos _ (by omega)⟩
    .exact hcr t ht
   .have hup := Jg3 (p := p) (m := m) (c := dv p v) (w := vo r) (w' := vo (r.set (i + j) ((vo r (i + j) + dv p a i * dv p b j).tmod p))) (u := e0) (s := dv p a i * dv p b j) (k := i + j) (by
     rw [J5, if_pos ⟨rfl, by omega⟩, Int.tmod_eq_emod_of_nonneg (by omega), Int.emod_emod]) (fun t ht => by rw [J5, if_neg (fun h => ht h.1.symm)]) N
    rw [if_pos (by omega)] at hup; refine hup.trans ((hEr.add (vcg.refl _)).trans ?_); show vcg p _ (JV _ (vsm _ (tXn m (dv p v) i (JV (opr m (dv p v) (dv p b) j e0) (vsm (dv p b j) (tXn m (dv p v) j e0)))))); rw [Jbn, Jcm, Jdq, Jdm, Jgq, <- Zi]; exact vcg.refl _
  .have hjm : j = m := by omega
   subst hjm; rw [hself] at hEr; exact ⟨Js (by omega) (by omega), ⟨i + 1, by push_cast; rfl, by omega, hr, hcr, hEr⟩, by omega⟩
 .have him : i = m := by omega
  subst him; have hE2 : vcg p (opr i (dv p v) (vo l) N e0) (Yf i (dv p v) (dv p b) (dv p a)) := hE; refine ⟨Js (by omega) (by omega), Js (by omega) (by omega), ?_⟩; refine ⟨fun r z => ∃ t : Nat, z = (t : Int) - 1 /\ i <= t /\ t <= N /\ r.length = N /\ Cn p N (vo r) /\ vcg p (opr i (dv p v) (vo r) t e0) (Yf i (dv p v) (dv p b) (dv p a)), fun r z => (z + 1).toNat, ⟨N, by omega, by omega, by omega, hl, hcn, hE2⟩, ?_⟩; rintro r _ ⟨t, rfl, hit, htN, hr, hcr, hEr⟩; dsimp only; refine ⟨fun hle => ?_, fun hgt => ?_⟩
  .obtain ⟨k, rfl⟩ : ∃ k, t = k + 1 := ⟨t - 1, by omega⟩
   have ek : ((k + 1 : Nat) : Int) - 1 = (k : Int) := by omega
   rw [ek] at hle ⊢; have hm1 : i ≠ 1 := by omega
   have hmf : vo mf = dv p v := F.vo; have hml : mf.length = i := (F.cn hm1).1; have hwk := hcr k (by omega); refine ⟨fun s z => ∃ j : Nat, z = j /\ j <= i /\ s.length = N /\ Cn p N (vo s) /\ vo s k = vo r k /\ vcg p (opr i (dv p v) (vo s) k e0) (JV (opr i (dv p v) (vo r) k e0) (vsm (-(vo r k)) (tXn i (dv p v) (k - i) (opr i (dv p v) (dv p v) j e0)))), fun s z => (i - z).toNat, ⟨0, rfl, Nat.zero_le _, hr, hcr, rfl, ?_⟩, ?_⟩
   .show vcg p _ (JV _ (vsm _ (tXn i (dv p v) (k - i) vz))); rw [Jir, Jnz, Ja0]; exact vcg.refl _
   rintro s _ ⟨j, rfl, hj, hs, hcs, hsk, hEs⟩; dsimp only; rw [show (k : Int) - (i : Int) + (j : Int) = ((k - i + j : Nat) : Int) by omega, JN, JN, JN, Qa, hmf, hsk]; refine ⟨fun hltj => ?_, fun hgej => ?_⟩
   .have c1 := Je6 (p := p) (by omega) v j; have c3 := hcs (k - i + j) (by omega); have c4 := ZX (a := (p : Int) - vo r k) (b := dv p v j) hp2 ⟨by omega, by omega⟩ ⟨c1.1, by omega⟩; refine ⟨Js (by omega) (by omega), YQ (by omega), Js (by omega) (by omega), YQ (by omega), ⟨by omega, by omega⟩, ⟨by omega, by omega⟩, Js (by omega) (by omega), ⟨by omega, by omega⟩, Js (by omega) (by omega), Js (by omega) (by omega), by omega, ⟨by omega, by omega⟩, Js (by omega) (by omega), ⟨j + 1, by push_cast; rfl, by omega, by rw [List.length_set, hs], fun u hu => ?_, ?_, ?_⟩, by omega⟩
    .rw [J5]; split
     .rw [Int.tmod_eq_emod_of_nonneg (by omega)]; exact ⟨Int.emod_nonneg _ (by omega), Int.emod_lt_of_pos _ (by omega)⟩
     .exact hcs u hu
    .rw [J5, if_neg (by omega)]; exact hsk
    .have hup := Jg3 (p := p) (m := i) (c := dv p v) (w := vo s) (w' := vo (s.set (k - i + j) ((vo s (k - i + j) + ((p : Int) - vo r k) * dv p v j).tmod p))) (u := e0) (s := -(vo r k) * dv p v j) (k := k - i + j) (by
      rw [J5, if_pos ⟨rfl, by omega⟩, Jgx (by omega) c3.1 (by omega) c1.1, Int.emod_emod, Int.neg_mul]; rfl) (fun t ht => by rw [J5, if_neg (fun h => ht h.1.symm)]) k
     rw [if_pos (by omega)] at hup; refine hup.trans ((hEs.add (vcg.refl _)).trans ?_); show vcg p _ (JV _ (vsm _ (tXn i (dv p v) (k - i) (JV (opr i (dv p v) (dv p v) j e0) (vsm (dv p v j) (tXn i (dv p v) j e0)))))); rw [Jbn, Jcm, Jdq, Jdm, Jgq, <- Zi]; exact vcg.refl _
   .have hji : j = i := by omega
    subst hji; refine ⟨Js (by omega) (by omega), ⟨k, by omega, by omega, by omega, hs, hcs, ?_⟩, by omega⟩; refine hEs.trans (vcg.trans ?_ hEr); show vcg p _ (JV (opr j (dv p v) (vo r) k e0) (vsm (vo r k) (tXn j (dv p v) k e0))); have e1 : tXn j (dv p v) k e0 = tXn j (dv p v) (k - j) (tXn j (dv p v) j e0) := by rw [Jdq, show k - j + j = k by omega]
    rw [e1, Xm hm0, Jcm, Jgq, show vo r k * -1 = -(vo r k) by omega]; exact vcg.refl _
  .have hti : t = i := by omega
   subst hti; refine ⟨⟨by omega, by omega⟩, _, Jkv F (u := opr t (dv p v) (vo r) t e0) ?_ (fun j hj => ?_) rfl, ?_⟩
   .rw [List.length_take, Int.toNat_natCast, hr]; omega
   .rw [Int.toNat_natCast, Jgu hj, Jg4 (Nat.le_refl _), if_pos hj]; have := hcr j (by omega); exact (Int.emod_eq_of_lt this.1 this.2).symm
   .rw [YR hEr]; exact h
end
end Go.Proofs.YtjgpkljepgcekaaGreat
namespace Go.Proofs.YtjgpkljepgcekaaGreat
section
variable {F : GFv} {p m v g : Nat}
theorem v_Is {x : Int} {Q : Bool -> Prop} (K : GFk F p m v g) (h : Q (decide (0 <= x /\ x < ((p ^ m : Nat) : Int)))) : V_Is F x Q := by
 refine ⟨fun h0 => ?_, fun h0 => ?_⟩
 .rw [K.q]; simpa [h0] using h
 .simpa [h0] using h
theorem Jec {x : Int} {Q : Bool -> Prop} (K : GFk F p m v g) (h : Q (decide (inE (p ^ m) x ≠ 0))) : Zb F x Q := by
 unfold inE at h; refine ⟨fun h0 => ?_, fun h0 => ?_⟩
 .rw [K.q]; by_cases hx : x < ((p ^ m : Nat) : Int)
  .rw [if_pos ⟨by omega, hx⟩] at h; rw [decide_eq_true hx]; rw [decide_eq_true (by omega)] at h; exact h
  .rw [if_neg (by omega)] at h; rw [decide_eq_false hx]; exact h
 .by_cases hx : 0 <= x /\ x < ((p ^ m : Nat) : Int)
  .rw [if_pos hx] at h; rw [decide_eq_false (by omega)] at h; exact h
  .rw [if_neg hx] at h; exact h
theorem Jf4 {x : Int} {Q : Int -> Prop} (K : GFk F p m v g) (h : Q ((inE (p ^ m) x : Nat) : Int)) : Zc F x Q := by
 refine v_Is K ⟨fun hb => ?_, fun hb => ?_⟩
 .have hb := of_decide_eq_true hb; unfold inE at h; rw [if_pos hb, Int.toNat_of_nonneg hb.1] at h; exact h
 .have hb := of_decide_eq_false hb; unfold inE at h; rw [if_neg hb] at h; exact h
theorem Juq {q : Nat} {x : Int} (h : inE q x ≠ 0) : x = ((inE q x : Nat) : Int) := by
 unfold inE at h ⊢; split
 .rename_i hc; exact (Int.toNat_of_nonneg hc.1).symm
 .rename_i hc; rw [if_neg hc] at h; exact absurd rfl h
theorem GFk.lg (K : GFk F p m v g) {x : Int} (h : inE (p ^ m) x ≠ 0) : ∃ a : Nat, a < p ^ m - 1 /\ inE (p ^ m) x = pw (JF p m (dv p v)) g a /\ gi F.log x = (a : Int) /\ (0 <= x /\ x < (F.log.length : Nat)) := by
  have R := K.fv.ring
  have hlt := Qh R.pos x
  obtain ⟨a, ha, he⟩ := K.G.surj R (Nat.pos_of_ne_zero h) hlt
  have hx := Juq h
  refine ⟨a, ha, he.symm, ?_, ?_⟩
  . rw [hx, <- he, JN, K.lv a ha]
  . rw [K.ll]; omega
theorem Jn1 {x y : Int} {Q : Int -> Prop} (K : GFk F p m v g) (h : Q ((JF p m (dv p v) (inE (p ^ m) x) (inE (p ^ m) y) : Nat) : Int)) : Jfi F x y Q := by
 have R := K.fv.ring; have hq := K.fv.q; have hx := Qh R.pos x; have hy := Qh R.pos y; refine Jec K ⟨fun hb => ?_, fun hb => Jec K ⟨fun hb2 => ?_, fun hb2 => ?_⟩⟩
 .have h0 : inE (p ^ m) x = 0 := by simpa using hb
  rw [h0, R.Z0 hy] at h; exact h
 .have h0 : inE (p ^ m) y = 0 := by simpa using hb2
  rw [h0, R.M0 hx] at h; exact h
 .obtain ⟨a, ha, ea, la, bx⟩ := K.lg (x := x) (by simpa using hb); obtain ⟨b, hb', eb, lb, by_⟩ := K.lg (x := y) (by simpa using hb2); rw [la, lb]; have hel := K.el; refine ⟨bx, by_, Js (by omega) (by omega), ⟨by omega, by omega⟩, ?_⟩; rw [show (a : Int) + (b : Int) = ((a + b : Nat) : Int) by push_cast; rfl, JN, K.ev _ (by omega), R.pw_add K.G.lt, <- ea, <- eb]; exact h
theorem Jw9 {p m : Nat} {c : Vec} {x : Nat} (hp : 2 <= p) (hm : 0 < m) (hx : x < p ^ m) : JF p m c (p - 1) x = ZR p m x := by
 unfold JF ZR; have hd : vcg p (dv p (p - 1)) (vsm (-1) e0) := fun i => by
  cases i with
  | zero =>
   rw [YH, Nat.mod_eq_of_lt (by omega)]; show ((p - 1 : Nat) : Int) % p = (-1 * 1) % p; rw [show ((p - 1 : Nat) : Int) = -1 * 1 + p * 1 by omega, Int.add_mul_emod_self_left]
  | succ i =>
   rw [Zs, Nat.div_eq_of_lt (by omega), Je5]; simp [vz, vsm, e0]
 rw [YR (vcg.mul (vcg.refl c) hd (vcg.refl _))]; have : Yf m c (vsm (-1) e0) (dv p x) = vsm (-1) (dv p x) := by
  show opr m c (dv p x) m (vsm (-1) e0) = _; rw [Jk7, Y3 (Q7 hx)]
 rw [this]
theorem Jtq {x : Int} {Q : Int -> Prop} (K : GFk F p m v g) (h : Q ((ZR p m (inE (p ^ m) x) : Nat) : Int)) : Zg F x Q := by
 have hp := K.fv.p2; have hpq := K.fv.pq; have h256 := K.fv.p256; have R := K.fv.ring; unfold Zg; rw [K.fv.eP]; refine ⟨Js (by omega) (by omega), Jn1 K ?_⟩; rw [show (p : Int) - 1 = ((p - 1 : Nat) : Int) by omega, QS (by omega), Jw9 hp K.fv.m0 (Qh R.pos x)]; exact h
theorem Js3 {m x y : Nat} (hx : x < 2 ^ m) (hy : y < 2 ^ m) : x ^^^ y = Qx 2 m x y := by
 refine (nm_eq (by decide) (Nat.xor_lt_two_pow hx hy) fun i hi => ?_).symm; have h := Nat.testBit_xor x y i; rw [Nat.testBit_eq_decide_div_mod_eq, Nat.testBit_eq_decide_div_mod_eq, Nat.testBit_eq_decide_div_mod_eq] at h; simp only [dv, JV]; have h1 := Nat.mod_two_eq_zero_or_one (x / 2 ^ i); have h2 := Nat.mod_two_eq_zero_or_one (y / 2 ^ i); have h3 := Nat.mod_two_eq_zero_or_one ((x ^^^ y) / 2 ^ i); rcases h1 with h1 | h1 <;> rcases h2 with h2 | h2 <;> rcases h3 with h3 | h3 <;> rw [h1, h2, h3] at h <;> rw [h1, h2, h3] <;> first | rfl | exact absurd h (by decide)
theorem v_Add {x y : Int} {Q : Int -> Prop} (K : GFk F p m v g) (h : Q ((Qx p m (inE (p ^ m) x) (inE (p ^ m) y) : Nat) : Int)) : Jpg F x y Q := by
 have R := K.fv.ring; have hq := K.fv.q; have hx := Qh R.pos x; have hy := Qh R.pos y; have hq2 := R.q2; refine Jf4 K (Jf4 K ⟨fun h2 => ⟨⟨by omega, by omega, by omega, by omega⟩, ?_⟩, fun h2 => ⟨fun h0 => ?_, fun h0 => ⟨fun h1 => ?_, fun h1 => ?_⟩⟩⟩)
 .have hp2 : p = 2 := by have := K.fv.eP; omega
  subst hp2; rw [<- Js3 hx hy] at h; exact h
 .rw [show inE (p ^ m) x = 0 by omega, R.zA hy] at h; exact h
 .rw [show inE (p ^ m) y = 0 by omega, R.Az hx] at h; exact h
 .have hi : ∀ z : Nat, z < p ^ m -> inE (p ^ m) (z : Int) = z := fun z hz => QS hz; obtain ⟨a, ha, ea, la, bx⟩ := K.lg (x := ((inE (p ^ m) x : Nat) : Int)) (by rw [hi _ hx]; omega); obtain ⟨b, hb, eb, lb, by_⟩ := K.lg (x := ((inE (p ^ m) y : Nat) : Int)) (by rw [hi _ hy]; omega); rw [hi _ hx] at ea; rw [hi _ hy] at eb; rw [la, lb]; have hal := K.al; have hel := K.el; refine ⟨by_, bx, Js (by omega) (by omega), fun z => ∃ d : Nat, z = d /\ d < p ^ m - 1 /\ pw (JF p m (dv p v)) g (a + d) = pw (JF p m (dv p v)) g b, ⟨fun hn => ?_, fun hn => ?_⟩, ?_⟩
  .rw [K.q]; refine ⟨Js (by omega) (by omega), Js (by omega) (by omega), b + (p ^ m - 1) - a, by omega, by omega, ?_⟩; have := K.G.per R b 1; rw [Nat.mul_one] at this; rw [show a + (b + (p ^ m - 1) - a) = b + (p ^ m - 1) by omega]; exact this
  .exact ⟨b - a, by omega, by omega, by rw [show a + (b - a) = b by omega]⟩
  .rintro _ ⟨d, rfl, hd, hpd⟩; rw [JN, K.av d hd]; have hgd := R.pw_lt g d; have hga := R.pw_lt g a
   -- x + y = x (g^d + 1)
   have hsum : Qx p m (inE (p ^ m) x) (inE (p ^ m) y) = JF p m (dv p v) (pw (JF p m (dv p v)) g a) (Qx p m (pw (JF p m (dv p v)) g d) 1) := by
    rw [R.Md hga hgd R.one_lt, R.M1 hga, <- R.pw_add K.G.lt, hpd, <- ea, <- eb, R.Ac]
   rw [hsum] at h; have hsl := R.Al (pw (JF p m (dv p v)) g d) 1; refine ⟨⟨by omega, by omega⟩, fun hm1 => ?_, fun hm1 => ?_⟩
   .have hz : Qx p m (pw (JF p m (dv p v)) g d) 1 = 0 := by
     rcases Nat.eq_zero_or_pos (Qx p m (pw (JF p m (dv p v)) g d) 1) with h3 | h3
     .exact h3
     .obtain ⟨s, hs, hse⟩ := K.G.surj R h3 hsl; rw [<- hse, K.lv s hs] at hm1; omega
    rw [hz, R.M0 hga] at h; exact h
   .have hnz : 0 < Qx p m (pw (JF p m (dv p v)) g d) 1 := by
     rcases Nat.eq_zero_or_pos (Qx p m (pw (JF p m (dv p v)) g d) 1) with h3 | h3
     .rw [h3, K.l0] at hm1; exact absurd rfl hm1
     .exact h3
    obtain ⟨s, hs, hse⟩ := K.G.surj R hnz hsl; rw [<- hse] at h ⊢; rw [K.lv s hs]; refine ⟨bx, Js (by omega) (by omega), ⟨by omega, by omega⟩, ?_⟩; rw [show (a : Int) + (s : Int) = ((a + s : Nat) : Int) by push_cast; rfl, JN, K.ev _ (by omega), R.pw_add K.G.lt]; exact h
theorem v_Inv {x : Int} {Q : Int × Int -> Prop} (K : GFk F p m v g) (h0 : inE (p ^ m) x = 0 -> Q (0, 7)) (h1 : ∀ z : Nat, inE (p ^ m) x ≠ 0 -> z < p ^ m -> JF p m (dv p v) z (inE (p ^ m) x) = 1 -> Q ((z : Int), 0)) : Jpf F x Q := by
 have R := K.fv.ring; have hq := K.fv.q; refine Jec K ⟨fun hb => h0 (by simpa using hb), fun hb => ?_⟩; have hne : inE (p ^ m) x ≠ 0 := by simpa using hb
 obtain ⟨a, ha, ea, la, bx⟩ := K.lg hne; have hel := K.el; rw [la, K.q]; refine ⟨Js (by omega) (by omega), bx, Js (by omega) (by omega), ⟨by omega, by omega⟩, ?_⟩; rw [show ((p ^ m : Nat) : Int) - 1 - (a : Int) = ((p ^ m - 1 - a : Nat) : Int) by omega, JN, K.ev _ (by omega)]; refine h1 _ hne (R.pw_lt g _) ?_; rw [ea, <- R.pw_add K.G.lt, show p ^ m - 1 - a + a = p ^ m - 1 by omega, K.G.one]
theorem Od.uniq {M : Nat -> Nat -> Nat} {x n k : Nat} (h : Od M x n) (h' : Od M x k) : n = k := by
 rcases Nat.lt_trichotomy n k with h1 | h1 | h1
 .exact absurd h.one (h'.least n h.pos h1)
 .exact h1
 .exact absurd h'.one (h.least k h'.pos h1)
theorem Jwo {x : Int} {l : LI} {Q : LI -> Prop} (K : GFk F p m v g) (hl : l.length <= 1000) (h : ∀ r : LI, r.length = l.length -> (∀ i, i < l.length -> vo r i = ((JF p m (dv p v) (inE (p ^ m) x) (inE (p ^ m) (vo l i)) : Nat) : Int)) -> Q r) : ZB F x l Q := by
 refine ⟨⟨by omega, by omega, by omega⟩, fun r i => ∃ k : Nat, i = k /\ k <= l.length /\ r.length = l.length /\ ∀ j, j < k -> vo r j = ((JF p m (dv p v) (inE (p ^ m) x) (inE (p ^ m) (vo l j)) : Nat) : Int), fun r i => (l.length - i).toNat, ⟨0, rfl, Nat.zero_le _, by simp, fun j hj => by omega⟩, ?_⟩; rintro r _ ⟨k, rfl, hk, hr, hv⟩; dsimp only; rw [JN]; refine ⟨fun hlt => ⟨⟨by omega, by omega⟩, Jn1 K ⟨⟨by omega, by omega⟩, Js (by omega) (by omega), ⟨k + 1, by push_cast; rfl, by omega, ?_, fun j hj => ?_⟩, by omega⟩⟩, fun hge => h r hr fun i hi => hv i (by omega)⟩
 .rw [Qa, List.length_set, hr]
 .rw [Qa, J5]; by_cases hkj : k = j
  .subst hkj; rw [if_pos ⟨rfl, by omega⟩]
  .rw [if_neg (fun h => hkj h.1)]; exact hv j (by omega)
end
end Go.Proofs.YtjgpkljepgcekaaGreat
namespace Go.Proofs.YtjgpkljepgcekaaGreat
section
variable (p m v : Nat)
def Ad (x y : Int) : Int := ((Qx p m (inE (p ^ m) x) (inE (p ^ m) y) : Nat) : Int)
def Ml (x y : Int) : Int := ((JF p m (dv p v) (inE (p ^ m) x) (inE (p ^ m) y) : Nat) : Int)
def Ng (x : Int) : Int := ((ZR p m (inE (p ^ m) x) : Nat) : Int)
def Iv (x : Int) : Int := ((((List.range (p ^ m)).find? fun z => JF p m (dv p v) z (inE (p ^ m) x) == 1).getD 0 : Nat) : Int)
def El (x : Int) : Prop := 0 <= x /\ x < ((p ^ m : Nat) : Int)
def Elr (l : LI) : Prop := ∀ x ∈ l, El p m x
def Els (X : LL) : Prop := ∀ r ∈ X, Elr p m r
def sc (x : Int) (l : LI) : LI := l.map (Ml p m v x)
def adm (a : LI) (x : Int) (o : LI) : LI := (List.range a.length).map fun i => if vo o i = 0 then vo a i else Ad p m (vo a i) (Ml p m v x (vo o i))
def adx (a : LI) (x : Int) (o : LI) : LI := if x = 0 then a else adm p m v a x o
def row (X : LL) (t : Nat) : LI := X.getD t []
def nz (X : LL) (c s : Nat) : Nat := s + ((X.drop s).takeWhile fun r => vo r c == 0).length
def swp (X : LL) (i j : Nat) : LL := (X.set i (row X j)).set j (row X i)
def clr (f : Nat -> Int) (cur : Nat) (X : LL) : LL := (List.range X.length).map fun t => if t = cur then row X t else adx p m v (row X t) (f t) (row X cur)
structure ES where
  X : LL
  Y : LL
  pv : LI
  d : Int
def es1 (c r cur : Nat) (S : ES) : ES :=
  let X1 := if r = cur then S.X else swp S.X r cur
  let Y1 := if r = cur then S.Y else swp S.Y r cur
  let e := vo (row X1 cur) c
  let X2 := X1.set cur (sc p m v (Iv p m v e) (row X1 cur))
  let Y2 := Y1.set cur (sc p m v (Iv p m v e) (row Y1 cur))
  { X := clr p m v (fun t => Ng p m (vo (row X2 t) c)) cur X2, Y := clr p m v (fun t => Ng p m (vo (row X2 t) c)) cur Y2, pv := S.pv ++ [(c : Int)], d := Ml p m v (if r = cur then S.d else Ng p m S.d) e }
def Yr (S : ES) (c : Nat) : ES :=
  if S.pv.length < S.X.length /\ nz S.X c S.pv.length < S.X.length then es1 p m v c (nz S.X c S.pv.length) S.pv.length S else S
def elim (cols : Nat) (S : ES) : ES := (List.range cols).foldl (Yr p m v) S
end
theorem QR {X Y : LL} (h : X.length = Y.length) (hv : ∀ i, i < X.length -> row X i = row Y i) : X = Y := by
 apply List.ext_getElem?; intro i; rcases Nat.lt_or_ge i X.length with hi | hi
 .rw [Zr (d := []) hi, Zr (d := []) (ls := Y) (by omega)]; exact congrArg some (hv i hi)
 .rw [List.getElem?_eq_none hi, List.getElem?_eq_none (by omega)]
theorem Q2 (X : LL) (i j : Nat) (l : LI) : row (X.set i l) j = if i = j /\ i < X.length then l else row X j := by
 unfold row; rw [List.getD_eq_getElem?_getD, List.getD_eq_getElem?_getD, List.getElem?_set]; by_cases h : i = j
 .subst h; by_cases hi : i < X.length <;> simp [hi]
 .simp [h]
theorem Job {n : Nat} {f : Nat -> LI} {t : Nat} (h : t < n) : row ((List.range n).map f) t = f t := by
 unfold row; rw [List.getD_eq_getElem?_getD]; simp [h]
theorem vo_map {n : Nat} {f : Nat -> Int} {t : Nat} (h : t < n) : vo ((List.range n).map f) t = f t := by
 unfold vo; rw [List.getD_eq_getElem?_getD]; simp [h]
theorem row_hi {X : LL} {t : Nat} (h : X.length <= t) : row X t = [] := by
 unfold row; rw [List.getD_eq_getElem?_getD, List.getElem?_eq_none h]; rfl
theorem Z5 {X : LL} {t : Nat} (h : t < X.length) : row X t ∈ X := List.mem_of_getElem? (Zr h)
theorem Jbv {X : LL} {r : LI} (h : r ∈ X) : ∃ t, t < X.length /\ row X t = r := by
 obtain ⟨t, ht, e⟩ := List.mem_iff_getElem.1 h; refine ⟨t, ht, ?_⟩; unfold row; rw [List.getD_eq_getElem?_getD, List.getElem?_eq_getElem ht]; exact e
theorem Jlm {l : LI} {x : Int} (h : x ∈ l) : ∃ t, t < l.length /\ vo l t = x := by
 obtain ⟨t, ht, e⟩ := List.mem_iff_getElem.1 h; refine ⟨t, ht, ?_⟩; unfold vo; rw [List.getD_eq_getElem?_getD, List.getElem?_eq_getElem ht]; exact e
theorem Jd6 {l : LI} {t : Nat} (h : t < l.length) : vo l t ∈ l := List.mem_of_getElem? (Zr h)
theorem Jdr (X : LL) (i j : Nat) : (swp X i j).length = X.length := by simp [swp]
theorem Zk {X : LL} {i j t : Nat} (hi : i < X.length) (hj : j < X.length) : row (swp X i j) t = if t = j then row X i else if t = i then row X j else row X t := by
 unfold swp; rw [Q2, Q2, List.length_set]; by_cases h1 : t = j
 .subst h1; simp [hj]
 .by_cases h2 : t = i
  .subst h2; simp [hi, Ne.symm h1, h1]
  .simp [Ne.symm h1, Ne.symm h2, h1, h2]
theorem Jtx {X : LL} {i j : Nat} (hi : i < X.length) (hj : j < X.length) : swp X i j = swp X j i := by
 refine QR (by rw [Jdr, Jdr]) fun t ht => ?_; rw [Zk hi hj, Zk hj hi]; by_cases h1 : t = j <;> by_cases h2 : t = i <;> simp_all
theorem Jtw {X : LL} {i : Nat} (hi : i < X.length) : swp X i i = X := by
 refine QR (Jdr _ _ _) fun t ht => ?_; rw [Zk hi hi]; by_cases h1 : t = i <;> simp_all
theorem Z8 (X : LL) (c : Nat) : ∀ s, s <= X.length -> nz X c s <= X.length /\ (∀ t, s <= t -> t < nz X c s -> vo (row X t) c = 0) /\ (nz X c s < X.length -> vo (row X (nz X c s)) c ≠ 0) := by
 have key : ∀ (n s : Nat), n + s = X.length -> nz X c s <= X.length /\ (∀ t, s <= t -> t < nz X c s -> vo (row X t) c = 0) /\ (nz X c s < X.length -> vo (row X (nz X c s)) c ≠ 0) := by
  intro n
  induction n with
  | zero =>
   intro s hs; have hd : X.drop s = [] := List.drop_eq_nil_of_le (by omega); have e : nz X c s = s := by unfold nz; rw [hd]; rfl
   rw [e]; exact ⟨by omega, fun t h1 h2 => by omega, fun h => by omega⟩
  | succ n ih =>
   intro s hs; have hlt : s < X.length := by omega
   have hd : X.drop s = row X s :: X.drop (s + 1) := by
    rw [List.drop_eq_getElem_cons hlt]
    congr 1
    unfold row; rw [List.getD_eq_getElem?_getD, List.getElem?_eq_getElem hlt]; rfl
   by_cases h0 : vo (row X s) c = 0
   .have e : nz X c s = nz X c (s + 1) := by
     unfold nz; rw [hd, List.takeWhile_cons, if_pos (by simp [h0]), List.length_cons]; omega
    obtain ⟨h1, h2, h3⟩ := ih (s + 1) (by omega); rw [e]; refine ⟨h1, fun t ht1 ht2 => ?_, h3⟩; rcases Nat.eq_or_lt_of_le ht1 with rfl | h
    .exact h0
    .exact h2 t h ht2
   .have e : nz X c s = s := by
     unfold nz; rw [hd, List.takeWhile_cons, if_neg (by simpa using h0)]; rfl
    rw [e]; exact ⟨by omega, fun t h1 h2 => by omega, fun _ => h0⟩
 exact fun s hs => key (X.length - s) s (by omega)
theorem Jol (X : LL) (c s : Nat) : s <= nz X c s := Nat.le_add_right _ _
theorem Jjj {X : LL} {c s r : Nat} (hs : s <= r) (hr : r <= X.length) (h1 : ∀ t, s <= t -> t < r -> vo (row X t) c = 0) (h2 : r < X.length -> vo (row X r) c ≠ 0) : r = nz X c s := by
 obtain ⟨a, b, d⟩ := Z8 X c s (by omega); have := Jol X c s; rcases Nat.lt_trichotomy r (nz X c s) with h | h | h
 .exact absurd (b r hs h) (h2 (by omega))
 .exact h
 .exact absurd (h1 _ this h) (d (by omega))
section
variable {p m v : Nat}
theorem Jb3 (a : LI) (x : Int) (o : LI) : (adm p m v a x o).length = a.length := by simp [adm]
theorem Jh0 (a : LI) (x : Int) (o : LI) : (adx p m v a x o).length = a.length := by
 unfold adx; split
 .rfl
 .exact Jb3 ..
theorem Jco (x : Int) (l : LI) : (sc p m v x l).length = l.length := by simp [sc]
theorem Zt (f : Nat -> Int) (cur : Nat) (X : LL) : (clr p m v f cur X).length = X.length := by simp [clr]
theorem Jbp {f : Nat -> Int} {cur t : Nat} {X : LL} (h : t < X.length) : row (clr p m v f cur X) t = if t = cur then row X t else adx p m v (row X t) (f t) (row X cur) := Job h
theorem ZI {a o : LI} {x : Int} {t : Nat} (h : t < a.length) : vo (adm p m v a x o) t = if vo o t = 0 then vo a t else Ad p m (vo a t) (Ml p m v x (vo o t)) := vo_map h
theorem Jf0 {x : Int} {l : LI} {t : Nat} (h : t < l.length) : vo (sc p m v x l) t = Ml p m v x (vo l t) := by
 unfold vo sc; rw [List.getD_eq_getElem?_getD, List.getElem?_map, List.getD_eq_getElem?_getD, List.getElem?_eq_getElem h]; rfl
end
section
variable {F : GFv} {p m v g : Nat} {P M : Int} {mf : LI} {X : LL}
theorem Jfm {l : LI} {Q : Bool -> Prop} (K : GFk F p m v g) (hl : l.length <= 1000000) (h1 : Elr p m l -> Q true) (h2 : ¬ Elr p m l -> Q false) : Yl F l Q := by
 refine ⟨fun z => ∃ t : Nat, z = t /\ t <= l.length /\ ∀ k, k < t -> El p m (vo l k), fun z => (l.length - z).toNat, ⟨0, rfl, Nat.zero_le _, fun k h => by omega⟩, ?_⟩; rintro _ ⟨t, rfl, ht, hk⟩; dsimp only; rw [JN]; refine ⟨fun hlt => ⟨⟨by omega, by omega⟩, v_Is K ?_⟩, fun hge => h1 fun x hx => ?_⟩
 .by_cases he : El p m (vo l t)
  .rw [decide_eq_true (show 0 <= vo l t /\ vo l t < ((p ^ m : Nat) : Int) from he)]; refine ⟨fun h => absurd h (by decide), fun _ => ⟨Js (by omega) (by omega), ⟨t + 1, by push_cast; rfl, by omega, fun k hk' => ?_⟩, by omega⟩⟩; rcases Nat.lt_or_ge k t with h | h
   .exact hk k h
   .rw [show k = t by omega]; exact he
  .rw [decide_eq_false (show ¬ (0 <= vo l t /\ vo l t < ((p ^ m : Nat) : Int)) from he)]; exact ⟨fun _ => h2 fun h => he (h _ (Jd6 (by omega))), fun h => absurd h (by decide)⟩
 .obtain ⟨t', h3, rfl⟩ := Jlm hx; exact hk t' (by omega)
theorem Jd3 {l : LI} {Q : Int -> Prop} (hF : FV P M mf p m v) (hl : l.length <= 1000000) (h1 : Elr p m l -> Q 0) (h2 : ¬ Elr p m l -> Q 2) : Zy P M mf l Q := by
 refine ⟨fun z => ∃ t : Nat, z = t /\ t <= l.length /\ ∀ k, k < t -> El p m (vo l k), fun z => (l.length - z).toNat, ⟨0, rfl, Nat.zero_le _, fun k h => by omega⟩, ?_⟩; rintro _ ⟨t, rfl, ht, hk⟩; dsimp only; rw [JN]; refine ⟨fun hlt => ⟨⟨by omega, by omega⟩, _, v_rIs hF rfl, ?_⟩, fun hge => h1 fun x hx => ?_⟩
 .by_cases he : El p m (vo l t)
  .rw [decide_eq_true (show 0 <= vo l t /\ vo l t < ((p ^ m : Nat) : Int) from he)]; refine ⟨fun h => absurd h (by decide), fun _ => ⟨Js (by omega) (by omega), ⟨t + 1, by push_cast; rfl, by omega, fun k hk' => ?_⟩, by omega⟩⟩; rcases Nat.lt_or_ge k t with h | h
   .exact hk k h
   .rw [show k = t by omega]; exact he
  .rw [decide_eq_false (show ¬ (0 <= vo l t /\ vo l t < ((p ^ m : Nat) : Int)) from he)]; exact ⟨fun _ => h2 fun h => he (h _ (Jd6 (by omega))), fun h => absurd h (by decide)⟩
 .obtain ⟨t', h3, rfl⟩ := Jlm hx; exact hk t' (by omega)
def shp (C : Int) (X : LL) : Prop := 0 <= C /\ C <= 256 /\ X.length <= 256 /\ ∀ r ∈ X, (r.length : Int) = C
theorem Jkq {C : Int} {Q : Bool -> Prop} (h1 : shp C X -> Q true) (h2 : ¬ shp C X -> Q false) : YE C X Q := by
 refine ⟨fun h => h2 fun s => by have := s.1; omega, fun h0 => ⟨fun h => h2 fun s => by have := s.2.1; omega, fun h3 => ⟨fun h => h2 fun s => by have := s.2.2.1; omega, fun h4 => ?_⟩⟩⟩; refine ⟨fun z => ∃ t : Nat, z = t /\ t <= X.length /\ ∀ k, k < t -> ((row X k).length : Int) = C, fun z => (X.length - z).toNat, ⟨0, rfl, Nat.zero_le _, fun k h => by omega⟩, ?_⟩; rintro _ ⟨t, rfl, ht, hk⟩; dsimp only; refine ⟨fun hlt => ⟨⟨by omega, by omega⟩, fun hne => h2 fun s => hne (s.2.2.2 _ (Z5 (by omega))), fun he => ⟨Js (by omega) (by omega), ⟨t + 1, by push_cast; rfl, by omega, fun k hk' => ?_⟩, by omega⟩⟩, fun hge => h1 ⟨by omega, by omega, by omega, fun r hr => ?_⟩⟩
 .rcases Nat.lt_or_ge k t with h | h
  .exact hk k h
  .rw [show k = t by omega]; exact Classical.not_not.1 he
 .obtain ⟨t', h3, rfl⟩ := Jbv hr; exact hk t' (by omega)
theorem Jtb {Q : LL -> Prop} (hX : X.length <= 1000000) (hr : ∀ r ∈ X, r.length <= 1000000) (h : Q X) : Jcg X Q := by
 refine ⟨⟨by omega, by omega, by omega⟩, fun x z => ∃ t : Nat, z = t /\ t <= X.length /\ x.length = X.length /\ ∀ k, k < t -> row x k = row X k, fun x z => (X.length - z).toNat, ⟨0, rfl, Nat.zero_le _, by simp, fun k h => by omega⟩, ?_⟩; rintro x _ ⟨t, rfl, ht, hx, hk⟩; dsimp only; refine ⟨fun hlt => ⟨⟨by omega, by omega⟩, Jbm (hr _ (Z5 (t := t) (by omega))) ⟨⟨by omega, by omega⟩, Js (by omega) (by omega), ⟨t + 1, by push_cast; rfl, by omega, ?_, fun k hk' => ?_⟩, ?_⟩⟩, fun hge => ?_⟩
 .rw [Jwr]; exact hx
 .show row (x.set t (row X t)) k = row X k; rw [Q2]; by_cases e : t = k
  .rw [if_pos ⟨e, by omega⟩, e]
  .rw [if_neg (fun h => e h.1)]; exact hk k (by omega)
 .omega
 .rw [show x = X from QR hx fun i hi => hk i (by omega)]; exact h
theorem Jwk {c s : Nat} {Q : Int -> Prop} (hs : s <= X.length) (hX : X.length <= 1000000) (hc : ∀ t, t < X.length -> c < (row X t).length) (h : Q ((nz X c s : Nat) : Int)) : Yd X s c Q := by
 refine ⟨fun r => r = ((nz X c s : Nat) : Int), ⟨fun z => ∃ t : Nat, z = t /\ s <= t /\ t <= X.length /\ ∀ k, s <= k -> k < t -> vo (row X k) c = 0, fun z => (X.length - z).toNat, ⟨s, rfl, Nat.le_refl _, hs, fun k h1 h2 => by omega⟩, ?_⟩, ?_⟩
 .rintro _ ⟨t, rfl, h1, h2, h3⟩; dsimp only; refine ⟨fun hlt => ⟨⟨by omega, by omega⟩, ⟨by omega, by have := hc t (by omega); show (c : Int) < ((row X t).length : Nat); omega⟩, fun he => ⟨Js (by omega) (by omega), ⟨t + 1, by push_cast; rfl, by omega, by omega, fun k hk1 hk2 => ?_⟩, by omega⟩, fun hne => ?_⟩, fun hge => ?_⟩
  .rcases Nat.lt_or_ge k t with h | h
   .exact h3 k hk1 h
   .rw [show k = t by omega]; exact he
  .exact congrArg _ (Jjj h1 h2 h3 fun _ => hne)
  .exact congrArg _ (Jjj h1 h2 h3 fun h => by omega)
 .rintro _ rfl; exact h
theorem Jas {a o : LI} {x : Int} {Q : LI -> Prop} (K : GFk F p m v g) (hl : o.length <= a.length) (ha : a.length <= 1000000) (h : Q (adx p m v a x o)) : J0 F a x o Q := by
 refine ⟨fun h0 => by unfold adx at h; rwa [if_pos h0] at h, fun h0 => ?_⟩; unfold adx at h; rw [if_neg h0] at h; refine ⟨fun y z => ∃ t : Nat, z = t /\ t <= o.length /\ y.length = a.length /\ ∀ k, k < a.length -> vo y k = if k < t then vo (adm p m v a x o) k else vo a k, fun y z => (o.length - z).toNat, ⟨0, rfl, Nat.zero_le _, rfl, fun k hk => by simp⟩, ?_⟩; rintro y _ ⟨t, rfl, ht, hy, hk⟩; dsimp only; rw [JN, JN]; refine ⟨fun hlt => ⟨fun y' => y'.length = a.length /\ ∀ k, k < a.length -> vo y' k = if k < t + 1 then vo (adm p m v a x o) k else vo a k, ⟨⟨by omega, by omega⟩, fun hne => ⟨⟨by omega, by omega⟩, _, Jn1 K rfl, _, v_Add K rfl, ⟨by omega, by omega⟩, ?_⟩, fun he => ?_⟩, ?_⟩, fun hge => ?_⟩
 .rw [Qa]; refine ⟨by rw [List.length_set]; exact hy, fun k hk' => ?_⟩; rw [J5]; by_cases e : t = k
  .subst e; rw [if_pos ⟨rfl, by omega⟩, if_pos (by omega), ZI hk', if_neg hne, hk t hk', if_neg (by omega)]; rfl
  .rw [if_neg (fun h => e h.1), hk k hk']; by_cases hkt : k < t
   .rw [if_pos hkt, if_pos (by omega)]
   .rw [if_neg hkt, if_neg (by omega)]
 .have he' : vo o t = 0 := Classical.not_not.1 he; refine ⟨hy, fun k hk' => ?_⟩; rw [hk k hk']; by_cases e : k = t
  .subst e; rw [if_neg (by omega), if_pos (by omega), ZI hk', if_pos he']
  .by_cases hkt : k < t
   .rw [if_pos hkt, if_pos (by omega)]
   .rw [if_neg hkt, if_neg (by omega)]
 .rintro y' ⟨h1, h2⟩; exact ⟨Js (by omega) (by omega), ⟨t + 1, by push_cast; rfl, by omega, h1, h2⟩, by omega⟩
 .have : y = adm p m v a x o := YP (by rw [Jb3]; exact hy) fun i hi => by
   rw [hk i (by omega)]; by_cases hit : i < t
   .rw [if_pos hit]
   .rw [if_neg hit, ZI (by omega), if_pos (Jd7 (by omega))]
  rw [this]; exact h
theorem Jny {x : Int} {l : LI} {Q : LI -> Prop} (K : GFk F p m v g) (hl : l.length <= 1000) (h : Q (sc p m v x l)) : ZB F x l Q := Jwo K hl fun r h1 h2 => by
 have : r = sc p m v x l := YP (by rw [Jco]; exact h1) fun i hi => by rw [h2 i (by omega), Jf0 (by omega)]; rfl
 rw [this]; exact h
theorem Js6 {x : Int} {l : LI} {Q : LI -> Prop} (hF : FV P M mf p m v) (hl : l.length <= 1000) (h : Q (sc p m v x l)) : Jb8 P M mf x l Q := by
 refine ⟨⟨by omega, by omega, by omega⟩, fun y z => ∃ t : Nat, z = t /\ t <= l.length /\ y.length = l.length /\ ∀ k, k < t -> vo y k = vo (sc p m v x l) k, fun y z => (l.length - z).toNat, ⟨0, rfl, Nat.zero_le _, by simp, fun k h => by omega⟩, ?_⟩; rintro y _ ⟨t, rfl, ht, hy, hk⟩; dsimp only; rw [JN]; refine ⟨fun hlt => ⟨⟨by omega, by omega⟩, _, Jkw hF rfl, ⟨by omega, by omega⟩, Js (by omega) (by omega), ⟨t + 1, by push_cast; rfl, by omega, ?_, fun k hk' => ?_⟩, by omega⟩, fun hge => ?_⟩
 .rw [Qa, List.length_set]; exact hy
 .rw [Qa, J5]; by_cases e : t = k
  .subst e; rw [if_pos ⟨rfl, by omega⟩, Jf0 (by omega)]; rfl
  .rw [if_neg (fun h => e h.1)]; exact hk k (by omega)
 .rw [show y = sc p m v x l from YP (by rw [Jco]; exact hy) fun i hi => hk i (by omega)]; exact h
theorem Js9 {a u : LI} {x : Int} {Q : LI -> Prop} (hF : FV P M mf p m v) (hl : a.length <= u.length) (ha : a.length <= 1000000) (h : Q (adm p m v a x u)) : Jcc P M mf a x u Q := by
 refine ⟨⟨by omega, by omega, by omega⟩, fun y z => ∃ t : Nat, z = t /\ t <= a.length /\ y.length = a.length /\ ∀ k, k < t -> vo y k = vo (adm p m v a x u) k, fun y z => (a.length - z).toNat, ⟨0, rfl, Nat.zero_le _, by simp, fun k h => by omega⟩, ?_⟩; rintro y _ ⟨t, rfl, ht, hy, hk⟩; dsimp only; rw [JN, JN]; refine ⟨fun hlt => ⟨fun y' => y'.length = a.length /\ ∀ k, k < t + 1 -> vo y' k = vo (adm p m v a x u) k, ⟨⟨by omega, by omega⟩, ⟨by omega, by omega⟩, ⟨by omega, by omega⟩, fun hne => ⟨⟨by omega, by omega⟩, ⟨by omega, by omega⟩, _, Jkw hF rfl, _, v_rAdd hF rfl, ⟨by omega, by omega⟩, ?_⟩, fun he => ?_⟩, ?_⟩, fun hge => ?_⟩
 .rw [Qa, Qa]; refine ⟨by rw [List.length_set, List.length_set]; exact hy, fun k hk' => ?_⟩; rw [J5, List.length_set]; by_cases e : t = k
  .subst e; rw [if_pos ⟨rfl, by omega⟩, ZI (by omega), if_neg hne]; rfl
  .rw [if_neg (fun h => e h.1), J5, if_neg (fun h => e h.1)]; exact hk k (by omega)
 .have he' : vo u t = 0 := Classical.not_not.1 he; rw [Qa]; refine ⟨by rw [List.length_set]; exact hy, fun k hk' => ?_⟩; rw [J5]; by_cases e : t = k
  .subst e; rw [if_pos ⟨rfl, by omega⟩, ZI (by omega), if_pos he']
  .rw [if_neg (fun h => e h.1)]; exact hk k (by omega)
 .rintro y' ⟨h1, h2⟩; exact ⟨Js (by omega) (by omega), ⟨t + 1, by push_cast; rfl, by omega, h1, h2⟩, by omega⟩
 .rw [show y = adm p m v a x u from YP (by rw [Jb3]; exact hy) fun i hi => hk i (by omega)]; exact h
theorem Jwi {Q : LL -> Prop} (hX : X.length <= 1000000) (hr : ∀ r ∈ X, r.length <= 1000000) (h : Q X) : Jd1 X Q := by
 refine ⟨fun x z => ∃ t : Nat, z = t /\ t <= X.length /\ x = X.take t, fun x z => (X.length - z).toNat, ⟨0, rfl, Nat.zero_le _, rfl⟩, ?_⟩; rintro _ _ ⟨t, rfl, ht, rfl⟩; dsimp only; refine ⟨fun hlt => ?_, fun hge => by rw [List.take_of_length_le (by omega)]; exact h⟩; have h1 := hr _ (Z5 (t := t) (X := X) (by omega)); refine ⟨⟨by omega, by omega⟩, ?_, ?_, Js (by omega) (by omega), ⟨t + 1, by push_cast; rfl, by omega, ?_⟩, by omega⟩
 .show ((0 : Nat) + ((row X t).length : Nat) : Int) * 8 <= _; omega
 .rw [List.length_take]; omega
 .show X.take t ++ [[] ++ row X t] = _; rw [List.take_add_one, Zr (d := []) (by omega)]; rfl
end
end Go.Proofs.YtjgpkljepgcekaaGreat
namespace Go.Proofs.YtjgpkljepgcekaaGreat
structure Shp (n w wy : Nat) (S : ES) : Prop where
  xl : S.X.length = n
  xr : ∀ t, t < n -> (row S.X t).length = w
  yl : S.Y.length = n
  yr : ∀ t, t < n -> (row S.Y t).length = wy
  pl : S.pv.length <= n
section
variable {p m v n w wy : Nat}
theorem Jis {X : LL} {i j t w : Nat} (hi : i < X.length) (hj : j < X.length) (h : ∀ t, t < X.length -> (row X t).length = w) (ht : t < X.length) : (row (swp X i j) t).length = w := by
 rw [Zk hi hj]; split
 .exact h _ hi
 .split
  .exact h _ hj
  .exact h _ ht
def swq (X : LL) (r cur : Nat) : LL := if r = cur then X else swp X r cur
theorem Qe (X : LL) (r cur : Nat) : (swq X r cur).length = X.length := by
 unfold swq; split
 .rfl
 .exact Jdr ..
theorem Yn {X : LL} {i j t w : Nat} (hi : i < X.length) (hj : j < X.length) (h : ∀ t, t < X.length -> (row X t).length = w) (ht : t < X.length) : (row (swq X i j) t).length = w := by
 unfold swq; split
 .exact h _ ht
 .exact Jis hi hj h ht
def scq (p m v : Nat) (X : LL) (cur : Nat) (e : Int) : LL := X.set cur (sc p m v (Iv p m v e) (row X cur))
theorem Q1 (X : LL) (cur : Nat) (e : Int) : (scq p m v X cur e).length = X.length := by simp [scq]
theorem Yo {X : LL} {cur t w : Nat} {e : Int} (hc : cur < X.length) (h : ∀ t, t < X.length -> (row X t).length = w) (ht : t < X.length) : (row (scq p m v X cur e) t).length = w := by
 unfold scq; rw [Q2]; split
 .rw [Jco]; exact h _ hc
 .exact h _ ht
theorem Jdg {X : LL} {f : Nat -> Int} {cur t w : Nat} (h : ∀ t, t < X.length -> (row X t).length = w) (ht : t < X.length) : (row (clr p m v f cur X) t).length = w := by
 rw [Jbp ht]; split
 .exact h _ ht
 .rw [Jh0]; exact h _ ht
theorem Jdf (c r cur : Nat) (S : ES) : (es1 p m v c r cur S).X = clr p m v (fun t => Ng p m (vo (row (scq p m v (swq S.X r cur) cur (vo (row (swq S.X r cur) cur) c)) t) c)) cur (scq p m v (swq S.X r cur) cur (vo (row (swq S.X r cur) cur) c)) := rfl
theorem Jux (c r cur : Nat) (S : ES) : (es1 p m v c r cur S).Y = clr p m v (fun t => Ng p m (vo (row (scq p m v (swq S.X r cur) cur (vo (row (swq S.X r cur) cur) c)) t) c)) cur (scq p m v (swq S.Y r cur) cur (vo (row (swq S.X r cur) cur) c)) := rfl
theorem Jxm {c r cur : Nat} {S : ES} (h : Shp n w wy S) (hr : r < n) (hc : cur < n) (hp : S.pv.length < n) : Shp n w wy (es1 p m v c r cur S) := by
 have hx := h.xl; have hy := h.yl; have ax : ∀ t, t < S.X.length -> (row S.X t).length = w := fun t ht => h.xr t (by omega); have ay : ∀ t, t < S.Y.length -> (row S.Y t).length = wy := fun t ht => h.yr t (by omega); refine ⟨?_, fun t ht => ?_, ?_, fun t ht => ?_, ?_⟩
 .rw [Jdf, Zt, Q1, Qe]; exact hx
 .rw [Jdf]; refine Jdg (fun t ht => ?_) (by rw [Q1, Qe]; omega); rw [Q1, Qe] at ht; refine Yo (by rw [Qe]; omega) (fun t ht => ?_) (by rw [Qe]; omega); rw [Qe] at ht; exact Yn (by omega) (by omega) ax ht
 .rw [Jux, Zt, Q1, Qe]; exact hy
 .rw [Jux]; refine Jdg (fun t ht => ?_) (by rw [Q1, Qe]; omega); rw [Q1, Qe] at ht; refine Yo (by rw [Qe]; omega) (fun t ht => ?_) (by rw [Qe]; omega); rw [Qe] at ht; exact Yn (by omega) (by omega) ay ht
 .show (S.pv ++ [(c : Int)]).length <= n; rw [List.length_append]; simp; omega
theorem Jqk {c : Nat} {S : ES} (h : Shp n w wy S) : Shp n w wy (Yr p m v S c) := by
 unfold Yr; split
 .rename_i hc
  exact Jxm h (by have := h.xl; omega) (by have := h.xl; omega) (by have := h.xl; omega)
 .exact h
theorem QW (k : Nat) (S : ES) : elim p m v (k + 1) S = Yr p m v (elim p m v k S) k := by
 unfold elim; rw [List.range_succ, List.foldl_append]; rfl
theorem ZT {S : ES} (h : Shp n w wy S) : ∀ k, Shp n w wy (elim p m v k S)
 | 0 => h
 | k + 1 => by rw [QW]; exact Jqk (ZT h k)
theorem Jc1 {S : ES} {k : Nat} (h : ¬ (elim p m v k S).pv.length < (elim p m v k S).X.length) : ∀ j, elim p m v (k + j) S = elim p m v k S
 | 0 => rfl
 | j + 1 => by
  rw [<- Nat.add_assoc, QW, Jc1 h j]; unfold Yr; rw [if_neg (fun hc => h hc.1)]
end
section
variable {F : GFv} {p m v g : Nat} {P M : Int} {mf : LI} {X Y : LL}
theorem Jpj (R : CR (p ^ m) (Qx p m) (JF p m (dv p v))) {x : Int} {z : Nat} (hx : inE (p ^ m) x < p ^ m) (hz : z < p ^ m) (h : JF p m (dv p v) z (inE (p ^ m) x) = 1) : Iv p m v x = (z : Int) := by
 unfold Iv; cases hf : (List.range (p ^ m)).find? fun z => JF p m (dv p v) z (inE (p ^ m) x) == 1 with
 | none =>
  have := List.find?_eq_none.1 hf z (List.mem_range.2 hz); simp [h] at this
 | some y =>
  have h1 := List.find?_some hf; have h2 := List.mem_range.1 (List.mem_of_find?_eq_some hf); have h1' : JF p m (dv p v) y (inE (p ^ m) x) = 1 := by simpa using h1
  show (y : Int) = z; have e : y = z := by
   have q1 : 1 < p ^ m := R.q2
   calc y = JF p m (dv p v) y 1 := (R.M1 h2).symm
    _ = JF p m (dv p v) y (JF p m (dv p v) z (inE (p ^ m) x)) := by rw [h]
    _ = JF p m (dv p v) y (JF p m (dv p v) (inE (p ^ m) x) z) := by rw [R.Mc hz hx]
    _ = JF p m (dv p v) (JF p m (dv p v) y (inE (p ^ m) x)) z := (R.Ma h2 hx hz).symm
    _ = JF p m (dv p v) 1 z := by rw [h1']
    _ = JF p m (dv p v) z 1 := R.Mc q1 hz
    _ = z := R.M1 hz
  rw [e]
theorem Jye (R : CR (p ^ m) (Qx p m) (JF p m (dv p v))) {x : Int} (hx : inE (p ^ m) x = 0) : Iv p m v x = 0 := by
 unfold Iv; cases hf : (List.range (p ^ m)).find? fun z => JF p m (dv p v) z (inE (p ^ m) x) == 1 with
 | none => rfl
 | some y =>
  have h1 := List.find?_some hf; have h2 := List.mem_range.1 (List.mem_of_find?_eq_some hf); rw [hx, R.M0 h2] at h1; simp at h1
def prt (p m v : Nat) (f : Nat -> Int) (cur t : Nat) (X : LL) : LL := (List.range X.length).map fun s => if s < t /\ s ≠ cur then adx p m v (row X s) (f s) (row X cur) else row X s
theorem Q3 (f : Nat -> Int) (cur t : Nat) (X : LL) : (prt p m v f cur t X).length = X.length := by simp [prt]
theorem QI {f : Nat -> Int} {cur t s : Nat} (h : s < X.length) : row (prt p m v f cur t X) s = if s < t /\ s ≠ cur then adx p m v (row X s) (f s) (row X cur) else row X s := Job h
theorem Jen (f : Nat -> Int) (cur : Nat) : prt p m v f cur 0 X = X := QR (Q3 ..) fun i hi => by
 rw [Q3] at hi; rw [QI hi, if_neg (by omega)]
theorem Jgz (f : Nat -> Int) (cur : Nat) : prt p m v f cur X.length X = clr p m v f cur X := QR (by rw [Q3, Zt]) fun i hi => by
 rw [Q3] at hi; rw [QI hi, Jbp hi]; by_cases h : i = cur
 .rw [if_neg (fun hh => hh.2 h), if_pos h]
 .rw [if_pos ⟨hi, h⟩, if_neg h]
theorem prt_same {f : Nat -> Int} {cur : Nat} : prt p m v f cur (cur + 1) X = prt p m v f cur cur X := QR (by rw [Q3, Q3]) fun i hi => by
 rw [Q3] at hi; rw [QI hi, QI hi]; by_cases h : i = cur
 .rw [if_neg (fun hh => hh.2 h), if_neg (fun hh => hh.2 h)]
 .by_cases h1 : i < cur
  .rw [if_pos ⟨by omega, h⟩, if_pos ⟨h1, h⟩]
  .rw [if_neg (fun hh => h1 (by omega)), if_neg (fun hh => h1 hh.1)]
theorem Jbq {f : Nat -> Int} {cur t : Nat} (ht : t < X.length) (hc : t ≠ cur) : (prt p m v f cur t X).set t (adx p m v (row X t) (f t) (row X cur)) = prt p m v f cur (t + 1) X := QR (by rw [List.length_set, Q3, Q3]) fun i hi => by
 rw [List.length_set, Q3] at hi; rw [Q2, Q3, QI (t := t + 1) hi]; by_cases h : t = i
 .subst h; rw [if_pos ⟨rfl, ht⟩, if_pos ⟨by omega, hc⟩]
 .rw [if_neg (fun hh => h hh.1), QI hi]; by_cases h1 : i < t
  .by_cases h2 : i = cur
   .rw [if_neg (fun hh => hh.2 h2), if_neg (fun hh => hh.2 h2)]
   .rw [if_pos ⟨h1, h2⟩, if_pos ⟨by omega, h2⟩]
  .rw [if_neg (fun hh => h1 hh.1), if_neg (fun hh => h1 (by omega))]
theorem Jin {cols wy : Nat} {Q : LI × Int × LL × LL -> Prop} (K : GFk F p m v g) (hX : X.length <= 300) (hc : cols <= 300) (hw : wy <= 300) (hS : Shp X.length cols wy ⟨X, Y, [], 1⟩)
  (h : Q ((elim p m v cols ⟨X, Y, [], 1⟩).pv, (elim p m v cols ⟨X, Y, [], 1⟩).d, (elim p m v cols ⟨X, Y, [], 1⟩).X, (elim p m v cols ⟨X, Y, [], 1⟩).Y)) : Yw F cols X Y Q := by
 have hYl : Y.length = X.length := hS.yl; generalize hS0 : (⟨X, Y, [], 1⟩ : ES) = S0 at h hS; refine ⟨fun a b c d => (⟨a, b, c, d⟩ : ES) = elim p m v cols S0, ⟨fun a b c d z => ∃ k : Nat, z = k /\ k <= cols /\ (⟨a, b, c, d⟩ : ES) = elim p m v k S0, fun _ _ _ _ z => (cols - z).toNat, ⟨0, rfl, Nat.zero_le _, hS0⟩, ?_⟩, ?_⟩
 .rintro a b c d _ ⟨k, rfl, hk, he⟩; have hs := ZT (p := p) (m := m) (v := v) hS k; have hstop := Jc1 (p := p) (m := m) (v := v) (S := S0) (k := k); have hsucc := QW (p := p) (m := m) (v := v) k S0; rw [<- he] at hs hstop hsucc; have hal : a.length = X.length := hs.xl; have hbl : b.length = X.length := hs.yl; have har := hs.xr; have hbr := hs.yr; have hpl : c.length <= X.length := hs.pl; simp only at har hbr; refine ⟨fun hlt => ⟨fun hlc => ?_, fun hge => ?_⟩, fun hge => ?_⟩
  .have hcur : c.length < X.length := by omega
   have hkc : k < cols := by omega
   refine ⟨fun pv x y d' _ _ => (⟨x, y, pv, d'⟩ : ES) = elim p m v (k + 1) S0, Jwk (by omega) (by omega) (fun t ht => by rw [har t (by omega)]; exact hkc) ?_, ?_⟩
   .refine ⟨fun heq => ?_, fun hne => ?_⟩
    .rw [hsucc]; unfold Yr; rw [if_neg (fun hh => by have := hh.2; simp only at this; omega)]
    .have hnz := (Z8 a k c.length (by omega)).1; have hr : nz a k c.length < X.length := by omega
     generalize hrr : nz a k c.length = r at hr hne; rw [show Yr p m v ⟨a, b, c, d⟩ k = es1 p m v k r c.length ⟨a, b, c, d⟩ by unfold Yr; rw [if_pos ⟨by simp only; omega, by simp only; omega⟩, <- hrr]] at hsucc; refine ⟨fun x y d' => x = swq a r c.length /\ y = swq b r c.length /\ d' = (if r = c.length then d else Ng p m d), ⟨fun hrc => ⟨⟨by omega, by omega⟩, ⟨by omega, by omega⟩, ⟨by omega, by omega⟩, ⟨by omega, by omega⟩, ⟨by omega, by omega⟩, ⟨by omega, by omega⟩, ⟨by omega, by omega⟩, ⟨by omega, by omega⟩, Jtq K ?_⟩, fun hrc => ?_⟩, ?_⟩
     .have hrc' : r ≠ c.length := fun e => hrc (by rw [e]); refine ⟨?_, ?_, by rw [if_neg hrc']; rfl⟩
      .unfold swq; rw [if_neg hrc']; rfl
      .unfold swq; rw [if_neg hrc']; rfl
     .have hrc' : r = c.length := by have := Classical.not_not.1 hrc; omega
      refine ⟨?_, ?_, by rw [if_pos hrc']⟩
      .unfold swq; rw [if_pos hrc']
      .unfold swq; rw [if_pos hrc']
     .rintro _ _ _ ⟨rfl, rfl, rfl⟩; have hx1 : ∀ t, t < X.length -> (row (swq a r c.length) t).length = cols := fun t ht => Yn (by omega) (by omega) (fun t ht => har t (by omega)) (by omega); have hy1 : ∀ t, t < X.length -> (row (swq b r c.length) t).length = wy := fun t ht => Yn (by omega) (by omega) (fun t ht => hbr t (by omega)) (by omega); have hl1 := Qe a r c.length; have hl2 := Qe b r c.length; have hxs := Jdf (p := p) (m := m) (v := v) k r c.length ⟨a, b, c, d⟩; have hys := Jux (p := p) (m := m) (v := v) k r c.length ⟨a, b, c, d⟩; have hds : (es1 p m v k r c.length ⟨a, b, c, d⟩).d = Ml p m v (if r = c.length then d else Ng p m d) (vo (row (swq a r c.length) c.length) k) := rfl; have hps : (es1 p m v k r c.length ⟨a, b, c, d⟩).pv = c ++ [(k : Int)] := rfl; simp only at hxs hys; generalize swq a r c.length = x1 at *
      generalize swq b r c.length = y1 at *
      have he1 : gi (gl x1 (c.length : Nat)) (k : Int) = vo (row x1 c.length) k := rfl; refine ⟨⟨by omega, by omega⟩, ⟨by omega, ?_⟩, _, Jn1 K rfl, fun z => z = Iv p m v (vo (row x1 c.length) k), ⟨⟨by omega, by omega⟩, ⟨by omega, ?_⟩, Iv p m v (vo (row x1 c.length) k), ?_⟩, ?_⟩
      .show (k : Int) < ((row x1 c.length).length : Nat); rw [hx1 _ hcur]; omega
      .show (k : Int) < ((row x1 c.length).length : Nat); rw [hx1 _ hcur]; omega
      .by_cases h0 : inE (p ^ m) (vo (row x1 c.length) k) = 0
       .exact ⟨7, v_Inv K (fun _ => by rw [Jye K.fv.ring h0]) (fun z h1 => absurd h0 h1), rfl⟩
       .exact ⟨0, v_Inv K (fun h1 => absurd h1 h0) (fun z h1 h2 h3 => by have e := Jpj (x := vo (row x1 c.length) k) K.fv.ring (Qh (by have := K.fv.ring.q2; omega) _) h2 h3; rw [e]), rfl⟩
      .rintro _ rfl; have hsx : sll x1 (c.length : Int) (sc p m v (Iv p m v (vo (row x1 c.length) k)) (row x1 c.length)) = scq p m v x1 c.length (vo (row x1 c.length) k) := rfl; have hsy : sll y1 (c.length : Int) (sc p m v (Iv p m v (vo (row x1 c.length) k)) (row y1 c.length)) = scq p m v y1 c.length (vo (row x1 c.length) k) := rfl; refine ⟨⟨by omega, by omega⟩, _, Jny K (by show (row x1 c.length).length <= 1000; rw [hx1 _ hcur]; omega) rfl, ⟨by omega, by omega⟩, ⟨by omega, by omega⟩, _, Jny K (by show (row y1 c.length).length <= 1000; rw [hy1 _ hcur]; omega) rfl, ⟨by omega, by omega⟩, ?_⟩; have hx2 : ∀ t, t < X.length -> (row (scq p m v x1 c.length (vo (row x1 c.length) k)) t).length = cols := fun t ht => Yo (by omega) (fun t ht => hx1 t (by omega)) (by omega); have hy2 : ∀ t, t < X.length -> (row (scq p m v y1 c.length (vo (row x1 c.length) k)) t).length = wy := fun t ht => Yo (by omega) (fun t ht => hy1 t (by omega)) (by omega); have hl3 := Q1 (p := p) (m := m) (v := v) x1 c.length (vo (row x1 c.length) k); have hl4 := Q1 (p := p) (m := m) (v := v) y1 c.length (vo (row x1 c.length) k); generalize scq p m v x1 c.length (vo (row x1 c.length) k) = x2 at *
       generalize scq p m v y1 c.length (vo (row x1 c.length) k) = y2 at *
       have hfm : ∀ t, t < X.length -> vo (row (prt p m v (fun t => Ng p m (vo (row x2 t) k)) c.length t x2) t) k = vo (row x2 t) k := fun t ht => by
        rw [QI (by omega), if_neg (by omega)]
       generalize hf : (fun t => Ng p m (vo (row x2 t) k)) = f at *
       refine ⟨fun x y z => ∃ t : Nat, z = t /\ t <= X.length /\ x = prt p m v f c.length t x2 /\ y = prt p m v f c.length t y2, fun x y z => (X.length - z).toNat, ⟨0, rfl, Nat.zero_le _, hsx.trans (Jen _ _).symm, hsy.trans (Jen _ _).symm⟩, ?_⟩; rintro _ _ _ ⟨t, rfl, ht, rfl, rfl⟩; refine ⟨fun hlt2 => ?_, fun hge2 => ?_⟩
       .have htX : t < X.length := by omega
        have hg1 : gl (prt p m v f c.length t x2) (t : Int) = row x2 t := by
         show row (prt p m v f c.length t x2) t = _; rw [QI (by omega), if_neg (by omega)]
        have hg2 : gl (prt p m v f c.length t y2) (t : Int) = row y2 t := by
         show row (prt p m v f c.length t y2) t = _; rw [QI (by omega), if_neg (by omega)]
        have hg3 : gl (prt p m v f c.length t x2) (c.length : Int) = row x2 c.length := by
         show row (prt p m v f c.length t x2) c.length = _; rw [QI (by omega), if_neg (by omega)]
        have hg4 : gl (prt p m v f c.length t y2) (c.length : Int) = row y2 c.length := by
         show row (prt p m v f c.length t y2) c.length = _; rw [QI (by omega), if_neg (by omega)]
        rw [hg1, hg2, hg3, hg4]; have hft : Ng p m (gi (row x2 t) (k : Int)) = f t := by rw [<- hf]; rfl
        refine ⟨fun x y z => x = prt p m v f c.length (t + 1) x2 /\ y = prt p m v f c.length (t + 1) y2, ⟨⟨by omega, by omega⟩, ⟨by omega, by rw [hx2 t htX]; omega⟩, _, Jtq K rfl, fun hne2 => ?_, fun he2 => ?_⟩, ?_⟩
        .have hne3 : t ≠ c.length := fun e => hne2 (by rw [e]); have hne4 : (c.length : Int).toNat ≠ (t : Int).toNat := by omega
         refine ⟨⟨by omega, by omega⟩, ⟨by omega, by omega⟩, hne4, Jas K (by rw [hx2 t htX, hx2 _ hcur]; exact Nat.le_refl _) (by rw [hx2 t htX]; omega) ⟨⟨by omega, by omega⟩, ⟨by omega, by omega⟩, hne4, Jas K (by rw [hy2 t htX, hy2 _ hcur]; exact Nat.le_refl _) (by rw [hy2 t htX]; omega) ⟨?_, ?_⟩⟩⟩
         .show (prt p m v f c.length t x2).set t (adx p m v (row x2 t) (Ng p m (gi (row x2 t) (k : Int))) (row x2 c.length)) = _; rw [hft, Jbq (by omega) hne3]
         .show (prt p m v f c.length t y2).set t (adx p m v (row y2 t) (Ng p m (gi (row x2 t) (k : Int))) (row y2 c.length)) = _; rw [hft, Jbq (by omega) hne3]
        .have he3 : t = c.length := by have := Classical.not_not.1 he2; omega
         subst he3; exact ⟨prt_same.symm, prt_same.symm⟩
        .rintro _ _ _ ⟨rfl, rfl⟩; refine ⟨Js (by omega) (by omega), ⟨t + 1, by push_cast; rfl, by omega, rfl, rfl⟩, ?_⟩; show ((X.length : Int) - ((t : Int) + 1)).toNat < ((X.length : Int) - (t : Int)).toNat; omega
       .have hte : t = X.length := by omega
        subst hte; refine ⟨by omega, ?_⟩; have e1 := Jgz (p := p) (m := m) (v := v) (X := x2) f c.length; have e2 := Jgz (p := p) (m := m) (v := v) (X := y2) f c.length; rw [show x2.length = X.length by omega] at e1; rw [show y2.length = X.length by omega] at e2; rw [e1, e2, hsucc]; rw [<- hxs, <- hys]; show (⟨_, _, c ++ [(k : Int)], _⟩ : ES) = _; rw [<- hps]; show (⟨(es1 p m v k r c.length ⟨a, b, c, d⟩).X, (es1 p m v k r c.length ⟨a, b, c, d⟩).Y, (es1 p m v k r c.length ⟨a, b, c, d⟩).pv, Ml p m v (if r = c.length then d else Ng p m d) (vo (row x1 c.length) k)⟩ : ES) = _; rw [<- hds]
   .rintro pv x y d' _ _ hE; refine ⟨Js (by omega) (by omega), ⟨k + 1, by push_cast; rfl, by omega, hE⟩, ?_⟩; show ((cols : Int) - ((k : Int) + 1)).toNat < ((cols : Int) - (k : Int)).toNat; omega
  .have hst := hstop (by show ¬ c.length < a.length; omega) (cols - k); rw [show k + (cols - k) = cols by omega] at hst; exact hst.symm
  .show (⟨a, b, c, d⟩ : ES) = _; rw [he, show k = cols by omega]
 .rintro a b c d he; rw [<- he] at h; exact h
end
end Go.Proofs.YtjgpkljepgcekaaGreat
namespace Go.Proofs.YtjgpkljepgcekaaGreat
section
variable {p m v n w wy : Nat}
theorem Je4 {q : Nat} (h : q < p ^ m) : El p m (q : Int) := ⟨by omega, by omega⟩
theorem Jlz {l : LI} (h : Elr p m l) {t : Nat} (ht : t < l.length) : El p m (vo l t) := h _ (Jd6 ht)
theorem Qp {X : LL} (h : Els p m X) (t : Nat) : Elr p m (row X t) := by
 rcases Nat.lt_or_ge t X.length with ht | ht
 .exact h _ (Z5 ht)
 .rw [row_hi ht]; exact fun x hx => by cases hx
theorem Ja3 {X : LL} (h : ∀ t, t < X.length -> Elr p m (row X t)) : Els p m X := fun r hr => by
 obtain ⟨t, ht, rfl⟩ := Jbv hr; exact h t ht
theorem Juz {l : LI} (h : ∀ t, t < l.length -> El p m (vo l t)) : Elr p m l := fun x hx => by
 obtain ⟨t, ht, rfl⟩ := Jlm hx; exact h t ht
theorem Jt3 (hp : 0 < p) {x : Int} {l : LI} : Elr p m (sc p m v x l) := Juz fun t ht => by
 rw [Jco] at ht; rw [Jf0 ht]; exact Je4 (Jhq hp _ _)
theorem Jxt (hp : 0 < p) {a o : LI} {x : Int} (ha : Elr p m a) : Elr p m (adm p m v a x o) := Juz fun t ht => by
 rw [Jb3] at ht; rw [ZI ht]; split
 .exact Jlz ha ht
 .exact Je4 (Jos hp _ _)
theorem Jxs (hp : 0 < p) {a o : LI} {x : Int} (ha : Elr p m a) : Elr p m (adx p m v a x o) := by
 unfold adx; split
 .exact ha
 .exact Jxt hp ha
theorem Jhr (hp : 0 < p) {c r cur : Nat} {S : ES} (h : Els p m S.X) (hr : r < S.X.length) (hc : cur < S.X.length) : Els p m (es1 p m v c r cur S).X := by
 rw [Jdf]; have h1 : Els p m (swq S.X r cur) := Ja3 fun t ht => by
  rw [Qe] at ht; unfold swq; split
  .exact Qp h t
  .rw [Zk hr hc]; split
   .exact Qp h _
   .split <;> exact Qp h _
 have h2 : ∀ e, Els p m (scq p m v (swq S.X r cur) cur e) := fun e => Ja3 fun t ht => by
  unfold scq; rw [Q2]; split
  .exact Jt3 hp
  .exact Qp h1 t
 refine Ja3 fun t ht => ?_; rw [Zt] at ht; rw [Jbp ht]; split
 .exact Qp (h2 _) t
 .exact Jxs hp (Qp (h2 _) t)
theorem Jql (hp : 0 < p) {c : Nat} {S : ES} (h : Els p m S.X) : Els p m (Yr p m v S c).X := by
 unfold Yr; split
 .rename_i hc; exact Jhr hp h hc.2 hc.1
 .exact h
theorem Jbw (hp : 0 < p) {S : ES} (h : Els p m S.X) : ∀ k, Els p m (elim p m v k S).X
 | 0 => h
 | k + 1 => by rw [QW]; exact Jql hp (Jbw hp h k)
end
section
variable {F : GFv} {p m v g : Nat} {P M : Int} {mf : LI} {X Y : LL}
theorem Jhn {x : Int} (h : El p m x) : ((inE (p ^ m) x : Nat) : Int) = x := by
 unfold inE; rw [if_pos (show 0 <= x /\ x < ((p ^ m : Nat) : Int) from h)]; have := h.1; omega
theorem Jom (hF : FV P M mf p m v) {x : Int} (h : El p m x) : Ng p m x = 0 ↔ x = 0 := by
 have R := hF.ring; have hp := hF.p2; have hx := Qh (q := p ^ m) (by have := R.q2; omega) x; have h1 := Je2 (p := p) (m := m) (by omega) hx; constructor
 .intro h0; have h2 : ZR p m (inE (p ^ m) x) = 0 := Int.ofNat.inj h0; rw [h2, R.Az hx] at h1; rw [<- Jhn h, h1]; rfl
 .intro h0; have h3 : inE (p ^ m) x = 0 := by rw [h0]; unfold inE; split <;> rfl
  rw [h3] at h1; show ((ZR p m (inE (p ^ m) x) : Nat) : Int) = 0; rw [h3]; have h4 : ZR p m 0 < p ^ m := Jdv (by omega) 0; have h5 : Qx p m 0 (ZR p m 0) = ZR p m 0 := by rw [R.Ac, R.Az h4]
  rw [h5] at h1; rw [h1]; rfl
theorem ml_one (hF : FV P M mf p m v) {x : Int} (h : El p m x) : Ml p m v 1 x = x := by
 have R := hF.ring; have hq := R.q2; have hx := Qh (q := p ^ m) (by omega) x; unfold Ml; rw [show inE (p ^ m) (1 : Int) = 1 from QS (x := 1) (by omega), R.Mc (by omega) hx, R.M1 hx]; exact Jhn h
theorem Jum (hF : FV P M mf p m v) : Iv p m v 1 = 1 := by
 have R := hF.ring; have hq := R.q2; have e1 : inE (p ^ m) (1 : Int) = 1 := QS (x := 1) (by omega); exact Jpj R (z := 1) (by rw [e1]; omega) (by omega) (by rw [e1]; exact R.M1 (by omega))
theorem Jt2 (hF : FV P M mf p m v) {l : LI} (h : Elr p m l) : sc p m v 1 l = l := YP (Jco _ _) fun i hi => by
 rw [Jco] at hi; rw [Jf0 hi, ml_one hF (Jlz h hi)]
theorem w_rInv {x : Int} {Q : Int -> Prop} (hF : FV P M mf p m v) (h : Q (Iv p m v x)) : Jh7 P M mf x Q := by
 have hq := hF.q; have R := hF.ring; have hq2 := R.q2; have hxl := Qh (q := p ^ m) (by omega) x; refine ⟨fun z => ∃ n : Nat, z = n /\ 1 <= n /\ n <= p ^ m /\ ∀ k, k < n -> JF p m (dv p v) (inE (p ^ m) x) k ≠ 1, fun z => (((p ^ m : Nat) : Int) - z).toNat, ⟨1, rfl, Nat.le_refl 1, by omega, fun k hk => by
  rw [show k = 0 by omega, R.M0 hxl]; omega⟩, ?_⟩
 rintro _ ⟨n, rfl, hn1, hn, hk⟩; refine Jd9 ?_; rw [hF.ord]; dsimp only; refine ⟨fun hlt => Jkw hF ?_, fun hge => ?_⟩
 .have hnq : n < p ^ m := Int.ofNat_lt.1 hlt; rw [QS hnq]; refine ⟨fun he => ?_, fun hne => ⟨Js (by omega) (by omega), ⟨n + 1, by push_cast; rfl, by omega, by omega, fun k hk' => ?_⟩, by omega⟩⟩
  .have h1 : JF p m (dv p v) (inE (p ^ m) x) n = 1 := Int.ofNat.inj he; rw [<- Jpj R hxl hnq (by rw [R.Mc hnq hxl]; exact h1)]; exact h
  .rcases Nat.lt_or_ge k n with h | h
   .exact hk k h
   .rw [show k = n by omega]; exact fun e => hne (by rw [e]; rfl)
 .have e : Iv p m v x = 0 := by
   unfold Iv; cases hf : (List.range (p ^ m)).find? fun z => JF p m (dv p v) z (inE (p ^ m) x) == 1 with
   | none => rfl
   | some y =>
    have h1 := List.find?_some hf; have h2 := List.mem_range.1 (List.mem_of_find?_eq_some hf); have h1' : JF p m (dv p v) y (inE (p ^ m) x) = 1 := by simpa using h1
    exact absurd (by rw [R.Mc hxl h2]; exact h1') (hk y (by omega))
  rw [e] at h; exact h
theorem Jfk {cols W wy : Nat} {d0 : Int} {Q : LL × LI -> Prop} (hF : FV P M mf p m v) (hX : X.length <= 300) (hc : cols <= W) (hW : W <= 1000) (hS : Shp X.length W wy ⟨X, Y, [], d0⟩) (hE : Els p m X)
  (h : Q ((elim p m v cols ⟨X, Y, [], d0⟩).X, (elim p m v cols ⟨X, Y, [], d0⟩).pv)) : QM P M mf X cols Q := by
 have hp2 := hF.p2; have hE0 : ∀ k, Els p m (elim p m v k ⟨X, Y, [], d0⟩).X := Jbw (by omega) hE; have hXr : ∀ r ∈ X, r.length <= 1000000 := fun r hr => by
  obtain ⟨t, ht, rfl⟩ := Jbv hr; have := hS.xr t ht; simp only at this; omega
 refine Jwi (by omega) hXr ?_; generalize hS0 : (⟨X, Y, [], d0⟩ : ES) = S0 at h hS hE0; have hX0 : X = S0.X := by rw [<- hS0]
 have hP0 : ([] : LI) = S0.pv := by rw [<- hS0]
 refine ⟨fun a c => a = (elim p m v cols S0).X /\ c = (elim p m v cols S0).pv, ⟨fun a c z y => ∃ k : Nat, y = k /\ k <= cols /\ a = (elim p m v k S0).X /\ c = (elim p m v k S0).pv /\ z = ((elim p m v k S0).pv.length : Nat), fun _ _ _ y => (cols - y).toNat, ⟨0, rfl, Nat.zero_le _, hX0, hP0, by show (0 : Int) = ((S0.pv.length : Nat) : Int); rw [<- hP0]; rfl⟩, ?_⟩, ?_⟩
 .rintro _ _ _ _ ⟨k, rfl, hk, rfl, rfl, rfl⟩; have hs := ZT (p := p) (m := m) (v := v) hS k; have hstop := Jc1 (p := p) (m := m) (v := v) (S := S0) (k := k); have hsucc := QW (p := p) (m := m) (v := v) k S0; have hek := hE0 k; generalize hSk : elim p m v k S0 = S at *
  have hal := hs.xl; have har := hs.xr; have hpl := hs.pl; refine ⟨fun hlt => ⟨fun hlc => ?_, fun hge => ?_⟩, fun hge => ?_⟩
  .have hcur : S.pv.length < X.length := by omega
   have hkc : k < cols := by omega
   have hsp := Z8 S.X k S.pv.length (by omega); refine ⟨fun pv x z _ _ _ _ => x = (elim p m v (k + 1) S0).X /\ pv = (elim p m v (k + 1) S0).pv /\ z = ((elim p m v (k + 1) S0).pv.length : Nat), ⟨fun r _ _ => r = ((nz S.X k S.pv.length : Nat) : Int), ⟨fun z _ => ∃ t : Nat, z = t /\ S.pv.length <= t /\ t <= X.length /\ ∀ s, S.pv.length <= s -> s < t -> vo (row S.X s) k = 0, fun z _ => (X.length - z).toNat, ⟨_, rfl, Nat.le_refl _, by omega, fun s h1 h2 => by omega⟩, ?_⟩, ?_⟩, ?_⟩
   .rintro _ _ ⟨t, rfl, h1, h2, h3⟩; dsimp only; refine ⟨fun hlt2 => ⟨⟨by omega, by omega⟩, ⟨by omega, by show (k : Int) < ((row S.X t).length : Nat); rw [har t (by omega)]; omega⟩, fun he => ⟨Js (by omega) (by omega), ⟨t + 1, by push_cast; rfl, by omega, by omega, fun s hs1 hs2 => ?_⟩, by omega⟩, fun hne => ?_⟩, fun hge2 => ?_⟩
    .rcases Nat.lt_or_ge s t with h | h
     .exact h3 s hs1 h
     .rw [show s = t by omega]; exact he
    .exact congrArg _ (Jjj h1 (by omega) h3 fun _ => hne)
    .exact congrArg _ (Jjj h1 (by omega) h3 fun h => by omega)
   .rintro _ _ _ rfl; refine ⟨fun heq => ?_, fun hne => ?_⟩
    .have e : elim p m v (k + 1) S0 = S := by
      rw [hsucc]; unfold Yr; rw [if_neg (fun hh => by have := hh.2; omega)]
     rw [e]; exact ⟨rfl, rfl, rfl⟩
    .have hr : nz S.X k S.pv.length < X.length := by have := hsp.1; omega
     have hge := Jol S.X k S.pv.length; generalize hrr : nz S.X k S.pv.length = r at hr hge hsp; rw [show Yr p m v S k = es1 p m v k r S.pv.length S by unfold Yr; rw [if_pos ⟨by omega, by omega⟩, <- hrr]] at hsucc; have hsw : sll (sll S.X ((S.pv.length : Nat) : Int) (gl S.X (r : Int))) (r : Int) (gl S.X ((S.pv.length : Nat) : Int)) = swq S.X r S.pv.length := by
      show swp S.X S.pv.length r = _; unfold swq; split
      .rename_i e; rw [e]; exact Jtw (by omega)
      .exact Jtx (by omega) (by omega)
     refine ⟨True, ⟨⟨by omega, by omega⟩, ⟨by omega, by omega⟩, ⟨by omega, by omega⟩, ⟨by omega, by omega⟩, trivial⟩, fun _ => ?_⟩; rw [hsw]; have hx1 : ∀ t, t < X.length -> (row (swq S.X r S.pv.length) t).length = W := fun t ht => Yn (by omega) (by omega) (fun t ht => har t (by omega)) (by omega); have hl1 := Qe S.X r S.pv.length; have hes : Els p m (es1 p m v k r S.pv.length S).X := Jhr (by omega) hek (by omega) (by omega); have hxs := Jdf (p := p) (m := m) (v := v) k r S.pv.length S; have hps : (es1 p m v k r S.pv.length S).pv = S.pv ++ [(k : Int)] := rfl; have hel1 : Els p m (swq S.X r S.pv.length) := Ja3 fun t ht => by
      rw [Qe] at ht; unfold swq; split
      .exact Qp hek t
      .rw [Zk (by omega) (by omega)]; split
       .exact Qp hek _
       .split <;> exact Qp hek _
     generalize swq S.X r S.pv.length = x1 at *
     refine ⟨⟨by omega, by omega⟩, ⟨by omega, by show (k : Int) < ((row x1 S.pv.length).length : Nat); rw [hx1 _ hcur]; omega⟩, fun x => x = scq p m v x1 S.pv.length (vo (row x1 S.pv.length) k), ⟨fun hne1 => ⟨⟨by omega, by omega⟩, ⟨by omega, by show (k : Int) < ((row x1 S.pv.length).length : Nat); rw [hx1 _ hcur]; omega⟩, _, w_rInv hF rfl, ⟨by omega, by omega⟩, _, Js6 hF (by show (row x1 S.pv.length).length <= 1000; rw [hx1 _ hcur]; omega) rfl, ⟨by omega, by omega⟩, rfl⟩, fun he1 => ?_⟩, ?_⟩
     .have he2 : vo (row x1 S.pv.length) k = 1 := Classical.not_not.1 he1; unfold scq; rw [he2, Jum hF, Jt2 hF (Qp hel1 _)]; refine (QR (by rw [List.length_set]) fun i hi => ?_).symm; rw [Q2]; split
      .rename_i h; rw [h.1]
      .rfl
     .rintro _ rfl; have hx2 : ∀ t, t < X.length -> (row (scq p m v x1 S.pv.length (vo (row x1 S.pv.length) k)) t).length = W := fun t ht => Yo (by omega) (fun t ht => hx1 t (by omega)) (by omega); have hl3 := Q1 (p := p) (m := m) (v := v) x1 S.pv.length (vo (row x1 S.pv.length) k); have hel2 : Els p m (scq p m v x1 S.pv.length (vo (row x1 S.pv.length) k)) := Ja3 fun t ht => by
       unfold scq; rw [Q2]; split
       .exact Jt3 (by omega)
       .exact Qp hel1 t
      generalize scq p m v x1 S.pv.length (vo (row x1 S.pv.length) k) = x2 at *
      generalize hf : (fun t => Ng p m (vo (row x2 t) k)) = f at *
      refine ⟨fun x z => ∃ t : Nat, z = t /\ t <= X.length /\ x = prt p m v f S.pv.length t x2, fun x z => (X.length - z).toNat, ⟨0, rfl, Nat.zero_le _, (Jen _ _).symm⟩, ?_⟩; rintro _ _ ⟨t, rfl, ht, rfl⟩; refine ⟨fun hlt2 => ?_, fun hge2 => ?_⟩
      .have htX : t < X.length := by omega
       have hg1 : gl (prt p m v f S.pv.length t x2) (t : Int) = row x2 t := by
        show row (prt p m v f S.pv.length t x2) t = _; rw [QI (by omega), if_neg (by omega)]
       have hg3 : gl (prt p m v f S.pv.length t x2) ((S.pv.length : Nat) : Int) = row x2 S.pv.length := by
        show row (prt p m v f S.pv.length t x2) S.pv.length = _; rw [QI (by omega), if_neg (by omega)]
       rw [hg1, hg3]; have hft : Ng p m (gi (row x2 t) (k : Int)) = f t := by rw [<- hf]; rfl
       have hent : El p m (vo (row x2 t) k) := Jlz (Qp hel2 t) (by rw [hx2 t htX]; omega); have hz := Jom hF hent; refine ⟨fun x _ => x = prt p m v f S.pv.length (t + 1) x2, ⟨fun hne2 => ?_, fun he2 => ?_⟩, ?_⟩
       .have hne3 : t ≠ S.pv.length := fun e => hne2 (by rw [e]); refine ⟨⟨by omega, by omega⟩, ⟨by omega, by rw [hx2 t htX]; omega⟩, fun hnz => ?_, fun hnz => ?_⟩
        .refine ⟨⟨by omega, by omega⟩, ⟨by omega, by omega⟩, ⟨by omega, by rw [hx2 t htX]; omega⟩, _, Jtn hF rfl, ⟨by omega, by omega⟩, _, Js9 hF (by rw [hx2 t htX, hx2 _ hcur]; exact Nat.le_refl _) (by rw [hx2 t htX]; omega) rfl, ⟨by omega, by omega⟩, ?_⟩; rw [<- Jbq (by omega) hne3, <- hft]; show _ = (prt p m v f S.pv.length t x2).set t (adx p m v (row x2 t) (Ng p m (vo (row x2 t) k)) (row x2 S.pv.length)); unfold adx; rw [if_neg (fun h0 => hnz (hz.1 h0))]; rfl
        .have hnz' : vo (row x2 t) k = 0 := Classical.not_not.1 hnz; rw [<- Jbq (by omega) hne3, <- hft]; show prt p m v f S.pv.length t x2 = (prt p m v f S.pv.length t x2).set t (adx p m v (row x2 t) (Ng p m (vo (row x2 t) k)) (row x2 S.pv.length)); unfold adx; rw [if_pos (hz.2 hnz')]; refine QR (by rw [List.length_set]) fun i hi => ?_; rw [Q2]; split
         .rename_i hh; rw [<- hh.1]; exact hg1
         .rfl
       .have he3 : t = S.pv.length := by have := Classical.not_not.1 he2; omega
        subst he3; exact prt_same.symm
       .rintro _ _ rfl; refine ⟨Js (by omega) (by omega), ⟨t + 1, by push_cast; rfl, by omega, rfl⟩, ?_⟩; show ((X.length : Int) - ((t : Int) + 1)).toNat < ((X.length : Int) - (t : Int)).toNat; omega
      .have hte : t = X.length := by omega
       subst hte; have e1 := Jgz (p := p) (m := m) (v := v) (X := x2) f S.pv.length; rw [show x2.length = X.length by omega] at e1; refine ⟨by omega, Js (by omega) (by omega), ?_⟩; rw [hsucc, e1, hxs, hps]; exact ⟨rfl, rfl, by rw [List.length_append]; simp⟩
   .rintro _ _ _ _ _ _ _ ⟨rfl, rfl, rfl⟩; refine ⟨Js (by omega) (by omega), ⟨k + 1, by push_cast; rfl, by omega, rfl, rfl, rfl⟩, ?_⟩; show ((cols : Int) - ((k : Int) + 1)).toNat < ((cols : Int) - (k : Int)).toNat; omega
  .have hst := hstop (by omega) (cols - k); rw [show k + (cols - k) = cols by omega] at hst; rw [hst]; exact ⟨rfl, rfl⟩
  .have hkc : k = cols := by omega
   subst hkc; exact ⟨by rw [hSk], by rw [hSk]⟩
 .rintro _ _ ⟨rfl, rfl⟩; exact h
theorem Jgo {cols wy : Nat} {d0 : Int} {Q : LL × LI -> Prop} (hF : FV P M mf p m v) (hX : X.length <= 300) (hc : cols <= 300) (hS : Shp X.length cols wy ⟨X, Y, [], d0⟩) (hE : Els p m X)
 (h : Q ((elim p m v cols ⟨X, Y, [], d0⟩).X, (elim p m v cols ⟨X, Y, [], d0⟩).pv)) : QM P M mf X cols Q := Jfk hF hX (Nat.le_refl _) (by omega) hS hE h
end
end Go.Proofs.YtjgpkljepgcekaaGreat
