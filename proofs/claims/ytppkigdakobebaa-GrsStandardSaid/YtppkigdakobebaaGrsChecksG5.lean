/- Contracts of functions of the program, and what they lean on: V2, V3, V4, V5, V6, Pa, Pb, P1, P2, P3, P4, P5, P6, So2, Srt, D20, D25. -/
import Derived.Test.YtppkigdakobebaaGrsChecksG4
import Derived.Shelf.Sort.Plain
import Derived.Shelf.Slices.In.SortNone
import Derived.Shelf.Slices.CompactI
import Derived.Sort.OwnSortedInts
set_option linter.unusedVariables false
set_option linter.unusedSimpArgs false
namespace Go.Proofs.Ytppkigdakobebaa
theorem ZS {l : LI} {f : Int -> Bool} : l.any f = true ↔ ∃ i, i < l.length /\ f (vo l i) = true := by
  rw [List.any_eq_true]
  constructor
  . rintro ⟨x, hx, hf⟩
    obtain ⟨i, hi, rfl⟩ := List.mem_iff_getElem.1 hx
    refine ⟨i, hi, ?_⟩
    unfold vo; rw [List.getD_eq_getElem?_getD, List.getElem?_eq_getElem hi]; exact hf
  . rintro ⟨i, hi, hf⟩
    unfold vo at hf
    rw [List.getD_eq_getElem?_getD, List.getElem?_eq_getElem hi] at hf
    exact ⟨l[i], List.getElem_mem hi, hf⟩
theorem Z7 {l : LI} {p : Int -> (Bool -> Prop) -> Prop} {f : Int -> Bool} {Q : Bool -> Prop} (hl : l.length <= 1000000000) (hp : ∀ x (R : Bool -> Prop), R (f x) -> p x R) (h : Q (l.any f)) : Q5 l p Q := by
 refine ⟨fun z => ∃ k : Nat, z = k /\ k <= l.length /\ ∀ j, j < k -> f (vo l j) = false, fun z => (l.length - z).toNat, ⟨0, rfl, Nat.zero_le _, fun j hj => by omega⟩, ?_⟩; rintro _ ⟨k, rfl, hk, hv⟩; dsimp only; refine ⟨fun hlt => ⟨⟨by omega, by omega⟩, hp _ _ ⟨fun hb => ?_, fun hb => ⟨Jw (by omega) (by omega), ⟨k + 1, by push_cast; rfl, by omega, fun j hj => ?_⟩, by omega⟩⟩⟩, fun hge => ?_⟩
 .rw [ZS.2 ⟨k, by omega, hb⟩] at h; rw [decide_eq_true (by omega)]; exact h
 .rw [JG] at hb; by_cases hjk : j = k
  .subst hjk; exact hb
  .exact hv j (by omega)
 .have : l.any f = false := by
   cases hb : l.any f with
   | false => rfl
   | true =>
    obtain ⟨i, hi, hf⟩ := ZS.1 hb; rw [hv i (by omega)] at hf; cases hf
  rw [this] at h; exact h
theorem Jf3 {p : Nat} {a l c : Int} (hp : 0 < p) (ha : 0 <= a) (hl : l <= p) (hc : 0 <= c) : (a + ((p : Int) - l) * c).tmod p = (a - l * c) % (p : Int) := by
 have h1 : 0 <= ((p : Int) - l) * c := Int.mul_nonneg (by omega) hc; rw [Int.tmod_eq_emod_of_nonneg (by omega)]; have : a + ((p : Int) - l) * c = (a - l * c) + p * c := by rw [Int.sub_mul]; omega
 rw [this, Int.add_mul_emod_self_left]
theorem Jjy {p d n : Nat} {l R : Vec} (hp : 0 < p) {N : Nat} (hR : Cn p N R) : ∀ k, Cn p N (rem p d l R n k)
 | 0 => hR
 | k + 1 => fun j hj => by
  show 0 <= rst _ _ _ _ _ j /\ rst _ _ _ _ _ j < _; unfold rst; split
  .exact ⟨Int.emod_nonneg _ (by omega), Int.emod_lt_of_pos _ (by omega)⟩
  .exact Jjy hp hR k j hj
theorem Zx {a b : Int} {p : Nat} (hp : p <= 256) (ha : 0 <= a /\ a <= p) (hb : 0 <= b /\ b <= p) : 0 <= a * b /\ a * b <= 65536 := by
 obtain ⟨x, rfl⟩ := Int.eq_ofNat_of_zero_le ha.1; obtain ⟨y, rfl⟩ := Int.eq_ofNat_of_zero_le hb.1; have : x * y <= 256 * 256 := Nat.mul_le_mul (by omega) (by omega); have e : ((x : Int)) * (y : Int) = ((x * y : Nat) : Int) := by push_cast; rfl
 rw [e]; omega
theorem Jf0 {l : LI} {n i : Nat} (h : i < n) : vo (l.take n) i = vo l i := by
 unfold vo; rw [List.getD_eq_getElem?_getD, List.getD_eq_getElem?_getD, List.getElem?_take, if_pos h]
theorem Je9 {p : Nat} {l o : LI} {Q : Bool -> Prop} (hp : 0 < p) (hp2 : p <= 256) (hl : Cn p l.length (vo l)) (ho : Cn p o.length (vo o)) (hd : 0 < l.length) (hdn : l.length <= o.length) (hn : o.length <= 1000)
  (h : ∀ b : Bool, (b = true ↔ Dvd p l.length (vo l) (vo o) o.length) -> Q b) : Y2 p l o Q := by
 refine Y8 (by omega) ⟨Jw (by omega) (by omega), ?_⟩; generalize hdd : l.length = d at *
 generalize hnn : o.length = n at *
 refine ⟨fun x z => ∃ k : Nat, z = (n : Int) - 1 - k /\ k <= n - d /\ x.length = n /\ ∀ j, j < n -> vo x j = rem p d (vo l) (vo o) n k j, fun x z => (z + 1).toNat, ⟨0, by omega, by omega, hnn, fun j _ => rfl⟩, ?_⟩; rintro x _ ⟨k, rfl, hk, hx, hv⟩; dsimp only; have hc := Jjy (d := d) (l := vo l) (n := n) hp ho k; refine ⟨fun hle => ?_, fun hgt => ?_⟩
 .obtain ⟨i, hi⟩ : ∃ i : Nat, (n : Int) - 1 - k = i := ⟨n - 1 - k, by omega⟩
  rw [hi]; have hin : i = n - 1 - k := by omega
  refine ⟨fun y z => ∃ t : Nat, z = t /\ t <= d /\ y.length = n /\ ∀ j, j < n -> vo y j = if i <= j + d /\ j + d < i + t then rem p d (vo l) (vo o) n (k + 1) j else rem p d (vo l) (vo o) n k j, fun y z => (d - z).toNat, ⟨0, rfl, Nat.zero_le _, hx, fun j hj => by rw [if_neg (by omega)]; exact hv j hj⟩, ?_⟩; rintro y _ ⟨t, rfl, ht, hy, hw⟩; dsimp only; have e1 : (i : Int) - (d : Int) + (t : Int) = ((i - d + t : Nat) : Int) := by omega
  rw [e1, JG, JG, JG, Qi]; have hyi : vo y i = rem p d (vo l) (vo o) n k i := by rw [hw i (by omega), if_neg (by omega)]
  refine ⟨fun hlt => ?_, fun hge => ?_⟩
  .have hyj : vo y (i - d + t) = rem p d (vo l) (vo o) n k (i - d + t) := by rw [hw _ (by omega), if_neg (by omega)]
   have c1 := hl t (by omega); have c2 := hc i (by omega); have c3 := hc (i - d + t) (by omega); rw [hyi, hyj]; have c4 := Zx (a := (p : Int) - vo l t) (b := rem p d (vo l) (vo o) n k i) hp2 ⟨by omega, by omega⟩ ⟨c2.1, by omega⟩; refine ⟨⟨by omega, by omega⟩, Jw (by omega) (by omega), Jw (by omega) (by omega), ⟨by omega, by omega⟩, Jw (by omega) (by omega), ⟨by omega, by omega⟩, Jw (by omega) (by omega), Jw (by omega) (by omega), by omega, ⟨by omega, by omega⟩, Jw (by omega) (by omega), ⟨t + 1, by push_cast; rfl, by omega, by rw [List.length_set, hy], fun j hj => ?_⟩, by omega⟩; rw [Qa]; by_cases hjt : i - d + t = j
   .subst hjt; rw [if_pos ⟨rfl, by omega⟩, if_pos (by omega), Jf3 hp c3.1 (by omega) c2.1]; show _ = rst p d (n - 1 - k) (vo l) (rem p d (vo l) (vo o) n k) (i - d + t); unfold rst; rw [<- hin, if_pos (by omega), show i - d + t + d - i = t by omega]
   .rw [if_neg (fun h => hjt h.1), hw j hj]; by_cases hc2 : i <= j + d /\ j + d < i + t
    .rw [if_pos hc2, if_pos (by omega)]
    .rw [if_neg hc2, if_neg (by omega)]
  .refine ⟨Jw (by omega) (by omega), ⟨k + 1, by omega, by omega, hy, fun j hj => ?_⟩, by omega⟩; rw [hw j hj]; have htd : t = d := by omega
   by_cases hc2 : i <= j + d /\ j + d < i + t
   .rw [if_pos hc2]
   .rw [if_neg hc2]; show _ = rst p d (n - 1 - k) (vo l) (rem p d (vo l) (vo o) n k) j; unfold rst; rw [<- hin, if_neg (by omega)]
 .refine ⟨⟨by omega, by omega⟩, Z7 (f := fun x => decide (x ≠ 0)) (by rw [List.length_take]; omega) (fun x R hR => hR) (h _ ?_)⟩; have hkk : k = n - d := by omega
  have hlen : (x.take (d : Int).toNat).length = d := by rw [List.length_take]; omega
  rw [Bool.not_eq_true']; constructor
  .intro hb j hj; have h2 : ¬ (x.take (d : Int).toNat).any (fun x => decide (x ≠ 0)) = true := by rw [hb]; decide
   rw [ZS] at h2; have h3 : decide (vo (x.take (d : Int).toNat) j ≠ 0) = false := by
    cases hc3 : decide (vo (x.take (d : Int).toNat) j ≠ 0) with
    | false => rfl
    | true => exact absurd ⟨j, by omega, hc3⟩ h2
   rw [Jf0 (by simpa using hj), hv j (by omega), hkk] at h3; have h4 := of_decide_eq_false h3; omega
  .intro hD; cases hb : (x.take (d : Int).toNat).any (fun x => decide (x ≠ 0)) with
   | false => rfl
   | true =>
    obtain ⟨i, hi, hf⟩ := ZS.1 hb; rw [Jf0 (by simpa using (by omega : i < d)), hv i (by omega), hkk, hD i (by omega)] at hf; exact absurd hf (by decide)
theorem Jc1 (o : LI) : vo (o ++ [(1 : Int)]) = fun i => if i = o.length then 1 else vo o i := by
 funext i; unfold vo; rw [List.getD_eq_getElem?_getD, List.getD_eq_getElem?_getD]; rcases Nat.lt_trichotomy i o.length with h | h | h
 .rw [List.getElem?_append_left h, if_neg (by omega)]
 .subst h; simp
 .rw [if_neg (by omega), List.getElem?_eq_none (by simp; omega), List.getElem?_eq_none (by omega)]
theorem Jlu {p : Nat} {o : LI} (hp : 2 <= p) (ho : Cn p o.length (vo o)) : Cn p (o.length + 1) (vo (o ++ [(1 : Int)])) := fun i hi => by
 rw [Jc1]; dsimp only; split
 .omega
 .exact ho i (by omega)
theorem Jjn {p : Nat} {l o : LI} {Q : Bool -> Prop} (hp : 2 <= p) (hp2 : p <= 256) (hl : Cn p l.length (vo l)) (ho : Cn p o.length (vo o)) (hd : 0 < l.length) (hdn : l.length <= o.length) (hn : o.length <= 1000)
  (h : ∀ b : Bool, (b = true ↔ Dvd p l.length (vo l) (fun i => if i = o.length then 1 else vo o i) (o.length + 1)) -> Q b) : Yz l o p Q := by
 unfold Yz; simp only [List.nil_append]; rw [<- Jc1] at h; have hcR := Jlu hp ho; have hnn : (o ++ [(1 : Int)]).length = o.length + 1 := by simp
 refine ⟨by omega, by omega, Jw (by omega) (by omega), ?_⟩; generalize hdd : l.length = d at *
 generalize hN : o.length + 1 = n at *
 generalize hoo : o ++ [(1 : Int)] = r at *
 refine ⟨fun x z => ∃ k : Nat, z = (n : Int) - 1 - k /\ k <= n - d /\ x.length = n /\ ∀ j, j < n -> vo x j = if j + k < n then rem p d (vo l) (vo r) n k j else 0, fun x z => (z + 1).toNat, ⟨0, by omega, by omega, hnn, fun j hj => by rw [if_pos (by omega)]; rfl⟩, ?_⟩; rintro x _ ⟨k, rfl, hk, hx, hv⟩; dsimp only; have hc := Jjy (d := d) (l := vo l) (n := n) (p := p) (by omega) hcR k; refine ⟨fun hle => ⟨⟨by omega, by omega⟩, ?_⟩, fun hgt => ?_⟩
 .obtain ⟨i, hi⟩ : ∃ i : Nat, (n : Int) - 1 - k = i := ⟨n - 1 - k, by omega⟩
  rw [hi]; have hin : i = n - 1 - k := by omega
  have hxi : vo x i = rem p d (vo l) (vo r) n k i := by rw [hv i (by omega), if_pos (by omega)]
  refine ⟨fun y z => ∃ t : Nat, z = t /\ t <= d /\ y.length = n /\ ∀ j, j < n -> vo y j = if i <= j + d /\ j + d < i + t then rem p d (vo l) (vo r) n (k + 1) j else vo x j, fun y z => (d - z).toNat, ⟨0, rfl, Nat.zero_le _, hx, fun j hj => by rw [if_neg (by omega)]⟩, ?_⟩; rintro y _ ⟨t, rfl, ht, hy, hw⟩; dsimp only; have e1 : (i : Int) - (d : Int) + (t : Int) = ((i - d + t : Nat) : Int) := by omega
  rw [e1, JG, JG, JG, Qi, Qi]; refine ⟨fun hlt => ?_, fun hge => ?_⟩
  .have hyj : vo y (i - d + t) = rem p d (vo l) (vo r) n k (i - d + t) := by rw [hw _ (by omega), if_neg (by omega), hv _ (by omega), if_pos (by omega)]
   have c1 := hl t (by omega); have c2 := hc i (by omega); have c3 := hc (i - d + t) (by omega); rw [hxi, hyj]; have c4 := Zx (a := (p : Int) - rem p d (vo l) (vo r) n k i) (b := vo l t) hp2 ⟨by omega, by omega⟩ ⟨c1.1, by omega⟩; refine ⟨Jw (by omega) (by omega), Jw (by omega) (by omega), Jw (by omega) (by omega), Jw (by omega) (by omega), ⟨by omega, by omega⟩, Jw (by omega) (by omega), ⟨by omega, by omega⟩, Jw (by omega) (by omega), Jw (by omega) (by omega), by omega, ⟨by omega, by omega⟩, Jw (by omega) (by omega), ⟨t + 1, by push_cast; rfl, by omega, by rw [List.length_set, hy], fun j hj => ?_⟩, by omega⟩; rw [Qa]; by_cases hjt : i - d + t = j
   .subst hjt; rw [if_pos ⟨rfl, by omega⟩, if_pos (by omega), Jf3 (by omega) c3.1 (by omega) c1.1]; show _ = rst p d (n - 1 - k) (vo l) (rem p d (vo l) (vo r) n k) (i - d + t); unfold rst; rw [<- hin, if_pos (by omega), show i - d + t + d - i = t by omega, Int.mul_comm]
   .rw [if_neg (fun h => hjt h.1), hw j hj]; by_cases hc2 : i <= j + d /\ j + d < i + t
    .rw [if_pos hc2, if_pos (by omega)]
    .rw [if_neg hc2, if_neg (by omega)]
  .refine ⟨⟨by omega, by omega⟩, Jw (by omega) (by omega), ⟨k + 1, by omega, by omega, by rw [List.length_set, hy], fun j hj => ?_⟩, by omega⟩; rw [Qa]; by_cases hij : i = j
   .subst hij; rw [if_pos ⟨rfl, by omega⟩, if_neg (by omega)]
   .rw [if_neg (fun h => hij h.1), hw j hj]; have htd : t = d := by omega
    by_cases hc2 : i <= j + d /\ j + d < i + t
    .rw [if_pos hc2, if_pos (by omega)]
    .rw [if_neg hc2, hv j hj]; by_cases hjk : j + k < n
     .rw [if_pos hjk, if_pos (by omega)]; show _ = rst p d (n - 1 - k) (vo l) (rem p d (vo l) (vo r) n k) j; unfold rst; rw [<- hin, if_neg (by omega)]
     .rw [if_neg hjk, if_neg (by omega)]
 .have hkk : k = n - d := by omega
  refine ⟨fun z => ∃ t : Nat, z = t /\ t <= n /\ ∀ j, j < t -> vo x j = 0, fun z => (n - z).toNat, ⟨0, rfl, Nat.zero_le _, fun j hj => by omega⟩, ?_⟩; rintro _ ⟨t, rfl, ht, hz⟩; dsimp only; rw [JG]; refine ⟨fun hlt => ⟨⟨by omega, by omega⟩, fun hne => ?_, fun heq => ⟨Jw (by omega) (by omega), ⟨t + 1, by push_cast; rfl, by omega, fun j hj => ?_⟩, by omega⟩⟩, fun hge => ?_⟩
  .refine h false ⟨fun h' => absurd h' (by decide), fun hD => ?_⟩; rw [hv t (by omega)] at hne; by_cases hc2 : t + k < n
   .rw [if_pos hc2, hkk, hD t (by omega)] at hne; exact absurd rfl hne
   .rw [if_neg hc2] at hne; exact absurd rfl hne
  .by_cases hjt : j = t
   .subst hjt; omega
   .exact hz j (by omega)
  .refine h true ⟨fun _ j hj => ?_, fun _ => rfl⟩; have h1 := hz j (by omega); rw [hv j (by omega), if_pos (by omega), hkk] at h1; exact h1
theorem YR {p d w : Nat} (hw : w < p ^ d) : vo (dgi p d w) = dv p w := by
 funext i; rcases Nat.lt_or_ge i d with h | h
 .exact QM h
 .rw [Jhh (by rw [JZ]; exact h), Jqp hw h]
theorem Jb2 {p d w : Nat} (hp : 0 < p) (hw : w < p ^ d) (n : Nat) : Cn p n (vo (dgi p d w)) := by rw [YR hw]; exact Jfj hp w n
theorem Jr9 {p m : Nat} {mf : LI} {Q : Bool -> Prop} (hp : 2 <= p) (hp2 : p <= 256) (hm : mf.length = m) (hq : p ^ m <= 256) (hc : Cn p m (vo mf))
  (h : ∀ b : Bool, (b = true ↔ Irr p m (vo mf)) -> Q b) : QH p m mf Q := by
 have hm9 : m <= 8 := by
  rcases Nat.lt_or_ge 8 m with h1 | h1
  .have e1 : 2 ^ 9 <= p ^ 9 := Nat.pow_le_pow_left (by omega) 9; have e2 := Qj (p := p) (by omega) (show 9 <= m by omega); omega
  .exact h1
 refine Y8 (by omega) ⟨by omega, ?_⟩; have hlen : (mf ++ [(1 : Int)]).length = m + 1 := by simp [hm]
 have hcs : Cn p (m + 1) (vo (mf ++ [(1 : Int)])) := by have := Jlu hp (o := mf) (by rw [hm]; exact hc); rwa [hm] at this
 have hpd : ∀ d, 2 * d <= m -> p ^ d <= 256 := fun d hd => Nat.le_trans (Qj (by omega) (by omega)) hq; refine ⟨fun a b => ∃ d : Nat, a = d /\ 1 <= d /\ 2 * (d - 1) <= m /\ b = ((p ^ d : Nat) : Int) /\ p ^ d <= 65536 /\ ∀ e, 0 < e -> e < d -> 2 * e <= m -> ∀ w, w < p ^ e -> ¬ Dvd p e (dv p w) (fun i => if i = m then 1 else vo mf i) (m + 1), fun a b => (20 - a).toNat, ⟨1, rfl, by omega, by omega, by simp, by simp; omega, fun e h1 h2 => by omega⟩, ?_⟩; rintro _ _ ⟨d, rfl, hd1, hd2, rfl, hdp, hnd⟩; dsimp only; refine ⟨Jw (by omega) (by omega), fun hle => ?_, fun hgt => ?_⟩
 .have hpd' := hpd d (by omega); refine ⟨fun z => ∃ w : Nat, z = w /\ w <= p ^ d /\ ∀ u, u < w -> ¬ Dvd p d (dv p u) (fun i => if i = m then 1 else vo mf i) (m + 1), fun z => ((p ^ d : Nat) - z).toNat, ⟨0, rfl, Nat.zero_le _, fun u hu => by omega⟩, ?_⟩; rintro _ ⟨w, rfl, hw, hnw⟩; dsimp only; refine ⟨fun hlt => ?_, fun hge => ?_⟩
  .have hw2 : w < p ^ d := by omega
   refine ⟨_, Jdn (by omega) (by omega) (by omega) rfl, ?_⟩; have hdl := JZ p d w; refine (?_ : ∃ r : Bool, Y2 p (dgi p d w) (mf ++ [(1 : Int)]) (fun q => q = r) /\ _); by_cases hD : Dvd p d (dv p w) (fun i => if i = m then 1 else vo mf i) (m + 1)
   .refine ⟨true, Je9 (by omega) hp2 (by rw [hdl]; exact Jb2 (by omega) hw2 d) (by rw [hlen]; exact hcs) (by omega) (by omega) (by omega) fun b hb => ?_, fun _ => ?_, fun h' => absurd h' (by decide)⟩
    .rw [hdl, hlen, YR hw2, Jc1, hm] at hb; exact hb.2 hD
    .exact h false ⟨fun h' => absurd h' (by decide), fun hI => absurd hD (hI d (by omega) (by omega) w hw2)⟩
   .refine ⟨false, Je9 (by omega) hp2 (by rw [hdl]; exact Jb2 (by omega) hw2 d) (by rw [hlen]; exact hcs) (by omega) (by omega) (by omega) fun b hb => ?_, fun h' => absurd h' (by decide), fun _ => ?_⟩
    .rw [hdl, hlen, YR hw2, Jc1, hm] at hb; cases b with
     | false => rfl
     | true => exact absurd (hb.1 rfl) hD
    .refine ⟨Jw (by omega) (by omega), ⟨w + 1, by push_cast; rfl, by omega, fun u hu => ?_⟩, by omega⟩; by_cases huw : u = w
     .subst huw; exact hD
     .exact hnw u (by omega)
  .have e1 : ((p ^ d : Nat) : Int) * (p : Int) = ((p ^ (d + 1) : Nat) : Int) := by rw [Nat.pow_succ]; push_cast; rfl
   have hb2 : p ^ (d + 1) <= 65536 := by
    rw [Nat.pow_succ]; have := Nat.mul_le_mul hpd' hp2; omega
   rw [e1]; refine ⟨Jw (by omega) (by omega), YP (by omega), ⟨d + 1, by push_cast; rfl, by omega, by omega, rfl, hb2, fun e he0 he h2 u hu => ?_⟩, by omega⟩; by_cases hed : e = d
   .subst hed; exact hnw u (by omega)
   .exact hnd e he0 (by omega) h2 u hu
 .exact h true ⟨fun _ e he0 h2 u hu => hnd e he0 (by omega) h2 u hu, fun _ => rfl⟩
theorem v_rirr {p m : Nat} {mf : LI} {Q : Bool -> Prop} (hp : 2 <= p) (hp2 : p <= 256) (hm : mf.length = m) (hq : p ^ m <= 256) (hc : Cn p m (vo mf))
  (h : ∀ b : Bool, (b = true ↔ Irr p m (vo mf)) -> Q b) : Jek mf p Q := by
 have hm9 : m <= 8 := by
  rcases Nat.lt_or_ge 8 m with h1 | h1
  .have e1 : 2 ^ 9 <= p ^ 9 := Nat.pow_le_pow_left (by omega) 9; have e2 := Qj (p := p) (by omega) (show 9 <= m by omega); omega
  .exact h1
 unfold Jek; rw [hm]; have hpd : ∀ d, 2 * d <= m -> p ^ d <= 256 := fun d hd => Nat.le_trans (Qj (by omega) (by omega)) hq; refine ⟨fun b a => ∃ d : Nat, a = d + 1 /\ 2 * d <= m /\ b = ((p ^ d : Nat) : Int) /\ ∀ e, 0 < e -> e <= d -> 2 * e <= m -> ∀ w, w < p ^ e -> ¬ Dvd p e (dv p w) (fun i => if i = m then 1 else vo mf i) (m + 1), fun b a => (20 - a).toNat, ⟨0, rfl, by omega, by simp, fun e h1 h2 => by omega⟩, ?_⟩; rintro _ _ ⟨d, rfl, hd2, rfl, hnd⟩; dsimp only; have hpd' := hpd d hd2; refine ⟨Jw (by omega) (by omega), fun hle => ?_, fun hgt => ?_⟩
 .have e1 : ((p ^ d : Nat) : Int) * (p : Int) = ((p ^ (d + 1) : Nat) : Int) := by rw [Nat.pow_succ]; push_cast; rfl
  have hpd2 := hpd (d + 1) (by omega); rw [e1]; refine ⟨YP (by omega), ?_⟩; refine ⟨fun z => ∃ w : Nat, z = w /\ w <= p ^ (d + 1) /\ ∀ u, u < w -> ¬ Dvd p (d + 1) (dv p u) (fun i => if i = m then 1 else vo mf i) (m + 1), fun z => ((p ^ (d + 1) : Nat) - z).toNat, ⟨0, rfl, Nat.zero_le _, fun u hu => by omega⟩, ?_⟩; rintro _ ⟨w, rfl, hw, hnw⟩; dsimp only; rw [show (d : Int) + 1 = ((d + 1 : Nat) : Int) by push_cast; rfl]; refine ⟨fun hlt => ?_, fun hge => ?_⟩
  .have hw2 : w < p ^ (d + 1) := by omega
   have hdl := JZ p (d + 1) w; refine Je7 (by omega) (by omega) (by omega) (Jjn hp hp2 (by rw [hdl]; exact Jb2 (by omega) hw2 _) (by rw [hm]; exact hc) (by omega) (by omega) (by omega) fun b hb => ?_); rw [hdl, hm, YR hw2] at hb; refine ⟨fun hb1 => ?_, fun hb0 => ?_⟩
   .exact h false ⟨fun h' => absurd h' (by decide), fun hI => absurd (hb.1 hb1) (hI (d + 1) (by omega) (by omega) w hw2)⟩
   .refine ⟨Jw (by omega) (by omega), ⟨w + 1, by push_cast; rfl, by omega, fun u hu => ?_⟩, by omega⟩; by_cases huw : u = w
    .subst huw; intro hD; rw [hb.2 hD] at hb0; exact absurd hb0 (by decide)
    .exact hnw u (by omega)
  .refine ⟨Jw (by omega) (by omega), ⟨d + 1, rfl, by omega, rfl, fun e he0 he h2 u hu => ?_⟩, by omega⟩; by_cases hed : e = d + 1
   .subst hed; exact hnw u (by omega)
   .exact hnd e he0 (by omega) h2 u hu
 .exact h true ⟨fun _ e he0 h2 u hu => hnd e he0 (by omega) h2 u hu, fun _ => rfl⟩
structure FV (P M : Int) (mf : LI) (p m v : Nat) : Prop where
  eP : P = p
  eM : M = m
  pr : IsLf p p
  m0 : 0 < m
  q : p ^ m <= 256
  vlt : v < p ^ m
  m1 : m = 1 -> mf = [] /\ v = 0
  m2 : m ≠ 1 -> mf = dgi p m v
  irr : Irr p m (dv p v)
def Qh (P M : Int) (mf : LI) : Prop := ∃ p m v, FV P M mf p m v
open Classical in
noncomputable def ck (P M : Int) (mf : LI) : Int := if Qh P M mf then 0 else 1
theorem Ja3 {P M : Int} {mf : LI} (h : Qh P M mf) : ck P M mf = 0 := if_pos h
theorem QX {P M : Int} {mf : LI} (h : ¬ Qh P M mf) : ck P M mf = 1 := if_neg h
theorem Js0 (p : Nat) (c : Vec) : Irr p 1 c := fun d h1 h2 => by omega
theorem Je5 {p : Nat} (hp : IsLf p p) (hq : p <= 256) : FV p ((1 : Nat) : Int) [] p 1 0 := ⟨rfl, rfl, hp, by omega, by simpa using hq, by have := hp.two; simp; omega, fun _ => ⟨rfl, rfl⟩, fun h => absurd rfl h, Js0 p _⟩
theorem Jml {p m : Nat} {mf : LI} (hp : 0 < p) (hl : mf.length = m) (hc : Cn p m (vo mf)) : nm p m (vo mf) < p ^ m /\ mf = dgi p m (nm p m (vo mf)) /\ vo mf = dv p (nm p m (vo mf)) := by
 have hlt := Z3 (m := m) hp (vo mf); have he : mf = dgi p m (nm p m (vo mf)) := QY (by rw [hl, JZ]) fun i hi => by
  have h1 := hc i (by omega); rw [QM (by omega), Jmi hp _ (by omega), Int.emod_eq_of_lt h1.1 h1.2]
 exact ⟨hlt, he, by have := congrArg vo he; rw [YR hlt] at this; exact this⟩
theorem FV.cn {P M : Int} {mf : LI} {p m v : Nat} (h : FV P M mf p m v) (hm : m ≠ 1) : mf.length = m /\ Cn p m (vo mf) /\ Irr p m (vo mf) := by
 have := h.pr.two; rw [h.m2 hm]; exact ⟨JZ p m v, Jb2 (by omega) h.vlt m, by rw [YR h.vlt]; exact h.irr⟩
theorem FV.vo {P M : Int} {mf : LI} {p m v : Nat} (h : FV P M mf p m v) : Go.Proofs.Ytppkigdakobebaa.vo mf = dv p v := by
 by_cases hm : m = 1
 .rw [(h.m1 hm).1, (h.m1 hm).2, Jed]; rfl
 .rw [h.m2 hm, YR h.vlt]
theorem Jsa {P M : Int} {mf : LI} {Q : Int -> Prop} (h : Q (ck P M mf)) : Jde P M mf Q := by
 refine ⟨fun h1 => ?_, fun h1 => Jm5 (by omega) fun b hb => ⟨fun hb0 => ?_, fun hb1 => ?_⟩⟩
 .rw [QX] at h
  .exact h
  .rintro ⟨p, m, v, hV⟩; have e1 := Qj (p := p) (by have := hV.pr.two; omega) hV.m0; have := hV.q; have := hV.eP; rw [show p ^ (0 + 1) = p from Nat.pow_one p] at e1; omega
 .rw [QX] at h
  .exact h
  .rintro ⟨p, m, v, hV⟩; have := hV.pr.two; have : b = true := hb.2 ⟨by rw [hV.eP]; omega, by rw [hV.eP]; exact hV.pr⟩; rw [this] at hb0; exact absurd hb0 (by decide)
 .have hbt : b = true := by cases b <;> first | rfl | exact absurd hb1 (by decide)
  obtain ⟨hP2, hPr⟩ := hb.1 hbt; obtain ⟨p, rfl⟩ := Int.eq_ofNat_of_zero_le (show 0 <= P by omega); rw [Int.toNat_natCast] at hPr; refine ⟨fun h2 => ?_, fun h2 => Jfy (by omega) (by omega) fun r hr1 hr2 => ⟨fun h3 => ?_, fun h3 => ?_⟩⟩
  .rw [QX] at h
   .exact h
   .rintro ⟨p', m, v, hV⟩; have := hV.m0; have := hV.eM; omega
  .rw [QX] at h
   .exact h
   .rintro ⟨p', m, v, hV⟩; have e1 := hV.eM; have e2 := hV.eP; have e3 := hV.q; have : p = p' := by omega
    subst this; rw [e1, Int.toNat_natCast] at hr1; have := hr1 e3; omega
  .obtain ⟨m, rfl⟩ := Int.eq_ofNat_of_zero_le (show 0 <= M by omega); rw [Int.toNat_natCast] at hr1 hr2; have hq : p ^ m <= 256 := by
    rcases Nat.lt_or_ge 256 (p ^ m) with hc | hc
    .exact absurd (hr2 hc) h3
    .exact hc
   refine ⟨fun h4 => Jo8 ?_, fun h4 => ⟨fun h5 => ?_, fun h5 => ?_⟩⟩
   .have hm1 : m = 1 := by omega
    subst hm1; by_cases hl : mf = []
    .subst hl; rw [Ja3 ⟨_, _, _, Je5 hPr (by omega)⟩] at h
     simpa using h
    .rw [QX] at h
     .simpa [hl] using h
     .rintro ⟨p', m, v, hV⟩; exact hl (hV.m1 (by have := hV.eM; omega)).1
   .rw [QX] at h
    .exact h
    .rintro ⟨p', m', v, hV⟩; have e1 := hV.eM; have := (hV.cn (by omega)).1; omega
   .have hlen : mf.length = m := by omega
    have hm8 : mf.length <= 1000000000 := by
     have := Nat.lt_two_pow_self (n := m); have e1 : 2 ^ m <= p ^ m := Nat.pow_le_pow_left (by omega) m; omega
    refine Z7 (f := fun x => if x < 0 then true else decide ((p : Int) <= x)) hm8 (fun x R hR => ⟨fun hx => by simpa [hx] using hR, fun hx => by simpa [hx] using hR⟩) ⟨fun hb6 => ?_, fun hb6 => ?_⟩
    .rw [QX] at h
     .exact h
     .rintro ⟨p', m', v, hV⟩; have e1 := hV.eM; have e2 := hV.eP; have e3 : p = p' := by omega
      have e4 : m = m' := by omega
      subst e3; subst e4; obtain ⟨i, hi, hf⟩ := ZS.1 hb6; have hcn := (hV.cn (by omega)).2.1 i (by omega); rw [if_neg (by omega)] at hf; have := of_decide_eq_true hf; omega
    .have hcn : Cn p m (vo mf) := fun i hi => by
      have h6 : ¬ mf.any (fun x => if x < 0 then true else decide ((p : Int) <= x)) = true := by rw [hb6]; decide
      rw [ZS] at h6; by_cases hx : vo mf i < 0
      .exact absurd ⟨i, by omega, by rw [if_pos hx]⟩ h6
      .by_cases hx2 : (p : Int) <= vo mf i
       .exact absurd ⟨i, by omega, by rw [if_neg hx, decide_eq_true hx2]⟩ h6
       .omega
     have hcl := Jml (by omega) hlen hcn; refine Jr9 (by omega) (by omega) hlen hq hcn fun b2 hb2 => Jo8 ?_; by_cases hI : Irr p m (vo mf)
     .rw [hb2.2 hI, if_pos rfl]; rw [Ja3 ⟨p, m, nm p m (vo mf), rfl, rfl, hPr, by omega, hq, hcl.1, fun e => by omega, fun _ => hcl.2.1, by rw [<- hcl.2.2]; exact hI⟩] at h; exact h
     .rw [if_neg (fun e => hI (hb2.1 e))]; rw [QX] at h
      .exact h
      .rintro ⟨p', m', v, hV⟩; have e1 := hV.eM; have e2 := hV.eP; have e3 : p = p' := by omega
       have e4 : m = m' := by omega
       subst e3; subst e4; exact hI (hV.cn (by omega)).2.2
theorem Zn {P M : Int} {mf : LI} {Q : Int -> Prop} (h : Q (ck P M mf)) : ZB P M mf Q := by
 refine Yp ⟨fun h0 => ?_, fun h0 => ?_⟩
 .rw [QX] at h
  .exact h
  .rintro ⟨p, m, v, hV⟩; have h1 := hV.pr.two; have h2 := hV.m0; have h3 := hV.q; rw [hV.eP, hV.eM, Q1, if_pos ⟨by omega, by omega, by simpa using h3⟩] at h0; have h4 : 0 < p ^ m := Nat.pow_pos (by omega); simp only [Int.toNat_natCast] at h0; omega
 .unfold Q1 at h0; by_cases hc : 2 <= P /\ 1 <= M /\ P.toNat ^ M.toNat <= 256
  .obtain ⟨h1, h2, hq⟩ := hc; obtain ⟨p, rfl⟩ := Int.eq_ofNat_of_zero_le (show 0 <= P by omega); obtain ⟨m, rfl⟩ := Int.eq_ofNat_of_zero_le (show 0 <= M by omega); simp only [Int.toNat_natCast] at hq; have hp256 : p <= 256 := by
    have := Qj (p := p) (by omega) (show 1 <= m by omega); rw [Nat.pow_one] at this; omega
   refine Jo3 (by omega) hp256 fun b hb => ⟨fun hb0 => ?_, fun hb1 => ?_⟩
   .rw [QX] at h
    .exact h
    .rintro ⟨p', m', v, hV⟩; have e2 := hV.eP; have e3 : p = p' := by omega
     subst e3; rw [hb.2 hV.pr] at hb0; exact absurd hb0 (by decide)
   .have hbt : b = true := by cases b <;> first | rfl | exact absurd hb1 (by decide)
    have hPr := hb.1 hbt; refine ⟨fun h4 => ⟨fun h5 => ?_, fun h5 => ?_⟩, fun h4 => ⟨fun h5 => ?_, fun h5 => ?_⟩⟩
    .rw [QX] at h
     .exact h
     .rintro ⟨p', m', v, hV⟩; have e1 := hV.eM; have := (hV.m1 (by omega)).1; rw [this] at h5; exact h5 rfl
    .have hm1 : m = 1 := by omega
     subst hm1; have hl : mf = [] := List.length_eq_zero_iff.1 (by omega); subst hl; rw [Ja3 ⟨_, _, _, Je5 hPr hp256⟩] at h; exact h
    .rw [QX] at h
     .exact h
     .rintro ⟨p', m', v, hV⟩; have e1 := hV.eM; have := (hV.cn (by omega)).1; omega
    .have hlen : mf.length = m := by omega
     refine ⟨fun z => ∃ k : Nat, z = k /\ k <= m /\ Cn p k (vo mf), fun z => (m - z).toNat, ⟨0, rfl, Nat.zero_le _, fun i hi => by omega⟩, ?_⟩; rintro _ ⟨k, rfl, hk, hcn⟩; dsimp only; rw [JG]; have hno : ¬ (0 <= vo mf k /\ vo mf k < p) -> k < m -> ¬ Qh p m mf := by
      rintro hbad hkm ⟨p', m', v, hV⟩; have e1 := hV.eM; have e2 := hV.eP; have e3 : p = p' := by omega
      have e4 : m = m' := by omega
      subst e3; subst e4; exact hbad ((hV.cn (by omega)).2.1 k hkm)
     have hm8 : m <= 1000000000 := by
      have := Nat.lt_two_pow_self (n := m); have e1 : 2 ^ m <= p ^ m := Nat.pow_le_pow_left (by omega) m; omega
     refine ⟨fun hlt => ⟨fun hneg => ⟨⟨by omega, by omega⟩, ?_⟩, fun hpos => ⟨⟨by omega, by omega⟩, ⟨by omega, by omega⟩, fun hbig => ?_, fun hsm => ⟨Jw (by omega) (by omega), ⟨k + 1, by push_cast; rfl, by omega, fun i hi => ?_⟩, by omega⟩⟩⟩, fun hge => ?_⟩
     .rw [QX (hno (by omega) (by omega))] at h; exact h
     .rw [QX (hno (by omega) (by omega))] at h; exact h
     .by_cases hik : i = k
      .subst hik; omega
      .exact hcn i (by omega)
     .have hkm : k = m := by omega
      subst hkm; have hcl := Jml (by omega) hlen hcn; refine v_rirr (by omega) hp256 hlen hq hcn fun b2 hb2 => ⟨fun hb3 => ?_, fun hb3 => ?_⟩
      .rw [QX] at h
       .exact h
       .rintro ⟨p', m', v, hV⟩; have e1 := hV.eM; have e2 := hV.eP; have e3 : p = p' := by omega
        have e4 : k = m' := by omega
        subst e3; subst e4; rw [hb2.2 (hV.cn (by omega)).2.2] at hb3; exact absurd hb3 (by decide)
      .have hbt2 : b2 = true := by cases b2 <;> first | rfl | exact absurd hb3 (by decide)
       rw [Ja3 ⟨p, k, nm p k (vo mf), rfl, rfl, hPr, by omega, hq, hcl.1, fun e => by omega, fun _ => hcl.2.1, by rw [<- hcl.2.2]; exact hb2.1 hbt2⟩] at h; exact h
  .rw [if_neg hc] at h0; exact absurd rfl h0
end Go.Proofs.Ytppkigdakobebaa
namespace Go.Proofs.Ytppkigdakobebaa
theorem Ja4 {p m : Nat} {r : LI} {u : Vec} (hp : 0 < p) (hl : r.length = m) (hv : ∀ i, i < m -> vo r i = u i % (p : Int)) : r = dgi p m (nm p m u) :=
  QY (by rw [hl, JZ]) fun i hi => by rw [hv i (by omega), QM (by omega), Jmi hp _ (by omega)]
theorem Jc2 (p i : Nat) (l : LI) (n : Nat) (h : i < n) : vl p (i + 1) (fun t => vo l (n - (i + 1) + t)) = vo l (n - (i + 1)) + (p : Int) * vl p i (fun t => vo l (n - i + t)) := by
 show vo l (n - (i + 1) + 0) + (p : Int) * vl p i (fun t => vo l (n - (i + 1) + (t + 1))) = _; rw [Nat.add_zero]; have : (fun t => vo l (n - (i + 1) + (t + 1))) = fun t => vo l (n - i + t) := by
  funext t; rw [show n - (i + 1) + (t + 1) = n - i + t by omega]
 rw [this]
theorem Jc3 {p : Nat} {l : LI} {n i : Nat} (hp : 2 <= p) (hc : Cn p n (vo l)) (hq : p ^ n <= 256) (hi : i <= n) : 0 <= vl p i (fun t => vo l (n - i + t)) /\ vl p i (fun t => vo l (n - i + t)) < 256 := by
 have h1 := Jlm (p := p) (n := i) (v := fun t => vo l (n - i + t)) (by omega) (fun t ht => hc (n - i + t) (by omega)); have h2 := Qj (p := p) (by omega) hi; omega
theorem Jfz {p : Nat} {l : LI} {Q : Int -> Prop} (hp : 2 <= p) (hp2 : p <= 256) (hc : Cn p l.length (vo l)) (hq : p ^ l.length <= 256) (h : Q (vl p l.length (vo l))) : Yj p l Q := by
 refine ⟨fun i z => i <= l.length /\ z = vl p i (fun t => vo l (l.length - i + t)), ⟨Nat.zero_le _, rfl⟩, ?_, ?_⟩
 .rintro i hi _ ⟨_, rfl⟩; have h1 := Jc3 hp hc hq (i := i) (by omega); have h2 := Jc3 hp hc hq (i := i + 1) (by omega); rw [Jc2 p i l l.length hi] at h2; have h3 := Zx (a := vl p i (fun t => vo l (l.length - i + t))) (b := p) (p := 256) (by omega) ⟨h1.1, by omega⟩ ⟨by omega, by omega⟩; rw [show ((l.length - 1 - i : Nat) : Int) = ((l.length - (i + 1) : Nat) : Int) by omega, JG]; refine ⟨Jw (by omega) (by omega), ?_, by omega, ?_⟩
  .rw [Int.mul_comm, Int.add_comm]; exact Jw (by omega) (by omega)
  .rw [Jc2 p i l l.length hi, Int.mul_comm, Int.add_comm]
 .rintro _ ⟨_, rfl⟩; have : (fun t => vo l (l.length - l.length + t)) = vo l := by funext t; rw [Nat.sub_self, Nat.zero_add]
  rw [this]; exact h
theorem Jo4 {p : Nat} {M : Int} {mf l : LI} {Q : Int -> Prop} (hp : 2 <= p) (hp2 : p <= 256) (hl : l.length <= 1000) (hc : Cn p l.length (vo l)) (hq : p ^ l.length <= 256) (h : Q (vl p l.length (vo l))) : YA p M mf l Q := by
 refine ⟨Jw (by omega) (by omega), fun z j => ∃ i : Nat, j = (l.length : Int) - 1 - i /\ i <= l.length /\ z = vl p i (fun t => vo l (l.length - i + t)), fun z j => (j + 1).toNat, ⟨0, by omega, Nat.zero_le _, rfl⟩, ?_⟩; rintro _ _ ⟨i, rfl, hi, rfl⟩; dsimp only; refine ⟨fun hge => ?_, fun hlt => ?_⟩
 .have h1 := Jc3 hp hc hq (i := i) (by omega); have h2 := Jc3 hp hc hq (i := i + 1) (by omega); rw [Jc2 p i l l.length (by omega)] at h2; have h3 := Zx (a := vl p i (fun t => vo l (l.length - i + t))) (b := p) (p := 256) (by omega) ⟨h1.1, by omega⟩ ⟨by omega, by omega⟩; rw [show (l.length : Int) - 1 - i = ((l.length - (i + 1) : Nat) : Int) by omega, JG]; refine ⟨Jw (by omega) (by omega), ⟨by omega, by omega⟩, ?_, Jw (by omega) (by omega), ⟨i + 1, by omega, by omega, ?_⟩, by omega⟩
  .rw [Int.mul_comm, Int.add_comm]; exact Jw (by omega) (by omega)
  .rw [Jc2 p i l l.length (by omega), Int.mul_comm, Int.add_comm]
 .have hil : i = l.length := by omega
  subst hil; have : (fun t => vo l (l.length - l.length + t)) = vo l := by funext t; rw [Nat.sub_self, Nat.zero_add]
  rw [this]; exact h
theorem Jo0 {p m x : Nat} (hp : 0 < p) (hx : x < p ^ m) : vl p (dgi p m x).length (vo (dgi p m x)) = (x : Int) := by
 rw [JZ, YR hx, Joz hp hx]
namespace FV
variable {P M : Int} {mf : LI} {p m v : Nat} (F : FV P M mf p m v)
include F
theorem p2 : 2 <= p := F.pr.two
theorem pq : p <= p ^ m := by
 have := Qj (p := p) (by have := F.pr.two; omega) F.m0
 rwa [show p ^ (0 + 1) = p from Nat.pow_one p] at this
theorem p256 : p <= 256 := Nat.le_trans F.pq F.q
theorem m8 : m <= 8 := by
 rcases Nat.lt_or_ge 8 m with h1 | h1
 .have e1 : 2 ^ 9 <= p ^ 9 := Nat.pow_le_pow_left F.p2 9; have e2 := Qj (p := p) (by have := F.p2; omega) (show 9 <= m by omega); have := F.q; omega
 .exact h1
theorem ring : CR (p ^ m) (Qp p m) (JO p m (dv p v)) := Jlk _ F.p2 F.m0
theorem gen : ∃ g, Gn (p ^ m) (JO p m (dv p v)) g := gen_ex F.pr F.m0 F.q F.vlt (fun h => (F.m1 h).2) F.irr
end FV
def sh (v : Vec) : Vec := fun i => if i = 0 then 0 else v (i - 1)
theorem Jpd {m : Nat} {c v : Vec} {i : Nat} (hi : i < m) : tX m c v i = sh v i - c i * v (m - 1) := by simp only [tX, if_pos hi, sh]
theorem Jo2 {P M : Int} {mf : LI} {p m v : Nat} (F : FV P M mf p m v) {x : Nat} {Q : LI -> Prop} (hx : x < p ^ m) (h : Q (dgi p m (nm p m (tX m (dv p v) (dv p x))))) : Ja9 P M mf (dgi p m x) Q := by
 have hp := F.p2; have hp2 := F.p256; have hm0 := F.m0; have hm8 := F.m8; rw [F.eP, F.eM]; have hlen := JZ p m x; have hcx := Jfj (p := p) (by omega) x m; refine ⟨Jw (by omega) (by omega), ⟨by omega, by omega⟩, ⟨by omega, by omega⟩, ⟨by omega, by omega⟩, ?_⟩; generalize hA : (si ((dgi p m x).take ((1 : Int).toNat) ++ (dgi p m x).take (min (dgi p m x).length ((dgi p m x).length - ((1 : Int).toNat))) ++ (dgi p m x).drop ((1 : Int).toNat + (min (dgi p m x).length ((dgi p m x).length - ((1 : Int).toNat))))) (0 : Int) (0 : Int)) = A; have hAl : A.length = m := by
  rw [<- hA]; show (List.set _ _ _).length = m; rw [List.length_set]; simp only [List.length_append, List.length_take, List.length_drop, hlen]; show min 1 m + min (min m (m - 1)) m + (m - (1 + min m (m - 1))) = m; omega
 have hAv : ∀ i, i < m -> vo A i = sh (dv p x) i := fun i hi => by
  unfold sh; rw [<- hA]; show vo (List.set _ 0 0) i = _; rw [Qa]; by_cases h0 : i = 0
  .subst h0; rw [if_pos ⟨rfl, by simp only [List.length_append, List.length_take, hlen]; show 0 < min 1 m + _ + _; omega⟩, if_pos rfl]
  .rw [if_neg (fun h => h0 h.1.symm), if_neg h0]; have e1 : ((dgi p m x).take ((1 : Int).toNat)).length = 1 := by rw [List.length_take, hlen]; show min 1 m = 1; omega
   have e2 : (min (dgi p m x).length ((dgi p m x).length - ((1 : Int).toNat))) = m - 1 := by rw [hlen]; show min m (m - 1) = m - 1; omega
   rw [e2]; have e3 : ((dgi p m x).take (m - 1)).length = m - 1 := by rw [List.length_take, hlen]; omega
   unfold vo; rw [List.getD_eq_getElem?_getD, List.append_assoc, List.getElem?_append_right (by omega), e1, List.getElem?_append_left (by omega), List.getElem?_take, if_pos (by omega)]; have := QM (p := p) (x := x) (i := i - 1) (n := m) (by omega); unfold vo at this; rw [List.getD_eq_getElem?_getD] at this; exact this
 rw [show (m : Int) - 1 = ((m - 1 : Nat) : Int) by omega, JG, QM (by omega)]; have hshift : ∀ i, i < m -> 0 <= sh (dv p x) i /\ sh (dv p x) i < p := fun i hi => by
  unfold sh; split
  .omega
  .exact hcx (i - 1) (by omega)
 refine ⟨fun h0 => ?_, fun h0 => ?_⟩
 .rw [Ja4 (p := p) (u := tX m (dv p v) (dv p x)) (by omega) hAl fun i hi => ?_]
  .exact h
  .have := hshift i hi; rw [hAv i hi]; rw [Jpd hi, h0, Int.mul_zero, Int.sub_zero, Int.emod_eq_of_lt this.1 this.2]
 .have hml : mf.length <= m := by
   by_cases hm1 : m = 1
   .rw [(F.m1 hm1).1]; simp
   .rw [F.m2 hm1, JZ]; omega
  have hcv := Jfj (p := p) (by omega) v m; have ht := hcx (m - 1) (by omega); refine ⟨fun l z => ∃ k : Nat, z = k /\ k <= mf.length /\ l.length = m /\ ∀ i, i < m -> vo l i = if i < k then tX m (dv p v) (dv p x) i % (p : Int) else vo A i, fun l z => (mf.length - z).toNat, ⟨0, rfl, Nat.zero_le _, hAl, fun i hi => by rw [if_neg (by omega)]⟩, ?_⟩; rintro l _ ⟨k, rfl, hk, hl, hv⟩; dsimp only; rw [JG, JG, Qi, F.vo]; refine ⟨fun hlt => ?_, fun hge => ?_⟩
  .have c1 := hcv k (by omega); have c2 := hshift k (by omega); have c3 := Zx (a := (p : Int) - dv p v k) (b := dv p x (m - 1)) hp2 ⟨by omega, by omega⟩ ⟨ht.1, by omega⟩; rw [hv k (by omega), if_neg (by omega), hAv k (by omega)]; refine ⟨⟨by omega, by omega⟩, ⟨by omega, by omega⟩, Jw (by omega) (by omega), Jw (by omega) (by omega), Jw (by omega) (by omega), by omega, ⟨by omega, by omega⟩, Jw (by omega) (by omega), ⟨k + 1, by push_cast; rfl, by omega, by rw [List.length_set, hl], fun i hi => ?_⟩, by omega⟩; rw [Qa]; by_cases hki : k = i
   .subst hki; rw [if_pos ⟨rfl, by omega⟩, if_pos (by omega), Jf3 (by omega) c2.1 (by omega) ht.1, Jpd hi]
   .rw [if_neg (fun h => hki h.1), hv i hi]; by_cases hik : i < k
    .rw [if_pos hik, if_pos (by omega)]
    .rw [if_neg hik, if_neg (by omega)]
  .rw [Ja4 (p := p) (u := tX m (dv p v) (dv p x)) (by omega) hl fun i hi => ?_]
   .exact h
   .rw [hv i hi]; by_cases hik : i < k
    .rw [if_pos hik]
    .rw [if_neg hik]; have hm1 : m = 1 := by
      by_cases hm1 : m = 1
      .exact hm1
      .rw [F.m2 hm1, JZ] at hge hk; omega
     have hi0 : i = 0 := by omega
     rw [hAv i hi, Jpd hi, (F.m1 hm1).2, Jed]; subst hi0; simp [sh, vz]
theorem hz_z {m : Nat} {c b y : Vec} {n : Nat} : ∀ {k : Nat}, k <= n -> (∀ i, n - k <= i -> i < n -> b i = 0) -> hz m c b y n k = vz
 | 0, _, _ => rfl
 | k + 1, hk, h => by
  show JV (tX m c (hz m c b y n k)) (vsm (b (n - 1 - k)) y) = vz; rw [hz_z (k := k) (by omega) (fun i h1 h2 => h i (by omega) h2), h (n - 1 - k) (by omega) (by omega), tX_z]; funext i; simp [JV, vsm, vz]
theorem hz_sup {m : Nat} {c b y : Vec} {n : Nat} (hy : Sup m y) : ∀ k, Sup m (hz m c b y n k)
 | 0 => Sup.z
 | k + 1 => Sup.add Sup.tX hy.sm
theorem rep_z (p m : Nat) : List.replicate m (0 : Int) = dgi p m 0 := QY (by simp [JZ]) fun i hi => by
 rw [Jdi, QM (by simpa using hi), Jed]; rfl
theorem nm_z {p m : Nat} (hp : 0 < p) : nm p m vz = 0 := by rw [<- Jed p, Z4 hp (Nat.pow_pos hp)]
theorem Jm4 {P M : Int} {mf : LI} {p m v : Nat} (F : FV P M mf p m v) {o : LI} {x y : Nat} {Q : LI -> Prop} (ho : o.length = m) (hx : x < p ^ m) (hy : y < p ^ m) (h : Q (dgi p m (JO p m (dv p v) x y))) : ZU P M mf o (dgi p m x) (dgi p m y) Q := by
 have hp := F.p2; have hp2 := F.p256; have hm0 := F.m0; have hm8 := F.m8; obtain rfl := F.eP; obtain rfl := F.eM; have hlx := JZ p m x; have hly := JZ p m y; have hcx := Jfj (p := p) (by omega) x m; have hcy := Jfj (p := p) (by omega) y m; refine ⟨Jw (by omega) (by omega), fun z => ∃ k : Nat, z = k /\ k < m /\ ∀ i, k < i -> i < m -> dv p y i = 0, ⟨fun z => ∃ k : Nat, z = k /\ k < m /\ ∀ i, k < i -> i < m -> dv p y i = 0, fun z => z.toNat, ⟨m - 1, by omega, by omega, fun i h1 h2 => by omega⟩, ?_⟩, ?_⟩
 .rintro _ ⟨k, rfl, hk, hzz⟩; dsimp only; refine ⟨fun hlt => ⟨⟨by omega, by omega⟩, fun h0 => ⟨Jw (by omega) (by omega), ⟨k - 1, by omega, by omega, fun i h1 h2 => ?_⟩, by omega⟩, fun _ => ⟨k, rfl, hk, hzz⟩⟩, fun _ => ⟨k, rfl, hk, hzz⟩⟩; rw [JG, QM hk] at h0; by_cases hik : i = k
  .subst hik; exact h0
  .exact hzz i (by omega) h2
 .rintro _ ⟨k0, rfl, hk0, hzz⟩; refine ⟨fun l z => ∃ k : Nat, z = (m : Int) - 1 - k /\ k <= m /\ l = dgi p m (nm p m (hz m (dv p v) (dv p y) (dv p x) m k)), fun l z => (z + 1).toNat, ⟨m - 1 - k0, by omega, by omega, ?_⟩, ?_⟩
  .rw [hz_z (by omega) (fun i h1 h2 => hzz i (by omega) h2), nm_z (by omega), ho, rep_z p m]
  .rintro _ _ ⟨k, rfl, hk, rfl⟩; dsimp only; refine ⟨fun hge => Jo2 F (Z3 (by omega) _) ?_, fun hlt => ?_⟩
   .have hs := hz_sup (c := dv p v) (b := dv p y) (n := m) (QS hx) k; rw [YQ (vcg.tX (vcg.refl _) (Ji2 (by omega) hs))]; generalize hT : tX m (dv p v) (hz m (dv p v) (dv p y) (dv p x) m k) = T; have hnT := Z3 (p := p) (m := m) (by omega) T; refine ⟨fun l z => ∃ t : Nat, z = t /\ t <= m /\ l.length = m /\ ∀ i, i < m -> vo l i = if i < t then (T i + dv p y (m - 1 - k) * dv p x i) % (p : Int) else T i % (p : Int), fun l z => (m - z).toNat, ⟨0, rfl, Nat.zero_le _, JZ _ _ _, fun i hi => by rw [if_neg (by omega), QM hi, Jmi (by omega) _ hi]⟩, ?_⟩; rintro l _ ⟨t, rfl, ht, hl, hv⟩; dsimp only; rw [show (m : Int) - 1 - k = ((m - 1 - k : Nat) : Int) by omega, JG, JG, JG, Qi]; rw [hlx]; refine ⟨fun hlt => ?_, fun hge2 => ?_⟩
    .rw [hv t (by omega), if_neg (by omega), QM (by omega), QM (by omega)]; have c1 := hcy (m - 1 - k) (by omega); have c2 := hcx t (by omega); have c3 := Zx (a := dv p y (m - 1 - k)) (b := dv p x t) hp2 ⟨c1.1, by omega⟩ ⟨c2.1, by omega⟩; have c4 : 0 <= T t % (p : Int) /\ T t % (p : Int) < p := ⟨Int.emod_nonneg _ (by omega), Int.emod_lt_of_pos _ (by omega)⟩
     refine ⟨⟨by omega, by omega⟩, ⟨by omega, by omega⟩, ⟨by omega, by omega⟩, Jw (by omega) (by omega), Jw (by omega) (by omega), by omega, ⟨by omega, by omega⟩, Jw (by omega) (by omega), ⟨t + 1, by push_cast; rfl, by omega, by rw [List.length_set, hl], fun i hi => ?_⟩, by omega⟩; rw [Qa]; by_cases hti : t = i
     .subst hti; rw [if_pos ⟨rfl, by omega⟩, if_pos (by omega), Int.tmod_eq_emod_of_nonneg (by omega)]; exact Jb6 (Int.emod_emod _ _) rfl
     .rw [if_neg (fun h => hti h.1), hv i hi]; by_cases hit : i < t
      .rw [if_pos hit, if_pos (by omega)]
      .rw [if_neg hit, if_neg (by omega)]
    .refine ⟨Jw (by omega) (by omega), ⟨k + 1, by omega, by omega, ?_⟩, by omega⟩; refine Ja4 (by omega) hl fun i hi => ?_; rw [hv i hi, if_pos (by omega)]; show _ = (JV (tX m (dv p v) (hz m (dv p v) (dv p y) (dv p x) m k)) (vsm (dv p y (m - 1 - k)) (dv p x))) i % _; rw [hT]; rfl
   .have hkm : k = m := by omega
    subst hkm; rw [hz_all]; exact h
def pwl (M : Nat -> Nat -> Nat) (x n : Nat) : LI := (List.range n).map fun k => ((pw M x k : Nat) : Int)
theorem ZH (M : Nat -> Nat -> Nat) (x n : Nat) : (pwl M x n).length = n := by simp [pwl]
theorem Jds {M : Nat -> Nat -> Nat} {x n i : Nat} (h : i < n) : vo (pwl M x n) i = ((pw M x i : Nat) : Int) := by
 unfold vo pwl; rw [List.getD_eq_getElem?_getD, List.getElem?_map, List.getElem?_range h]; rfl
theorem Jpo (M : Nat -> Nat -> Nat) (x n : Nat) : pwl M x (n + 1) = pwl M x n ++ [((pw M x n : Nat) : Int)] := by simp [pwl, List.range_succ]
structure Od (M : Nat -> Nat -> Nat) (x n : Nat) : Prop where
  pos : 0 < n
  one : pw M x n = 1
  least : ∀ k, 0 < k -> k < n -> pw M x k ≠ 1
theorem Jo7 {P M : Int} {mf : LI} {p m v : Nat} (F : FV P M mf p m v) {x : Nat} {Q : LI -> Prop} (h0 : 0 < x) (hx : x < p ^ m)
  (h : ∀ n, Od (JO p m (dv p v)) x n -> n <= p ^ m - 1 -> Q (pwl (JO p m (dv p v)) x n)) : Jbc P M mf x Q := by
 have hp := F.p2; have hp2 := F.p256; have hm0 := F.m0; have hm8 := F.m8; have hq := F.q; have R := F.ring; obtain ⟨g, G⟩ := F.gen; have hone := G.xone R h0 hx; have hq2 := R.q2; obtain rfl := F.eP; obtain rfl := F.eM; refine Jfy hp hp2 fun r hr _ => ?_; rw [Int.toNat_natCast] at hr; rw [hr hq]; refine ⟨⟨by omega, by omega, by omega⟩, by omega, _, Jdn (by omega) (by omega) (by omega) rfl, _, Jdn (by omega) (by omega) (by omega) rfl, ⟨by omega, by omega, by omega⟩, ?_⟩; refine ⟨fun l z a b => ∃ k : Nat, 0 < k /\ k <= p ^ m - 1 /\ l = pwl (JO p m (dv p v)) x k /\ z = ((pw (JO p m (dv p v)) x k : Nat) : Int) /\ a = dgi p m (pw (JO p m (dv p v)) x k) /\ b.length = m /\ ∀ j, 0 < j -> j < k -> pw (JO p m (dv p v)) x j ≠ 1, fun l z a b => 300 - l.length, ⟨1, by omega, by omega, rfl, by rw [R.pw_one hx], by rw [R.pw_one hx], by simp, fun j h1 h2 => by omega⟩, ?_⟩; rintro _ _ _ b ⟨k, hk0, hk, rfl, rfl, rfl, hb, hno⟩; dsimp only; refine ⟨fun hne => ?_, fun heq => ?_⟩
 .have hkq : k < p ^ m - 1 := by
   rcases Nat.lt_or_ge k (p ^ m - 1) with hc | hc
   .exact hc
   .have : k = p ^ m - 1 := by omega
    rw [this, hone] at hne; exact absurd rfl hne
  rw [ZH]; refine ⟨by omega, ?_⟩; refine Jm4 F hb (R.pw_lt x k) hx ?_; have hlt := R.pw_lt x (k + 1); refine Jfz hp hp2 (by rw [JZ]; exact Jb2 (by omega) hlt _) (by rw [JZ]; exact hq) ?_; have hvd := Jo0 (p := p) (m := m) (by omega) hlt; refine ⟨⟨k + 1, by omega, by omega, (Jpo _ _ _).symm, hvd, rfl, JZ _ _ _, fun j h1 h2 => ?_⟩, ?_⟩
  .by_cases hjk : j = k
   .subst hjk; intro e; rw [e] at hne; exact hne rfl
   .exact hno j h1 (by omega)
  .rw [List.length_append, ZH]; simp; omega
 .refine h k ⟨hk0, ?_, hno⟩ hk; have : ((pw (JO p m (dv p v)) x k : Nat) : Int) = 1 := by
   by_cases hc : ((pw (JO p m (dv p v)) x k : Nat) : Int) = 1
   .exact hc
   .exact absurd hc heq
  omega
end Go.Proofs.Ytppkigdakobebaa
namespace Go.Proofs.Ytppkigdakobebaa
theorem gb_nat (l : List Bool) (i : Nat) : gb l (i : Int) = l.getD i false := rfl
theorem Jpi (l : List Bool) (i : Nat) (x : Bool) : sb l (i : Int) x = l.set i x := rfl
theorem ZQ (l : List Bool) (i j : Nat) (x : Bool) : (l.set i x).getD j false = if i = j /\ i < l.length then x else l.getD j false := by
 rw [List.getD_eq_getElem?_getD, List.getD_eq_getElem?_getD, List.getElem?_set]; by_cases h : i = j
 .subst h; by_cases h2 : i < l.length
  .simp [h2]
  .simp [h2]
 .simp [h]
theorem Jr8 {P M : Int} {mf : LI} {p m v : Nat} (F : FV P M mf p m v) {Q : LI -> Prop}
  (h : ∀ g, Gn (p ^ m) (JO p m (dv p v)) g -> Q (pwl (JO p m (dv p v)) g (p ^ m - 1))) : Jdb ⟨P, M, mf, ((p ^ m : Nat) : Int), [], [], []⟩ Q := by
 have hq := F.q; have R := F.ring; have hq2 := R.q2; obtain ⟨g0, G0⟩ := F.gen; generalize hqq : p ^ m = q at *
 generalize hMM : JO p m (dv p v) = Mu at *
 refine ⟨⟨by show (0 : Int) <= q; omega, by show (q : Int) * 1 <= _; omega, by show (q : Int) <= _; omega⟩, ⟨by omega, by show (0 : Int) < ((((q : Nat) : Int).toNat : Nat) : Int); omega⟩, ?_⟩; refine ⟨YP (by omega), fun i x s => s.length = q /\ s.getD 0 false = true /\ (∀ j, j < i -> ¬ Gn q Mu j) /\ ∀ j, j < q -> s.getD j false = true -> ¬ Gn q Mu j, fun x s => ∃ g, Gn q Mu g /\ x = pwl Mu g (q - 1), ?_, ?_, ?_, ?_⟩
 .have h0 : ¬ Gn q Mu 0 := fun G => by
   have := G.one; rw [R.zero_pw (by omega)] at this; omega
  dsimp only; rw [show (0 : Int) = ((0 : Nat) : Int) from rfl, Jpi]; refine ⟨by rw [List.length_set, List.length_replicate]; exact Int.toNat_natCast q, ?_, fun j hj => by omega, fun j hj hs => ?_⟩
  .rw [ZQ, if_pos ⟨rfl, by rw [List.length_replicate, Int.toNat_natCast]; omega⟩]
  .rw [ZQ] at hs; by_cases hj0 : 0 = j
   .rw [<- hj0]; exact h0
   .rw [if_neg (fun h => hj0 h.1), List.getD_eq_getElem?_getD, List.getElem?_replicate] at hs; split at hs <;> exact absurd hs (by decide)
 .rintro i hi x s ⟨hs, hs0, hno, hsn⟩; dsimp only at hi ⊢; rw [Int.toNat_natCast] at hi; rw [gb_nat]; refine ⟨⟨by omega, by rw [Int.toNat_natCast]; omega⟩, fun hb => ⟨hs, hs0, fun j hj => ?_, hsn⟩, fun hb => ?_⟩
  .by_cases hji : j = i
   .subst hji; exact hsn j hi hb
   .exact hno j (by omega)
  .have hi0 : 0 < i := by
    rcases Nat.eq_zero_or_pos i with h0 | h0
    .subst h0; rw [hs0] at hb; exact absurd hb (by decide)
    .exact h0
   refine Jo7 F hi0 (by rw [hqq]; exact hi) fun n O hn => ?_; rw [hMM] at O ⊢; rw [hqq] at hn; rw [ZH]; refine ⟨Jw (by omega) (by omega), fun he => ?_, fun hne => ?_⟩
   .have hnq : n = q - 1 := by omega
    subst hnq; exact ⟨i, ⟨hi, O.one, O.least⟩, rfl⟩
   .have hnq : n < q - 1 := by omega
    have hnG : ∀ k, ¬ Gn q Mu (pw Mu i k) := fun k G => by
     have h1 : pw Mu (pw Mu i k) n = 1 := by rw [R.pw_pw hi, Nat.mul_comm, <- R.pw_pw hi, O.one, R.one_pw]
     exact G.no n O.pos hnq h1
    refine ⟨fun s' z => ∃ k : Nat, z = k /\ k <= n /\ s'.length = q /\ s'.getD 0 false = true /\ ∀ j, j < q -> s'.getD j false = true -> ¬ Gn q Mu j, fun s' z => (n - z).toNat, ⟨0, rfl, Nat.zero_le _, hs, hs0, hsn⟩, ?_⟩; rintro s' _ ⟨k, rfl, hk, hs', hs0', hsn'⟩; dsimp only; rw [JG]; refine ⟨fun hlt => ?_, fun hge => ⟨hs', hs0', fun j hj => ?_, hsn'⟩⟩
    .rw [Jds (by omega), Jpi]; have hlt2 := R.pw_lt i k; refine ⟨⟨by omega, by omega⟩, ⟨by omega, by rw [Int.toNat_natCast]; omega⟩, Jw (by omega) (by omega), ⟨k + 1, by push_cast; rfl, by omega, by rw [List.length_set, hs'], ?_, fun j hj hj2 => ?_⟩, by omega⟩
     .rw [ZQ]; split
      .rfl
      .exact hs0'
     .rw [ZQ] at hj2; by_cases hjk : pw Mu i k = j
      .rw [<- hjk]; exact hnG k
      .rw [if_neg (fun h => hjk h.1)] at hj2; exact hsn' j hj hj2
    .by_cases hji : j = i
     .subst hji; have := hnG 1
      rwa [R.pw_one hi] at this
     .exact hno j (by omega)
 .rintro x s ⟨hs, hs0, hno, hsn⟩; have := G0.lt; exact absurd G0 (hno g0 (by show g0 < ((q : Nat) : Int).toNat; rw [Int.toNat_natCast]; exact this))
 .rintro x s ⟨g, G, rfl⟩; exact h g G
structure GFk (F : GFv) (p m v g : Nat) : Prop where
  fv : FV F.P F.M F.mod p m v
  q : F.q = ((p ^ m : Nat) : Int)
  G : Gn (p ^ m) (JO p m (dv p v)) g
  el : F.exp.length = 2 * (p ^ m - 1)
  ev : ∀ k, k < 2 * (p ^ m - 1) -> vo F.exp k = ((pw (JO p m (dv p v)) g k : Nat) : Int)
  ll : F.log.length = p ^ m
  l0 : vo F.log 0 = -1
  lv : ∀ k, k < p ^ m - 1 -> vo F.log (pw (JO p m (dv p v)) g k) = (k : Int)
  al : F.above.length = p ^ m - 1
  av : ∀ k, k < p ^ m - 1 -> vo F.above k = vo F.log (Qp p m (pw (JO p m (dv p v)) g k) 1)
theorem Jm7 {p m x : Nat} (hp : 2 <= p) (hm : 0 < m) (hx : x < p ^ m) : (if x % p = p - 1 then x - x % p else x + 1) = Qp p m x 1 := by
 have hmd := Nat.mod_add_div x p; have hlt := Nat.mod_lt x (show 0 < p by omega); obtain ⟨n, rfl⟩ : ∃ n, m = n + 1 := ⟨m - 1, by omega⟩
 have hxd : x / p < p ^ n := by rw [Nat.div_lt_iff_lt_mul (by omega), <- Nat.pow_succ]; exact hx
 generalize hA : x / p = a at *
 generalize hR : x % p = r at *
 have key : ∀ y s, y = s + p * a -> s < p -> s = (r + 1) % p -> y = Qp p (n + 1) x 1 := fun y s hy hs hsr => by
  have hyd : y / p = a := by rw [hy, Nat.add_mul_div_left _ _ (by omega), Nat.div_eq_of_lt hs, Nat.zero_add]
  have hym : y % p = s := by rw [hy, Nat.add_mul_mod_self_left, Nat.mod_eq_of_lt hs]
  have hyl : y < p ^ (n + 1) := by
   have h1 : p * (a + 1) <= p * p ^ n := Nat.mul_le_mul_left p hxd; rw [Nat.pow_succ', hy]; rw [Nat.mul_add, Nat.mul_one] at h1; omega
  refine (nm_eq (by omega) hyl fun i hi => ?_).symm; cases i with
  | zero =>
   simp only [JV]; rw [YJ, YJ, YJ, hym, hR, Nat.mod_eq_of_lt (show 1 < p by omega), hsr]; push_cast; rfl
  | succ i =>
   simp only [JV]; rw [Ze, Ze, Ze, hyd, hA, Nat.div_eq_of_lt (show 1 < p by omega), Jed]; simp only [vz]; rw [Int.add_zero, Jaf]
 by_cases hc : r = p - 1
 .rw [if_pos hc]; refine key (x - r) 0 (by omega) (by omega) ?_; rw [hc, show p - 1 + 1 = p by omega, Nat.mod_self]
 .rw [if_neg hc]; exact key (x + 1) (r + 1) (by omega) (by omega) (Nat.mod_eq_of_lt (by omega)).symm
theorem vo_app {a b : LI} {i : Nat} : vo (a ++ b) i = if i < a.length then vo a i else vo b (i - a.length) := by
 unfold vo; rw [List.getD_eq_getElem?_getD]; split
 .rename_i h
  rw [List.getElem?_append_left h, List.getD_eq_getElem?_getD]
 .rename_i h
  rw [List.getElem?_append_right (by omega), List.getD_eq_getElem?_getD]
theorem v_New {P M : Int} {mf : LI} {Q : Option GFv × Int -> Prop} (hno : ¬ Qh P M mf -> Q (none, 1)) (h : ∀ (F : GFv) (p m v g : Nat), GFk F p m v g -> F.P = P -> F.M = M -> F.mod = mf -> Q (some F, 0)) : Jfn P M mf Q := by
 refine Jsa ?_; by_cases hV : Qh P M mf
 .rw [Ja3 hV]; refine ⟨fun h1 => absurd rfl h1, fun _ => ?_⟩; obtain ⟨p, m, v, F⟩ := hV; obtain rfl := F.eP; obtain rfl := F.eM; have hp := F.p2; have hp2 := F.p256; have hm0 := F.m0; have hm8 := F.m8; have hq := F.q; have R := F.ring; have hq2 := R.q2; have hml : mf.length <= 1000000 := by
   by_cases hm1 : m = 1
   .rw [(F.m1 hm1).1]; simp
   .rw [F.m2 hm1, JZ]; omega
  have hJ : Y4 p m mf (fun q => match q with | (r27, r28, x29) => Zg p m mf (fun r34 => r27 = p /\ r28 = m /\ x29 = mf /\ r34 = ((p ^ m : Nat) : Int))) := Y8 hml (Jfy hp hp2 fun r hr _ => by
   rw [Int.toNat_natCast] at hr; exact ⟨rfl, rfl, rfl, hr hq⟩)
  refine ⟨fun a b c d => a = p /\ b = m /\ c = mf /\ d = ((p ^ m : Nat) : Int), hJ, ?_⟩; rintro _ _ _ _ ⟨rfl, rfl, rfl, rfl⟩; refine Jr8 F fun g G => ?_; have hg := G.lt; generalize hqq : p ^ m = q at *
  generalize hMM : JO p m (dv p v) = Mu at *
  rw [ZH]; have hql : (List.replicate ((q : Nat) : Int).toNat (0 : Int)).length = q := by rw [List.length_replicate, Int.toNat_natCast]
  rw [Int.toNat_natCast, Int.toNat_natCast]; rw [Int.toNat_natCast] at hql; refine ⟨⟨by omega, by omega, by omega⟩, ⟨by omega, by omega, by omega⟩, ⟨by omega, by omega⟩, ?_⟩; refine ⟨fun l z => ∃ k : Nat, z = k /\ k <= q - 1 /\ l.length = q /\ vo l 0 = -1 /\ ∀ t, t < k -> vo l (pw Mu g t) = (t : Int), fun l z => (q - z).toNat, ⟨0, rfl, Nat.zero_le _, ?_, ?_, fun t ht => by omega⟩, ?_⟩
  .rw [show (0 : Int) = ((0 : Nat) : Int) from rfl, Qi, List.length_set]; exact hql
  .rw [show si (List.replicate q (0 : Int)) 0 (-1) = (List.replicate q (0 : Int)).set 0 (-1) from rfl, Qa, if_pos ⟨rfl, by rw [hql]; omega⟩]
  .rintro l _ ⟨k, rfl, hk, hl, hl0, hlv⟩; dsimp only; rw [JG]; refine ⟨fun hlt => ?_, fun hge => ?_⟩
   .rw [Jds (by omega), Qi]; have hlt2 := R.pw_lt g k; refine ⟨⟨by omega, by omega⟩, ⟨by omega, by omega⟩, Jw (by omega) (by omega), ⟨k + 1, by push_cast; rfl, by omega, by rw [List.length_set, hl], ?_, fun t ht => ?_⟩, by omega⟩
    .rw [Qa, if_neg (fun h => G.ne0 R k h.1)]; exact hl0
    .rw [Qa]; by_cases htk : t = k
     .subst htk; rw [if_pos ⟨rfl, by rw [hl]; exact hlt2⟩]
     .rw [if_neg (fun h => G.inj R (show t < k by omega) (by omega) h.1.symm)]; exact hlv t (by omega)
   .have hkq : k = q - 1 := by omega
    subst hkq; refine ⟨⟨by omega, by omega, by omega⟩, fun a z => ∃ k : Nat, z = k /\ k <= q - 1 /\ a.length = q - 1 /\ ∀ t, t < k -> vo a t = vo l (Qp p m (pw Mu g t) 1), fun a z => (q - z).toNat, ⟨0, rfl, Nat.zero_le _, by simp, fun t ht => by omega⟩, ?_⟩; rintro a _ ⟨k, rfl, hk, hal, hav⟩; dsimp only; rw [JG]; refine ⟨fun hlt => ?_, fun hge => ?_⟩
    .rw [Jds (by omega)]; have hlt2 := R.pw_lt g k; have hsl := R.Al (pw Mu g k) 1; have hsf := Jm7 hp hm0 (x := pw Mu g k) (by rw [hqq]; exact hlt2); refine ⟨⟨by omega, by omega⟩, _, Jhi hp hp2 (by omega) rfl, ?_⟩; rw [hsf, JG, Qi]; refine ⟨⟨by omega, by omega⟩, ⟨by omega, by omega⟩, Jw (by omega) (by omega), ⟨k + 1, by push_cast; rfl, by omega, by rw [List.length_set, hal], fun t ht => ?_⟩, by omega⟩; rw [Qa]; by_cases htk : k = t
     .subst htk; rw [if_pos ⟨rfl, by omega⟩]
     .rw [if_neg (fun h => htk h.1)]; exact hav t (by omega)
    .have hkq : k = q - 1 := by omega
     subst hkq; subst hMM; subst hqq; refine h _ p m v g ⟨F, rfl, G, ?_, fun k hk2 => ?_, hl, hl0, hlv, hal, hav⟩ rfl rfl rfl
     .simp only [List.length_append, ZH]; omega
     .show vo (pwl _ g _ ++ pwl _ g _) k = _; rw [vo_app, ZH]; by_cases hkl : k < p ^ m - 1
      .rw [if_pos hkl, Jds hkl]
      .rw [if_neg hkl, Jds (by omega)]; have := G.per R (k - (p ^ m - 1)) 1; rw [Nat.mul_one, show k - (p ^ m - 1) + (p ^ m - 1) = k by omega] at this; rw [this]
 .rw [QX hV]; exact ⟨fun _ => hno hV, fun h1 => absurd (show (1 : Int) ≠ 0 by decide) h1⟩
end Go.Proofs.Ytppkigdakobebaa
namespace Go.Proofs.Ytppkigdakobebaa
def inE (q : Nat) (x : Int) : Nat := if 0 <= x /\ x < q then x.toNat else 0
theorem Q3 {q : Nat} (hq : 0 < q) (x : Int) : inE q x < q := by unfold inE; split <;> omega
theorem Yh {q x : Nat} (h : x < q) : inE q (x : Int) = x := by unfold inE; rw [if_pos (by omega)]; rfl
section
variable {P M : Int} {mf : LI} {p m v : Nat}
theorem FV.ord (F : FV P M mf p m v) : Q1 P M = ((p ^ m : Nat) : Int) := by
 rw [F.eP, F.eM, Q1, if_pos]
 .simp
 .have := F.p2; have := F.m0; have := F.q; exact ⟨by omega, by omega, by simpa using this⟩
theorem FV.i64 (F : FV P M mf p m v) : I64 P := by
 have := F.p256; rw [F.eP]; exact Jw (by omega) (by omega)
theorem Jdk (F : FV P M mf p m v) {x : Int} {Q : Bool -> Prop} (h : Q (decide (0 <= x /\ x < ((p ^ m : Nat) : Int)))) : Jck P M mf x Q := by
 refine ⟨fun h0 => Yp ?_, fun h0 => ?_⟩
 .rw [F.ord]; simpa [h0] using h
 .simpa [h0] using h
theorem v_rIn (F : FV P M mf p m v) {x : Int} {Q : Int -> Prop} (h : Q ((inE (p ^ m) x : Nat) : Int)) : Jem P M mf x Q := by
 refine Jdk F ⟨fun hb => ?_, fun hb => ?_⟩
 .have hb := of_decide_eq_true hb; unfold inE at h; rw [if_pos hb] at h
  rwa [Int.toNat_of_nonneg hb.1] at h
 .have hb := of_decide_eq_false hb; unfold inE at h; rw [if_neg hb] at h; exact h
theorem YT (F : FV P M mf p m v) {x : Int} {Q : LI -> Prop} (h : Q (dgi p m (inE (p ^ m) x))) : QP P M mf x Q := by
 have hp := F.p2; have hq := F.q; have hm8 := F.m8; have hlt := Q3 F.ring.pos x; refine ⟨_, v_rIn F rfl, _, ?_, h⟩; rw [F.eP, F.eM]; exact Je7 (by omega) (by omega) (by omega) rfl
theorem Jjo (F : FV P M mf p m v) {l : LI} {u : Vec} {Q : Int -> Prop} (hl : l.length = m) (hv : ∀ i, i < m -> vo l i = u i % (p : Int)) (h : Q ((nm p m u : Nat) : Int)) : YA P M mf l Q := by
 have hp := F.p2; rw [Ja4 (by omega) hl hv, F.eP]; have hlt := Z3 (p := p) (m := m) (by omega) u; refine Jo4 hp F.p256 (by rw [JZ]; have := F.m8; omega) (by rw [JZ]; exact Jb2 (by omega) hlt _) (by rw [JZ]; exact F.q) ?_; rw [Jo0 (by omega) hlt]; exact h
theorem Jjp (F : FV P M mf p m v) {x y : Int} {Q : Int -> Prop} (h : Q ((Qp p m (inE (p ^ m) x) (inE (p ^ m) y) : Nat) : Int)) : ZC P M mf x y Q := by
 have hp := F.p2; have hp2 := F.p256; have hm8 := F.m8; have hx := Q3 F.ring.pos x; have hy := Q3 F.ring.pos y; refine YT F (YT F ?_); generalize inE (p ^ m) x = a at *
 generalize inE (p ^ m) y = b at *
 have hla := JZ p m a; have hlb := JZ p m b; rw [hla]; refine ⟨fun l z => ∃ k : Nat, z = k /\ k <= m /\ l.length = m /\ ∀ i, i < m -> vo l i = if i < k then (JV (dv p a) (dv p b)) i % (p : Int) else dv p a i, fun l z => (m - z).toNat, ⟨0, rfl, Nat.zero_le _, hla, fun i hi => by rw [if_neg (by omega), QM hi]⟩, ?_⟩; rintro l _ ⟨k, rfl, hk, hl, hv⟩; dsimp only; rw [JG, JG, Qi]; refine ⟨fun hlt => ?_, fun hge => Jjo F hl (fun i hi => by rw [hv i hi, if_pos (by omega)]) h⟩; rw [hv k (by omega), if_neg (by omega), QM (by omega)]; have c1 := Jee (p := p) (by omega) a k; have c2 := Jee (p := p) (by omega) b k; refine ⟨⟨by omega, by omega⟩, ⟨by omega, by omega⟩, Jw (by omega) (by omega), by rw [F.eP]; omega, ⟨by omega, by omega⟩, Jw (by omega) (by omega), ⟨k + 1, by push_cast; rfl, by omega, by rw [List.length_set, hl], fun i hi => ?_⟩, by omega⟩; rw [Qa]; by_cases hki : k = i
 .subst hki; rw [if_pos ⟨rfl, by omega⟩, if_pos (by omega), F.eP, Int.tmod_eq_emod_of_nonneg (by omega)]; rfl
 .rw [if_neg (fun h => hki h.1), hv i hi]; by_cases hik : i < k
  .rw [if_pos hik, if_pos (by omega)]
  .rw [if_neg hik, if_neg (by omega)]
theorem Jo5 (F : FV P M mf p m v) {x : Int} {Q : Int -> Prop} (h : Q ((Jcx p m (inE (p ^ m) x) : Nat) : Int)) : Jb9 P M mf x Q := by
 have hp := F.p2; have hp2 := F.p256; have hm8 := F.m8; have hx := Q3 F.ring.pos x; refine YT F ?_; generalize inE (p ^ m) x = a at *
 have hla := JZ p m a; rw [hla]; refine ⟨fun l z => ∃ k : Nat, z = k /\ k <= m /\ l.length = m /\ ∀ i, i < m -> vo l i = if i < k then (vsm (-1) (dv p a)) i % (p : Int) else dv p a i, fun l z => (m - z).toNat, ⟨0, rfl, Nat.zero_le _, hla, fun i hi => by rw [if_neg (by omega), QM hi]⟩, ?_⟩; rintro l _ ⟨k, rfl, hk, hl, hv⟩; dsimp only; rw [JG, Qi]; refine ⟨fun hlt => ?_, fun hge => Jjo F hl (fun i hi => by rw [hv i hi, if_pos (by omega)]) h⟩; rw [hv k (by omega), if_neg (by omega)]; have c1 := Jee (p := p) (by omega) a k; rw [F.eP]; refine ⟨⟨by omega, by omega⟩, Jw (by omega) (by omega), by omega, ⟨by omega, by omega⟩, Jw (by omega) (by omega), ⟨k + 1, by push_cast; rfl, by omega, by rw [List.length_set, hl], fun i hi => ?_⟩, by omega⟩; rw [Qa]; by_cases hki : k = i
 .subst hki; rw [if_pos ⟨rfl, by omega⟩, if_pos (by omega), Int.tmod_eq_emod_of_nonneg (by omega)]; show _ = (-1 * dv p a k) % (p : Int); rw [show (p : Int) - dv p a k = -1 * dv p a k + p * 1 by omega, Int.add_mul_emod_self_left]
 .rw [if_neg (fun h => hki h.1), hv i hi]; by_cases hik : i < k
  .rw [if_pos hik, if_pos (by omega)]
  .rw [if_neg hik, if_neg (by omega)]
end
theorem Jf7 {p m : Nat} {c w w' u : Vec} {s : Int} {k : Nat} (hk : w' k % (p : Int) = (w k + s) % (p : Int)) (ho : ∀ i, i ≠ k -> w' i = w i) : ∀ n, vcg p (opr m c w' n u) (JV (opr m c w n u) (if k < n then vsm s (tXn m c k u) else vz))
  | 0 => fun i => by simp [opr, JV, vz]
  | n + 1 => fun i => by
    have ih := Jf7 hk ho (m := m) (c := c) (u := u) n i
    show (opr m c w' n u i + w' n * tXn m c n u i) % (p : Int) = ((opr m c w n u i + w n * tXn m c n u i) + (if k < n + 1 then vsm s (tXn m c k u) else vz) i) % (p : Int)
    rcases Nat.lt_trichotomy k n with h | h | h
    . rw [if_pos (by omega)]
      rw [if_pos h] at ih
      rw [ho n (by omega)]
      have := Jb6 ih (rfl : (w n * tXn m c n u i) % (p : Int) = _)
      rw [this]
      congr 1
      show opr m c w n u i + (vsm s (tXn m c k u)) i + _ = _
      omega
    . subst h
      rw [if_pos (by omega)]
      rw [if_neg (by omega)] at ih
      have := Jb6 ih (Jbp hk (rfl : (tXn m c k u i) % (p : Int) = _))
      rw [this]
      congr 1
      show opr m c w k u i + 0 + (w k + s) * tXn m c k u i = _ + s * tXn m c k u i
      rw [Int.add_mul]; omega
    . rw [if_neg (by omega)]
      rw [if_neg (by omega)] at ih
      rw [ho n (by omega)]
      have := Jb6 ih (rfl : (w n * tXn m c n u i) % (p : Int) = _)
      rw [this]
      congr 1
      show opr m c w n u i + 0 + _ = _ + 0
      omega
theorem Xm {m : Nat} {c : Vec} (hm : 0 < m) : tXn m c m e0 = vsm (-1) (opr m c c m e0) := by
 obtain ⟨n, rfl⟩ : ∃ n, m = n + 1 := ⟨m - 1, by omega⟩
 show tX (n + 1) c (tXn (n + 1) c n e0) = _; rw [Jjr (by omega)]; funext i; simp only [vsm]; rw [Jf8 (Nat.le_refl _)]; simp only [tX, vei]; by_cases hi : i < n + 1
 .rw [if_pos hi, if_pos hi]; have e1 : (if i = 0 then (0 : Int) else if i - 1 = n then 1 else 0) = 0 := by
   split
   .rfl
   .rw [if_neg (by omega)]
  rw [e1, show n + 1 - 1 = n by omega, if_pos rfl]; omega
 .rw [if_neg hi, if_neg hi]; rfl
section
variable {P M : Int} {mf : LI} {p m v : Nat}
theorem Jo6 (F : FV P M mf p m v) {x y : Int} {Q : Int -> Prop} (h : Q ((JO p m (dv p v) (inE (p ^ m) x) (inE (p ^ m) y) : Nat) : Int)) : YC P M mf x y Q := by
 have hp := F.p2; have hp2 := F.p256; have hm0 := F.m0; have hm8 := F.m8; have hx := Q3 F.ring.pos x; have hy := Q3 F.ring.pos y; refine YT F (YT F ?_); obtain rfl := F.eP; obtain rfl := F.eM; generalize inE (p ^ m) x = a at *
 generalize inE (p ^ m) y = b at *
 rw [Jby hx hy] at h; have hla := JZ p m a; have hlb := JZ p m b; have hva := YR hx; have hvb := YR hy; have hsa := QS hx; have hsb := QS hy; have hN : (2 * (m : Int) - 1).toNat = 2 * m - 1 := by omega
 have e2 : (2 * (m : Int) - 1) = ((2 * m - 1 : Nat) : Int) := by omega
 rw [e2]; generalize hNN : 2 * m - 1 = N at *
 rw [Int.toNat_natCast]; have hself := YV (c := dv p v) hsb; refine ⟨Jw (by omega) (by omega), YP (by omega), ⟨by omega, by omega, by omega⟩, ?_⟩; refine ⟨fun l z => ∃ k : Nat, z = k /\ k <= m /\ l.length = N /\ Cn p N (vo l) /\ vcg p (opr m (dv p v) (vo l) N e0) (opr m (dv p v) (dv p a) k (dv p b)), fun l z => (m - z).toNat, ⟨0, rfl, Nat.zero_le _, by simp, fun i hi => by rw [Jdi]; omega, ?_⟩, ?_⟩
 .have : vo (List.replicate N (0 : Int)) = vz := by funext i; rw [Jdi]; rfl
  rw [this]; have h0 : ∀ n, opr m (dv p v) vz n e0 = vz := fun n => by
   induction n with
   | zero => rfl
   | succ n ih => show JV (opr m (dv p v) vz n e0) (vsm (vz n) _) = vz; rw [ih]; funext i; simp [JV, vsm, vz]
  rw [h0]; exact vcg.refl _
 rintro l _ ⟨i, rfl, hi, hl, hcn, hE⟩; dsimp only; refine ⟨fun hlt => ?_, fun hge => ?_⟩
 .refine ⟨fun r z => ∃ j : Nat, z = j /\ j <= m /\ r.length = N /\ Cn p N (vo r) /\ vcg p (opr m (dv p v) (vo r) N e0) (JV (opr m (dv p v) (dv p a) i (dv p b)) (vsm (dv p a i) (tXn m (dv p v) i (opr m (dv p v) (dv p b) j e0)))), fun r z => (m - z).toNat, ⟨0, rfl, Nat.zero_le _, hl, hcn, ?_⟩, ?_⟩
  .show vcg p _ (JV _ (vsm _ (tXn m (dv p v) i vz))); rw [Jhn, Jll, Z6]; exact hE
  rintro r _ ⟨j, rfl, hj, hr, hcr, hEr⟩; dsimp only; rw [show (i : Int) + (j : Int) = ((i + j : Nat) : Int) by push_cast; rfl, JG, JG, JG, Qi, hva, hvb]; refine ⟨fun hltj => ?_, fun hgej => ?_⟩
  .have c1 := Jee (p := p) (by omega) a i; have c2 := Jee (p := p) (by omega) b j; have c3 := hcr (i + j) (by omega); have c4 := Zx (a := dv p a i) (b := dv p b j) hp2 ⟨c1.1, by omega⟩ ⟨c2.1, by omega⟩; refine ⟨YP (by omega), YP (by omega), ⟨by omega, by omega⟩, ⟨by omega, by omega⟩, ⟨by omega, by omega⟩, Jw (by omega) (by omega), Jw (by omega) (by omega), by omega, ⟨by omega, by omega⟩, Jw (by omega) (by omega), ⟨j + 1, by push_cast; rfl, by omega, by rw [List.length_set, hr], fun t ht => ?_, ?_⟩, by omega⟩
   .rw [Qa]; split
    .rw [Int.tmod_eq_emod_of_nonneg (by omega)]; exact ⟨Int.emod_nonneg _ (by omega), Int.emod_lt_of_pos _ (by omega)⟩
    .exact hcr t ht
   .have hup := Jf7 (p := p) (m := m) (c := dv p v) (w := vo r) (w' := vo (r.set (i + j) ((vo r (i + j) + dv p a i * dv p b j).tmod p))) (u := e0) (s := dv p a i * dv p b j) (k := i + j) (by
     rw [Qa, if_pos ⟨rfl, by omega⟩, Int.tmod_eq_emod_of_nonneg (by omega), Int.emod_emod]) (fun t ht => by rw [Qa, if_neg (fun h => ht h.1.symm)]) N
    rw [if_pos (by omega)] at hup; refine hup.trans ((hEr.add (vcg.refl _)).trans ?_); show vcg p _ (JV _ (vsm _ (tXn m (dv p v) i (JV (opr m (dv p v) (dv p b) j e0) (vsm (dv p b j) (tXn m (dv p v) j e0)))))); rw [Jaq, Jbh, Jc4, Jc0, Jfv, <- Y7]; exact vcg.refl _
  .have hjm : j = m := by omega
   subst hjm; rw [hself] at hEr; exact ⟨Jw (by omega) (by omega), ⟨i + 1, by push_cast; rfl, by omega, hr, hcr, hEr⟩, by omega⟩
 .have him : i = m := by omega
  subst him; have hE2 : vcg p (opr i (dv p v) (vo l) N e0) (QZ i (dv p v) (dv p b) (dv p a)) := hE; refine ⟨Jw (by omega) (by omega), Jw (by omega) (by omega), ?_⟩; refine ⟨fun r z => ∃ t : Nat, z = (t : Int) - 1 /\ i <= t /\ t <= N /\ r.length = N /\ Cn p N (vo r) /\ vcg p (opr i (dv p v) (vo r) t e0) (QZ i (dv p v) (dv p b) (dv p a)), fun r z => (z + 1).toNat, ⟨N, by omega, by omega, by omega, hl, hcn, hE2⟩, ?_⟩; rintro r _ ⟨t, rfl, hit, htN, hr, hcr, hEr⟩; dsimp only; refine ⟨fun hle => ?_, fun hgt => ?_⟩
  .obtain ⟨k, rfl⟩ : ∃ k, t = k + 1 := ⟨t - 1, by omega⟩
   have ek : ((k + 1 : Nat) : Int) - 1 = (k : Int) := by omega
   rw [ek] at hle ⊢; have hm1 : i ≠ 1 := by omega
   have hmf : vo mf = dv p v := F.vo; have hml : mf.length = i := (F.cn hm1).1; have hwk := hcr k (by omega); refine ⟨fun s z => ∃ j : Nat, z = j /\ j <= i /\ s.length = N /\ Cn p N (vo s) /\ vo s k = vo r k /\ vcg p (opr i (dv p v) (vo s) k e0) (JV (opr i (dv p v) (vo r) k e0) (vsm (-(vo r k)) (tXn i (dv p v) (k - i) (opr i (dv p v) (dv p v) j e0)))), fun s z => (i - z).toNat, ⟨0, rfl, Nat.zero_le _, hr, hcr, rfl, ?_⟩, ?_⟩
   .show vcg p _ (JV _ (vsm _ (tXn i (dv p v) (k - i) vz))); rw [Jhn, Jll, Z6]; exact vcg.refl _
   rintro s _ ⟨j, rfl, hj, hs, hcs, hsk, hEs⟩; dsimp only; rw [show (k : Int) - (i : Int) + (j : Int) = ((k - i + j : Nat) : Int) by omega, JG, JG, JG, Qi, hmf, hsk]; refine ⟨fun hltj => ?_, fun hgej => ?_⟩
   .have c1 := Jee (p := p) (by omega) v j; have c3 := hcs (k - i + j) (by omega); have c4 := Zx (a := (p : Int) - vo r k) (b := dv p v j) hp2 ⟨by omega, by omega⟩ ⟨c1.1, by omega⟩; refine ⟨Jw (by omega) (by omega), YP (by omega), Jw (by omega) (by omega), YP (by omega), ⟨by omega, by omega⟩, ⟨by omega, by omega⟩, Jw (by omega) (by omega), ⟨by omega, by omega⟩, Jw (by omega) (by omega), Jw (by omega) (by omega), by omega, ⟨by omega, by omega⟩, Jw (by omega) (by omega), ⟨j + 1, by push_cast; rfl, by omega, by rw [List.length_set, hs], fun u hu => ?_, ?_, ?_⟩, by omega⟩
    .rw [Qa]; split
     .rw [Int.tmod_eq_emod_of_nonneg (by omega)]; exact ⟨Int.emod_nonneg _ (by omega), Int.emod_lt_of_pos _ (by omega)⟩
     .exact hcs u hu
    .rw [Qa, if_neg (by omega)]; exact hsk
    .have hup := Jf7 (p := p) (m := i) (c := dv p v) (w := vo s) (w' := vo (s.set (k - i + j) ((vo s (k - i + j) + ((p : Int) - vo r k) * dv p v j).tmod p))) (u := e0) (s := -(vo r k) * dv p v j) (k := k - i + j) (by
      rw [Qa, if_pos ⟨rfl, by omega⟩, Jf3 (by omega) c3.1 (by omega) c1.1, Int.emod_emod, Int.neg_mul]; rfl) (fun t ht => by rw [Qa, if_neg (fun h => ht h.1.symm)]) k
     rw [if_pos (by omega)] at hup; refine hup.trans ((hEs.add (vcg.refl _)).trans ?_); show vcg p _ (JV _ (vsm _ (tXn i (dv p v) (k - i) (JV (opr i (dv p v) (dv p v) j e0) (vsm (dv p v j) (tXn i (dv p v) j e0)))))); rw [Jaq, Jbh, Jc4, Jc0, Jfv, <- Y7]; exact vcg.refl _
   .have hji : j = i := by omega
    subst hji; refine ⟨Jw (by omega) (by omega), ⟨k, by omega, by omega, by omega, hs, hcs, ?_⟩, by omega⟩; refine hEs.trans (vcg.trans ?_ hEr); show vcg p _ (JV (opr j (dv p v) (vo r) k e0) (vsm (vo r k) (tXn j (dv p v) k e0))); have e1 : tXn j (dv p v) k e0 = tXn j (dv p v) (k - j) (tXn j (dv p v) j e0) := by rw [Jc4, show k - j + j = k by omega]
    rw [e1, Xm hm0, Jbh, Jfv, show vo r k * -1 = -(vo r k) by omega]; exact vcg.refl _
  .have hti : t = i := by omega
   subst hti; refine ⟨⟨by omega, by omega⟩, _, Jjo F (u := opr t (dv p v) (vo r) t e0) ?_ (fun j hj => ?_) rfl, ?_⟩
   .rw [List.length_take, Int.toNat_natCast, hr]; omega
   .rw [Int.toNat_natCast, Jf0 hj, Jf8 (Nat.le_refl _), if_pos hj]; have := hcr j (by omega); exact (Int.emod_eq_of_lt this.1 this.2).symm
   .rw [YQ hEr]; exact h
end
end Go.Proofs.Ytppkigdakobebaa
namespace Go.Proofs.Ytppkigdakobebaa
section
variable {F : GFv} {p m v g : Nat}
theorem v_Is {x : Int} {Q : Bool -> Prop} (K : GFk F p m v g) (h : Q (decide (0 <= x /\ x < ((p ^ m : Nat) : Int)))) : V_Is F x Q := by
 refine ⟨fun h0 => ?_, fun h0 => ?_⟩
 .rw [K.q]; simpa [h0] using h
 .simpa [h0] using h
theorem Jdm {x : Int} {Q : Bool -> Prop} (K : GFk F p m v g) (h : Q (decide (inE (p ^ m) x ≠ 0))) : Y0 F x Q := by
 unfold inE at h; refine ⟨fun h0 => ?_, fun h0 => ?_⟩
 .rw [K.q]; by_cases hx : x < ((p ^ m : Nat) : Int)
  .rw [if_pos ⟨by omega, hx⟩] at h; rw [decide_eq_true hx]; rw [decide_eq_true (by omega)] at h; exact h
  .rw [if_neg (by omega)] at h; rw [decide_eq_false hx]; exact h
 .by_cases hx : 0 <= x /\ x < ((p ^ m : Nat) : Int)
  .rw [if_pos hx] at h; rw [decide_eq_false (by omega)] at h; exact h
  .rw [if_neg hx] at h; exact h
theorem Je8 {x : Int} {Q : Int -> Prop} (K : GFk F p m v g) (h : Q ((inE (p ^ m) x : Nat) : Int)) : Y1 F x Q := by
 refine v_Is K ⟨fun hb => ?_, fun hb => ?_⟩
 .have hb := of_decide_eq_true hb; unfold inE at h; rw [if_pos hb, Int.toNat_of_nonneg hb.1] at h; exact h
 .have hb := of_decide_eq_false hb; unfold inE at h; rw [if_neg hb] at h; exact h
theorem Jqb {q : Nat} {x : Int} (h : inE q x ≠ 0) : x = ((inE q x : Nat) : Int) := by
 unfold inE at h ⊢; split
 .rename_i hc; exact (Int.toNat_of_nonneg hc.1).symm
 .rename_i hc; rw [if_neg hc] at h; exact absurd rfl h
theorem GFk.lg (K : GFk F p m v g) {x : Int} (h : inE (p ^ m) x ≠ 0) : ∃ a : Nat, a < p ^ m - 1 /\ inE (p ^ m) x = pw (JO p m (dv p v)) g a /\ gi F.log x = (a : Int) /\ (0 <= x /\ x < (F.log.length : Nat)) := by
  have R := K.fv.ring
  have hlt := Q3 R.pos x
  obtain ⟨a, ha, he⟩ := K.G.surj R (Nat.pos_of_ne_zero h) hlt
  have hx := Jqb h
  refine ⟨a, ha, he.symm, ?_, ?_⟩
  . rw [hx, <- he, JG, K.lv a ha]
  . rw [K.ll]; omega
theorem v_Mul {x y : Int} {Q : Int -> Prop} (K : GFk F p m v g) (h : Q ((JO p m (dv p v) (inE (p ^ m) x) (inE (p ^ m) y) : Nat) : Int)) : Jcl F x y Q := by
 have R := K.fv.ring; have hq := K.fv.q; have hx := Q3 R.pos x; have hy := Q3 R.pos y; refine Jdm K ⟨fun hb => ?_, fun hb => Jdm K ⟨fun hb2 => ?_, fun hb2 => ?_⟩⟩
 .have h0 : inE (p ^ m) x = 0 := by simpa using hb
  rw [h0, R.Z0 hy] at h; exact h
 .have h0 : inE (p ^ m) y = 0 := by simpa using hb2
  rw [h0, R.M0 hx] at h; exact h
 .obtain ⟨a, ha, ea, la, bx⟩ := K.lg (x := x) (by simpa using hb); obtain ⟨b, hb', eb, lb, by_⟩ := K.lg (x := y) (by simpa using hb2); rw [la, lb]; have hel := K.el; refine ⟨bx, by_, Jw (by omega) (by omega), ⟨by omega, by omega⟩, ?_⟩; rw [show (a : Int) + (b : Int) = ((a + b : Nat) : Int) by push_cast; rfl, JG, K.ev _ (by omega), R.pw_add K.G.lt, <- ea, <- eb]; exact h
theorem mul_neg {p m : Nat} {c : Vec} {x : Nat} (hp : 2 <= p) (hm : 0 < m) (hx : x < p ^ m) : JO p m c (p - 1) x = Jcx p m x := by
 unfold JO Jcx; have hd : vcg p (dv p (p - 1)) (vsm (-1) e0) := fun i => by
  cases i with
  | zero =>
   rw [YJ, Nat.mod_eq_of_lt (by omega)]; show ((p - 1 : Nat) : Int) % p = (-1 * 1) % p; rw [show ((p - 1 : Nat) : Int) = -1 * 1 + p * 1 by omega, Int.add_mul_emod_self_left]
  | succ i =>
   rw [Ze, Nat.div_eq_of_lt (by omega), Jed]; simp [vz, vsm, e0]
 rw [YQ (vcg.mul (vcg.refl c) hd (vcg.refl _))]; have : QZ m c (vsm (-1) e0) (dv p x) = vsm (-1) (dv p x) := by
  show opr m c (dv p x) m (vsm (-1) e0) = _; rw [Jj2, YV (QS hx)]
 rw [this]
theorem v_Neg {x : Int} {Q : Int -> Prop} (K : GFk F p m v g) (h : Q ((Jcx p m (inE (p ^ m) x) : Nat) : Int)) : Jjb F x Q := by
 have hp := K.fv.p2; have hpq := K.fv.pq; have h256 := K.fv.p256; have R := K.fv.ring; unfold Jjb; rw [K.fv.eP]; refine ⟨Jw (by omega) (by omega), v_Mul K ?_⟩; rw [show (p : Int) - 1 = ((p - 1 : Nat) : Int) by omega, Yh (by omega), mul_neg hp K.fv.m0 (Q3 R.pos x)]; exact h
theorem Jom {m x y : Nat} (hx : x < 2 ^ m) (hy : y < 2 ^ m) : x ^^^ y = Qp 2 m x y := by
 refine (nm_eq (by decide) (Nat.xor_lt_two_pow hx hy) fun i hi => ?_).symm; have h := Nat.testBit_xor x y i; rw [Nat.testBit_eq_decide_div_mod_eq, Nat.testBit_eq_decide_div_mod_eq, Nat.testBit_eq_decide_div_mod_eq] at h; simp only [dv, JV]; have h1 := Nat.mod_two_eq_zero_or_one (x / 2 ^ i); have h2 := Nat.mod_two_eq_zero_or_one (y / 2 ^ i); have h3 := Nat.mod_two_eq_zero_or_one ((x ^^^ y) / 2 ^ i); rcases h1 with h1 | h1 <;> rcases h2 with h2 | h2 <;> rcases h3 with h3 | h3 <;> rw [h1, h2, h3] at h <;> rw [h1, h2, h3] <;> first | rfl | exact absurd h (by decide)
theorem v_Add {x y : Int} {Q : Int -> Prop} (K : GFk F p m v g) (h : Q ((Qp p m (inE (p ^ m) x) (inE (p ^ m) y) : Nat) : Int)) : Jfo F x y Q := by
 have R := K.fv.ring; have hq := K.fv.q; have hx := Q3 R.pos x; have hy := Q3 R.pos y; have hq2 := R.q2; refine Je8 K (Je8 K ⟨fun h2 => ⟨⟨by omega, by omega, by omega, by omega⟩, ?_⟩, fun h2 => ⟨fun h0 => ?_, fun h0 => ⟨fun h1 => ?_, fun h1 => ?_⟩⟩⟩)
 .have hp2 : p = 2 := by have := K.fv.eP; omega
  subst hp2; rw [<- Jom hx hy] at h; exact h
 .rw [show inE (p ^ m) x = 0 by omega, R.zA hy] at h; exact h
 .rw [show inE (p ^ m) y = 0 by omega, R.Az hx] at h; exact h
 .have hi : ∀ z : Nat, z < p ^ m -> inE (p ^ m) (z : Int) = z := fun z hz => Yh hz; obtain ⟨a, ha, ea, la, bx⟩ := K.lg (x := ((inE (p ^ m) x : Nat) : Int)) (by rw [hi _ hx]; omega); obtain ⟨b, hb, eb, lb, by_⟩ := K.lg (x := ((inE (p ^ m) y : Nat) : Int)) (by rw [hi _ hy]; omega); rw [hi _ hx] at ea; rw [hi _ hy] at eb; rw [la, lb]; have hal := K.al; have hel := K.el; refine ⟨by_, bx, Jw (by omega) (by omega), fun z => ∃ d : Nat, z = d /\ d < p ^ m - 1 /\ pw (JO p m (dv p v)) g (a + d) = pw (JO p m (dv p v)) g b, ⟨fun hn => ?_, fun hn => ?_⟩, ?_⟩
  .rw [K.q]; refine ⟨Jw (by omega) (by omega), Jw (by omega) (by omega), b + (p ^ m - 1) - a, by omega, by omega, ?_⟩; have := K.G.per R b 1; rw [Nat.mul_one] at this; rw [show a + (b + (p ^ m - 1) - a) = b + (p ^ m - 1) by omega]; exact this
  .exact ⟨b - a, by omega, by omega, by rw [show a + (b - a) = b by omega]⟩
  .rintro _ ⟨d, rfl, hd, hpd⟩; rw [JG, K.av d hd]; have hgd := R.pw_lt g d; have hga := R.pw_lt g a
   -- x + y = x (g^d + 1)
   have hsum : Qp p m (inE (p ^ m) x) (inE (p ^ m) y) = JO p m (dv p v) (pw (JO p m (dv p v)) g a) (Qp p m (pw (JO p m (dv p v)) g d) 1) := by
    rw [R.Md hga hgd R.one_lt, R.M1 hga, <- R.pw_add K.G.lt, hpd, <- ea, <- eb, R.Ac]
   rw [hsum] at h; have hsl := R.Al (pw (JO p m (dv p v)) g d) 1; refine ⟨⟨by omega, by omega⟩, fun hm1 => ?_, fun hm1 => ?_⟩
   .have hz : Qp p m (pw (JO p m (dv p v)) g d) 1 = 0 := by
     rcases Nat.eq_zero_or_pos (Qp p m (pw (JO p m (dv p v)) g d) 1) with h3 | h3
     .exact h3
     .obtain ⟨s, hs, hse⟩ := K.G.surj R h3 hsl; rw [<- hse, K.lv s hs] at hm1; omega
    rw [hz, R.M0 hga] at h; exact h
   .have hnz : 0 < Qp p m (pw (JO p m (dv p v)) g d) 1 := by
     rcases Nat.eq_zero_or_pos (Qp p m (pw (JO p m (dv p v)) g d) 1) with h3 | h3
     .rw [h3, K.l0] at hm1; exact absurd rfl hm1
     .exact h3
    obtain ⟨s, hs, hse⟩ := K.G.surj R hnz hsl; rw [<- hse] at h ⊢; rw [K.lv s hs]; refine ⟨bx, Jw (by omega) (by omega), ⟨by omega, by omega⟩, ?_⟩; rw [show (a : Int) + (s : Int) = ((a + s : Nat) : Int) by push_cast; rfl, JG, K.ev _ (by omega), R.pw_add K.G.lt]; exact h
theorem v_Sub {x y : Int} {Q : Int -> Prop} (K : GFk F p m v g) (h : Q ((Qp p m (inE (p ^ m) x) (Jcx p m (inE (p ^ m) y)) : Nat) : Int)) : Jja F x y Q := by
 refine v_Neg K (v_Add K ?_); rw [Yh (Jc8 (by have := K.fv.p2; omega) _)]; exact h
theorem v_Inv {x : Int} {Q : Int × Int -> Prop} (K : GFk F p m v g) (h0 : inE (p ^ m) x = 0 -> Q (0, 7)) (h1 : ∀ z : Nat, inE (p ^ m) x ≠ 0 -> z < p ^ m -> JO p m (dv p v) z (inE (p ^ m) x) = 1 -> Q ((z : Int), 0)) : Jjc F x Q := by
 have R := K.fv.ring; have hq := K.fv.q; refine Jdm K ⟨fun hb => h0 (by simpa using hb), fun hb => ?_⟩; have hne : inE (p ^ m) x ≠ 0 := by simpa using hb
 obtain ⟨a, ha, ea, la, bx⟩ := K.lg hne; have hel := K.el; rw [la, K.q]; refine ⟨Jw (by omega) (by omega), bx, Jw (by omega) (by omega), ⟨by omega, by omega⟩, ?_⟩; rw [show ((p ^ m : Nat) : Int) - 1 - (a : Int) = ((p ^ m - 1 - a : Nat) : Int) by omega, JG, K.ev _ (by omega)]; refine h1 _ hne (R.pw_lt g _) ?_; rw [ea, <- R.pw_add K.G.lt, show p ^ m - 1 - a + a = p ^ m - 1 by omega, K.G.one]
theorem Od.uniq {M : Nat -> Nat -> Nat} {x n k : Nat} (h : Od M x n) (h' : Od M x k) : n = k := by
 rcases Nat.lt_trichotomy n k with h1 | h1 | h1
 .exact absurd h.one (h'.least n h.pos h1)
 .exact h1
 .exact absurd h'.one (h.least k h'.pos h1)
end
end Go.Proofs.Ytppkigdakobebaa
namespace Go.Proofs.Ytppkigdakobebaa
/-! ### commutative rings, sums, series -/
class Cr (α : Type) where
  add : α -> α -> α
  mul : α -> α -> α
  neg : α -> α
  zero : α
  one : α
  ac : ∀ x y, add x y = add y x
  aa : ∀ x y z, add (add x y) z = add x (add y z)
  az : ∀ x, add x zero = x
  an : ∀ x, add x (neg x) = zero
  mc : ∀ x y, mul x y = mul y x
  ma : ∀ x y z, mul (mul x y) z = mul x (mul y z)
  m1 : ∀ x, mul x one = x
  md : ∀ x y z, mul x (add y z) = add (mul x y) (mul x z)
section
variable {α : Type} [Cr α]
instance (priority := 100) crAdd : Add α := ⟨Cr.add⟩
instance (priority := 100) crMul : Mul α := ⟨Cr.mul⟩
instance (priority := 100) crNeg : Neg α := ⟨Cr.neg⟩
instance (priority := 100) crSub : Sub α := ⟨fun x y => Cr.add x (Cr.neg y)⟩
instance (priority := 100) crZero : OfNat α 0 := ⟨Cr.zero⟩
instance (priority := 100) crOne : OfNat α 1 := ⟨Cr.one⟩
namespace Cr
theorem add_comm (x y : α) : x + y = y + x := Cr.ac x y
theorem add_assoc (x y z : α) : x + y + z = x + (y + z) := Cr.aa x y z
theorem add_zero (x : α) : x + 0 = x := Cr.az x
theorem zero_add (x : α) : 0 + x = x := by rw [Cr.add_comm, Cr.add_zero]
theorem add_neg (x : α) : x + -x = 0 := Cr.an x
theorem neg_add (x : α) : -x + x = 0 := by rw [Cr.add_comm, Cr.add_neg]
theorem mul_comm (x y : α) : x * y = y * x := Cr.mc x y
theorem mul_assoc (x y z : α) : x * y * z = x * (y * z) := Cr.ma x y z
theorem mul_one (x : α) : x * 1 = x := Cr.m1 x
theorem one_mul (x : α) : 1 * x = x := by rw [Cr.mul_comm, Cr.mul_one]
theorem mul_add (x y z : α) : x * (y + z) = x * y + x * z := Cr.md x y z
theorem add_mul (x y z : α) : (x + y) * z = x * z + y * z := by rw [Cr.mul_comm, Cr.mul_add, Cr.mul_comm z x, Cr.mul_comm z y]
theorem sub_eq (x y : α) : x - y = x + -y := rfl
theorem add_left_comm (x y z : α) : x + (y + z) = y + (x + z) := by rw [<- Cr.add_assoc, Cr.add_comm x y, Cr.add_assoc]
theorem add_left_cancel {x y z : α} (h : x + y = x + z) : y = z := by
 have := congrArg (fun u => -x + u) h
 simpa [<- Cr.add_assoc, Cr.neg_add, Cr.zero_add] using this
theorem mul_zero (x : α) : x * 0 = 0 := by
 refine Cr.add_left_cancel (x := x * 0) ?_; rw [<- Cr.mul_add, Cr.add_zero, Cr.add_zero]
theorem zero_mul (x : α) : 0 * x = 0 := by rw [Cr.mul_comm, Cr.mul_zero]
theorem neg_uniq {x y : α} (h : x + y = 0) : y = -x := Cr.add_left_cancel (x := x) (by rw [h, Cr.add_neg])
theorem neg_zero : -(0 : α) = 0 := (Cr.neg_uniq (Cr.add_zero (0 : α))).symm
theorem neg_neg (x : α) : - -x = x := (Cr.neg_uniq (Cr.neg_add x)).symm
theorem neg_addd (x y : α) : -(x + y) = -x + -y := (Cr.neg_uniq (by
 rw [Cr.add_assoc, Cr.add_left_comm y, <- Cr.add_assoc, Cr.add_neg, Cr.add_neg, Cr.add_zero])).symm
theorem mul_neg (x y : α) : x * -y = -(x * y) := Cr.neg_uniq (by rw [<- Cr.mul_add, Cr.add_neg, Cr.mul_zero])
theorem neg_mul (x y : α) : -x * y = -(x * y) := by rw [Cr.mul_comm, Cr.mul_neg, Cr.mul_comm]
theorem sub_self (x : α) : x - x = 0 := Cr.add_neg x
theorem sub_zero (x : α) : x - 0 = x := by rw [Cr.sub_eq, Cr.neg_zero, Cr.add_zero]
theorem sub_add (x y : α) : x - y + y = x := by rw [Cr.sub_eq, Cr.add_assoc, Cr.neg_add, Cr.add_zero]
theorem add_sub (x y : α) : x + y - y = x := by rw [Cr.sub_eq, Cr.add_assoc, Cr.add_neg, Cr.add_zero]
theorem eq_of_sub {x y : α} (h : x - y = 0) : x = y := by rw [<- Cr.sub_add x y, h, Cr.zero_add]
theorem mul_sub (x y z : α) : x * (y - z) = x * y - x * z := by rw [Cr.sub_eq, Cr.mul_add, Cr.mul_neg]; rfl
theorem sub_mul (x y z : α) : (x - y) * z = x * z - y * z := by rw [Cr.mul_comm, Cr.mul_sub, Cr.mul_comm z, Cr.mul_comm z]
theorem neg_sub (x y : α) : -(x - y) = y - x := by rw [Cr.sub_eq, Cr.neg_addd, Cr.neg_neg, Cr.add_comm]; rfl
end Cr
instance : Std.Commutative (α := α) (· + ·) := ⟨Cr.add_comm⟩
instance : Std.Associative (α := α) (· + ·) := ⟨Cr.add_assoc⟩
instance : Std.Commutative (α := α) (· * ·) := ⟨Cr.mul_comm⟩
instance : Std.Associative (α := α) (· * ·) := ⟨Cr.mul_assoc⟩
def sgm (f : Nat -> α) : Nat -> α
  | 0 => 0
  | n + 1 => sgm f n + f n
theorem J3 {f g : Nat -> α} : ∀ {n : Nat}, (∀ i, i < n -> f i = g i) -> sgm f n = sgm g n
 | 0, _ => rfl
 | n + 1, h => by rw [sgm, sgm, J3 (n := n) fun i hi => h i (by omega), h n (by omega)]
theorem Jc6 (f g : Nat -> α) : ∀ n, sgm (fun i => f i + g i) n = sgm f n + sgm g n
 | 0 => (Cr.add_zero 0).symm
 | n + 1 => by rw [sgm, sgm, sgm, Jc6 f g n]; ac_rfl
theorem Jc5 (a : α) (f : Nat -> α) : ∀ n, sgm (fun i => a * f i) n = a * sgm f n
 | 0 => (Cr.mul_zero a).symm
 | n + 1 => by rw [sgm, sgm, Jc5 a f n, Cr.mul_add]
theorem Jas (a : α) (f : Nat -> α) (n : Nat) : sgm (fun i => f i * a) n = sgm f n * a := by
 rw [Cr.mul_comm _ a, <- Jc5]; exact J3 fun i _ => Cr.mul_comm _ _
theorem YU {f : Nat -> α} : ∀ {n : Nat}, (∀ i, i < n -> f i = 0) -> sgm f n = 0
 | 0, _ => rfl
 | n + 1, h => by rw [sgm, YU (n := n) fun i hi => h i (by omega), h n (by omega), Cr.add_zero]
theorem Jbj (f : Nat -> α) : ∀ n, sgm f (n + 1) = f 0 + sgm (fun i => f (i + 1)) n
 | 0 => by rw [sgm, sgm, sgm, Cr.add_comm]
 | n + 1 => by rw [sgm, Jbj f n, sgm, Cr.add_assoc]
theorem Jlx (f : Nat -> α) (n : Nat) : ∀ m, sgm f (n + m) = sgm f n + sgm (fun i => f (n + i)) m
 | 0 => by rw [Nat.add_zero, sgm, Cr.add_zero]
 | m + 1 => by rw [<- Nat.add_assoc, sgm, Jlx f n m, sgm, Cr.add_assoc]
theorem Jlv (f : Nat -> α) : ∀ n, sgm f n = sgm (fun i => f (n - 1 - i)) n
 | 0 => rfl
 | n + 1 => by
  rw [Jbj (fun i => f (n + 1 - 1 - i)) n, sgm, Jlv f n, Cr.add_comm]
  congr 1
  exact J3 fun i hi => by congr 1; omega
theorem Jar {f : Nat -> α} {k : Nat} : ∀ {n : Nat}, k < n -> (∀ i, i < n -> i ≠ k -> f i = 0) -> sgm f n = f k
 | 0, h, _ => absurd h (Nat.not_lt_zero k)
 | n + 1, h, h0 => by
  by_cases hk : k = n
  .subst hk; rw [sgm, YU fun i hi => h0 i (by omega) (by omega), Cr.zero_add]
  .rw [sgm, Jar (n := n) (by omega) fun i hi hne => h0 i (by omega) hne, h0 n (by omega) (Ne.symm hk), Cr.add_zero]
theorem Jf1 (F : Nat -> Nat -> α) : ∀ n, sgm (fun s => sgm (fun i => F i (s - i)) (s + 1)) n = sgm (fun i => sgm (F i) (n - i)) n
 | 0 => rfl
 | n + 1 => by
  rw [sgm, Jf1 F n, sgm]; have h1 : sgm (fun i => sgm (F i) (n + 1 - i)) n = sgm (fun i => sgm (F i) (n - i)) n + sgm (fun i => F i (n - i)) n := by
   rw [<- Jc6]; exact J3 fun i hi => by rw [show n + 1 - i = (n - i) + 1 by omega, sgm]
  rw [sgm, h1, show n + 1 - n = 0 + 1 by omega, sgm, sgm, Cr.zero_add, Nat.sub_self, Cr.add_assoc]
theorem Jf2 {f : Nat -> α} {n m : Nat} (h : n <= m) (h0 : ∀ i, n <= i -> i < m -> f i = 0) : sgm f m = sgm f n := by
 obtain ⟨k, rfl⟩ := Nat.exists_eq_add_of_le h; rw [Jlx, YU fun i hi => h0 (n + i) (by omega) (by omega), Cr.add_zero]
/-! series -/
def Pl (α : Type) : Type := Nat -> α
def Jcm (f g : Nat -> α) : Nat -> α := fun k => sgm (fun i => f i * g (k - i)) (k + 1)
theorem Jfc (f g : Nat -> α) : Jcm f g = Jcm g f := by
 funext k; unfold Jcm; rw [Jlv]; exact J3 fun i hi => by
  rw [Cr.mul_comm]
  congr 2 <;> omega
theorem Jjz (f g h : Nat -> α) : Jcm (Jcm f g) h = Jcm f (Jcm g h) := by
 funext k; have e1 : Jcm (Jcm f g) h k = sgm (fun s => sgm (fun i => f i * g (s - i) * h (k - (i + (s - i)))) (s + 1)) (k + 1) := by
  show sgm (fun s => sgm (fun i => f i * g (s - i)) (s + 1) * h (k - s)) (k + 1) = _; refine J3 fun s hs => ?_; rw [<- Jas]; exact J3 fun i hi => by rw [show i + (s - i) = s by omega]
 have e2 : Jcm f (Jcm g h) k = sgm (fun i => sgm (fun j => f i * g j * h (k - (i + j))) (k + 1 - i)) (k + 1) := by
  show sgm (fun i => f i * sgm (fun j => g j * h (k - i - j)) (k - i + 1)) (k + 1) = _; refine J3 fun i hi => ?_; rw [<- Jc5, show k + 1 - i = k - i + 1 by omega]; exact J3 fun j hj => by rw [Cr.mul_assoc, show k - i - j = k - (i + j) by omega]
 rw [e1, e2]; exact Jf1 (fun i j => f i * g j * h (k - (i + j))) (k + 1)
instance : Cr (Pl α) where
  add f g := fun i => f i + g i
  mul f g := Jcm f g
  neg f := fun i => -(f i)
  zero := fun _ => 0
  one := fun i => if i = 0 then 1 else 0
  ac f g := funext fun i => Cr.add_comm _ _
  aa f g h := funext fun i => Cr.add_assoc _ _ _
  az f := funext fun i => Cr.add_zero _
  an f := funext fun i => Cr.add_neg _
  mc f g := Jfc f g
  ma f g h := Jjz f g h
  m1 f := by
    refine (Jfc (α := α) f (fun i => if i = 0 then 1 else 0)).trans ?_
    funext k
    show sgm (fun i => (if i = 0 then (1 : α) else 0) * f (k - i)) (k + 1) = f k
    rw [Jar (k := 0) (by omega) fun i hi hne => by rw [if_neg hne, Cr.zero_mul], if_pos rfl, Cr.one_mul, Nat.sub_zero]
  md f g h := by
    funext k
    show sgm (fun i => f i * (g (k - i) + h (k - i))) (k + 1) = sgm (fun i => f i * g (k - i)) (k + 1) + sgm (fun i => f i * h (k - i)) (k + 1)
    rw [<- Jc6]
    exact J3 fun i _ => Cr.mul_add _ _ _
namespace Pl
omit [Cr α] in
theorem ext {f g : Pl α} (h : ∀ i, f i = g i) : f = g := funext h
theorem add_at (f g : Pl α) (i : Nat) : (f + g) i = f i + g i := rfl
theorem neg_at (f : Pl α) (i : Nat) : (-f) i = -(f i) := rfl
theorem sub_at (f g : Pl α) (i : Nat) : (f - g) i = f i - g i := rfl
theorem one_at (i : Nat) : (1 : Pl α) i = if i = 0 then 1 else 0 := rfl
theorem mul_at (f g : Pl α) (k : Nat) : (f * g) k = sgm (fun i => f i * g (k - i)) (k + 1) := rfl
end Pl
/-! finite support -/
def Su (f : Pl α) (n : Nat) : Prop := ∀ i, n <= i -> f i = 0
theorem Su.mono {f : Pl α} {n m : Nat} (h : Su f n) (hm : n <= m) : Su f m := fun i hi => h i (by omega)
theorem Su.add {f g : Pl α} {n : Nat} (hf : Su f n) (hg : Su g n) : Su (f + g) n := fun i hi => by rw [Pl.add_at, hf i hi, hg i hi, Cr.add_zero]
theorem Su.neg {f : Pl α} {n : Nat} (hf : Su f n) : Su (-f) n := fun i hi => by rw [Pl.neg_at, hf i hi, Cr.neg_zero]
theorem Su.sub {f g : Pl α} {n : Nat} (hf : Su f n) (hg : Su g n) : Su (f - g) n := Su.add hf hg.neg
theorem Su.zero (n : Nat) : Su (0 : Pl α) n := fun i _ => rfl
theorem Su.one : Su (1 : Pl α) 1 := fun i hi => by rw [Pl.one_at, if_neg (by omega)]
theorem Su.eq0 {f : Pl α} (h : Su f 0) : f = 0 := Pl.ext fun i => h i (Nat.zero_le i)
theorem Su.mul {f g : Pl α} {n m : Nat} (hf : Su f n) (hg : Su g m) : Su (f * g) (n + m - 1) := fun k hk => by
 rw [Pl.mul_at]; refine YU fun i hi => ?_; by_cases h : n <= i
 .rw [hf i h, Cr.zero_mul]
 .rw [hg (k - i) (by omega), Cr.mul_zero]
theorem Jao {f g : Pl α} {n m : Nat} (hf : Su f (n + 1)) (hg : Su g (m + 1)) : (f * g) (n + m) = f n * g m := by
 rw [Pl.mul_at, Jar (k := n) (by omega) fun i hi hne => ?_, show n + m - n = m by omega]; by_cases h : n + 1 <= i
 .rw [hf i h, Cr.zero_mul]
 .rw [hg (n + m - i) (by omega), Cr.mul_zero]
/-- degree d -/
def Dg (f : Pl α) (d : Nat) : Prop := f d ≠ 0 /\ Su f (d + 1)
open Classical in
theorem Jci {f : Pl α} : ∀ {n : Nat}, Su f n -> f = 0 ∨ ∃ d, d < n /\ Dg f d
  | 0, h => .inl h.eq0
  | n + 1, h => by
    by_cases h0 : f n = 0
    . rcases Jci (f := f) (n := n) (fun i hi => by
        by_cases e : i = n
        . rw [e, h0]
        . exact h i (by omega)) with h1 | ⟨d, h1, h2⟩
      . exact .inl h1
      . exact .inr ⟨d, by omega, h2⟩
    . exact .inr ⟨n, by omega, h0, h⟩
theorem Dg.ne {f : Pl α} {d : Nat} (h : Dg f d) : f ≠ 0 := fun e => h.1 (by rw [e]; rfl)
theorem Dg.lt {f : Pl α} {d n : Nat} (h : Dg f d) (hs : Su f n) : d < n := by
 rcases Nat.lt_or_ge d n with h1 | h1
 .exact h1
 .exact absurd (hs d h1) h.1
theorem Dg.uniq {f : Pl α} {d e : Nat} (h : Dg f d) (h' : Dg f e) : d = e := by
 have h1 := h.lt h'.2; have h2 := h'.lt h.2; omega
/-- a a monomial -/
def mo (a : α) (n : Nat) : Pl α := fun i => if i = n then a else 0
theorem mo_su (a : α) (n : Nat) : Su (mo a n) (n + 1) := fun i hi => if_neg (by omega)
theorem Jkb (a : α) (n : Nat) (f : Pl α) (k : Nat) : (mo a n * f) k = if n <= k then a * f (k - n) else 0 := by
 rw [Pl.mul_at]; split
 .rename_i h
  rw [Jar (k := n) (by omega) fun i hi hne => by rw [mo, if_neg hne, Cr.zero_mul], mo, if_pos rfl]
 .rename_i h
  exact YU fun i hi => by rw [mo, if_neg (by omega), Cr.zero_mul]
theorem Jss (n : Nat) : mo (0 : α) n = 0 := Pl.ext fun i => by unfold mo; split <;> rfl
/-- a constant -/
def ct (a : α) : Pl α := mo a 0
theorem ct_su (a : α) : Su (ct a) 1 := mo_su a 0
end
end Go.Proofs.Ytppkigdakobebaa
set_option linter.unusedSectionVars false
namespace Go.Proofs.Ytppkigdakobebaa
/-! ### polynomials over a field -/
class Fd (α : Type) [Cr α] : Prop where
  ne : (1 : α) ≠ 0
  inv : ∀ x : α, x ≠ 0 -> ∃ y, x * y = 1
section
variable {α : Type} [Cr α]
def Fs (f : Pl α) : Prop := ∃ n, Su f n
theorem Fs.add {f g : Pl α} : Fs f -> Fs g -> Fs (f + g) := fun ⟨n, hn⟩ ⟨m, hm⟩ => ⟨max n m, (hn.mono (by omega)).add (hm.mono (by omega))⟩
theorem Fs.neg {f : Pl α} : Fs f -> Fs (-f) := fun ⟨n, hn⟩ => ⟨n, hn.neg⟩
theorem Fs.sub {f g : Pl α} (hf : Fs f) (hg : Fs g) : Fs (f - g) := hf.add hg.neg
theorem Fs.mul {f g : Pl α} : Fs f -> Fs g -> Fs (f * g) := fun ⟨n, hn⟩ ⟨m, hm⟩ => ⟨_, hn.mul hm⟩
theorem Fs.zero : Fs (0 : Pl α) := ⟨0, Su.zero 0⟩
theorem Fs.one : Fs (1 : Pl α) := ⟨1, Su.one⟩
/-! divisibility -/
def Dv (f g : Pl α) : Prop := ∃ h, Fs h /\ g = f * h
theorem Dv.refl (f : Pl α) : Dv f f := ⟨1, Fs.one, (Cr.mul_one f).symm⟩
theorem Dv.zero (f : Pl α) : Dv f 0 := ⟨0, Fs.zero, (Cr.mul_zero f).symm⟩
theorem Dv.trans {f g h : Pl α} : Dv f g -> Dv g h -> Dv f h := fun ⟨a, ha, h1⟩ ⟨b, hb, h2⟩ => ⟨a * b, ha.mul hb, by rw [h2, h1, Cr.mul_assoc]⟩
theorem Dv.add {f g h : Pl α} : Dv f g -> Dv f h -> Dv f (g + h) := fun ⟨a, ha, h1⟩ ⟨b, hb, h2⟩ => ⟨a + b, ha.add hb, by rw [h1, h2, Cr.mul_add]⟩
theorem Dv.neg {f g : Pl α} : Dv f g -> Dv f (-g) := fun ⟨a, ha, h1⟩ => ⟨-a, ha.neg, by rw [h1, Cr.mul_neg]⟩
theorem Dv.sub {f g h : Pl α} (h1 : Dv f g) (h2 : Dv f h) : Dv f (g - h) := h1.add h2.neg
theorem Dv.mulr {f g : Pl α} (h : Dv f g) {a : Pl α} (ha : Fs a) : Dv f (g * a) := by
 obtain ⟨b, hb, rfl⟩ := h; exact ⟨b * a, hb.mul ha, Cr.mul_assoc _ _ _⟩
theorem Dv.mull {f g : Pl α} (h : Dv f g) {a : Pl α} (ha : Fs a) : Dv f (a * g) := by rw [Cr.mul_comm]; exact h.mulr ha
/-- the greatest common divisors of two polynomials, but for a factor -/
def Gd (p q d : Pl α) : Prop := Dv d p /\ Dv d q /\ ∀ c, Dv c p -> Dv c q -> Dv c d
theorem Gd.step {p q a r d : Pl α} (ha : Fs a) (e : p = a * q + r) (h : Gd q r d) : Gd p q d := by
 refine ⟨by rw [e]; exact (h.1.mull ha).add h.2.1, h.1, fun c h1 h2 => h.2.2 c h2 ?_⟩; have : r = p - a * q := by rw [e, Cr.add_comm, Cr.add_sub]
 rw [this]; exact h1.sub (h2.mull ha)
theorem Gd.zero (p : Pl α) : Gd p 0 p := ⟨Dv.refl p, Dv.zero p, fun c h _ => h⟩
theorem Gd.symm {p q d : Pl α} (h : Gd p q d) : Gd q p d := ⟨h.2.1, h.1, fun c h1 h2 => h.2.2 c h2 h1⟩
def Mn (f : Pl α) : Prop := ∃ d, Dg f d /\ f d = 1
/-! congruence -/
def Cg (m f g : Pl α) : Prop := Dv m (f - g)
theorem Cg.refl (m f : Pl α) : Cg m f f := by unfold Cg; rw [Cr.sub_self]; exact Dv.zero m
theorem Cg.symm {m f g : Pl α} (h : Cg m f g) : Cg m g f := by have := Dv.neg h; rwa [Cr.neg_sub] at this
theorem Cg.trans {m f g k : Pl α} (h : Cg m f g) (h' : Cg m g k) : Cg m f k := by
 have := Dv.add h h'; have e : f - g + (g - k) = f - k := by
  rw [Cr.sub_eq, Cr.sub_eq, Cr.sub_eq, Cr.add_assoc, <- Cr.add_assoc (-g), Cr.neg_add, Cr.zero_add]
 rwa [e] at this
theorem Cg.mul {m f g f' g' : Pl α} (h : Cg m f g) (h' : Cg m f' g') (hf : Fs f') (hg : Fs g) : Cg m (f * f') (g * g') := by
 have := Dv.add (Dv.mulr h hf) (Dv.mull h' hg); have e : (f - g) * f' + g * (f' - g') = f * f' - g * g' := by
  rw [Cr.sub_mul, Cr.mul_sub, Cr.sub_eq, Cr.sub_eq, Cr.sub_eq, Cr.add_assoc, <- Cr.add_assoc (-(g * f')), Cr.neg_add, Cr.zero_add]
 rw [e] at this; exact this
/-! powers and values -/
def pwr (x : α) : Nat -> α
  | 0 => 1
  | n + 1 => pwr x n * x
theorem Jly (x : α) (m : Nat) : ∀ n, pwr x (m + n) = pwr x m * pwr x n
 | 0 => (Cr.mul_one _).symm
 | n + 1 => by rw [<- Nat.add_assoc, pwr, Jly x m n, pwr, Cr.mul_assoc]
def evp (f : Pl α) (n : Nat) (x : α) : α := sgm (fun i => f i * pwr x i) n
theorem Jmh {f : Pl α} {n m : Nat} (hf : Su f n) (h : n <= m) (x : α) : evp f m x = evp f n x :=
 Jf2 h fun i h1 _ => by rw [hf i h1, Cr.zero_mul]
theorem Js7 {f : Pl α} {n m : Nat} (hf : Su f n) (hg : Su f m) (x : α) : evp f m x = evp f n x := by
 rcases Nat.le_total n m with h | h
 .exact Jmh hf h x
 .exact (Jmh hg h x).symm
theorem Js8 (f g : Pl α) (n : Nat) (x : α) : evp (f + g) n x = evp f n x + evp g n x := by
 unfold evp; rw [<- Jc6]; exact J3 fun i _ => Cr.add_mul _ _ _
theorem Js6 {f g : Pl α} {n m : Nat} (hf : Su f n) (hg : Su g m) (x : α) : evp (f * g) (n + m) x = evp f n x * evp g m x := by
 unfold evp; have e1 : sgm (fun k => (f * g) k * pwr x k) (n + m) = sgm (fun s => sgm (fun i => (fun i j => (f i * pwr x i) * (g j * pwr x j)) i (s - i)) (s + 1)) (n + m) := by
  refine J3 fun s hs => ?_; rw [Pl.mul_at, <- Jas]; refine J3 fun i hi => ?_; show f i * g (s - i) * pwr x s = f i * pwr x i * (g (s - i) * pwr x (s - i))
  rw [show pwr x s = pwr x i * pwr x (s - i) by rw [<- Jly]; congr 1; omega]
  ac_rfl
 rw [e1, Jf1 (fun i j => f i * pwr x i * (g j * pwr x j)), Jf2 (n := n) (by omega) fun i h1 _ => YU fun j _ => by show f i * pwr x i * _ = 0; rw [hf i h1, Cr.zero_mul, Cr.zero_mul], <- Jas]; refine J3 fun i hi => ?_; show sgm (fun j => f i * pwr x i * (g j * pwr x j)) (n + m - i) = _; rw [Jc5, Jf2 (n := m) (by omega) fun j h1 _ => by rw [hg j h1, Cr.zero_mul]]
open Classical in
noncomputable def vl_ (f : Pl α) (x : α) : α := if h : Fs f then evp f (Classical.choose h) x else 0
theorem YH {f : Pl α} {n : Nat} (hf : Su f n) (x : α) : vl_ f x = evp f n x := by
 have h : Fs f := ⟨n, hf⟩
 unfold vl_; rw [dif_pos h]; exact Js7 hf (Classical.choose_spec h) x
theorem Jjl {f g : Pl α} (hf : Fs f) (hg : Fs g) (x : α) : vl_ (f + g) x = vl_ f x + vl_ g x := by
 obtain ⟨n, hn⟩ := hf; obtain ⟨m, hm⟩ := hg; have h1 := hn.mono (show n <= max n m by omega); have h2 := hm.mono (show m <= max n m by omega); rw [YH h1, YH h2, YH (h1.add h2), Js8]
theorem Y6 {f g : Pl α} (hf : Fs f) (hg : Fs g) (x : α) : vl_ (f * g) x = vl_ f x * vl_ g x := by
 obtain ⟨n, hn⟩ := hf; obtain ⟨m, hm⟩ := hg; rw [YH hn, YH hm, YH ((hn.mul hm).mono (show n + m - 1 <= n + m by omega)), Js6 hn hm]
theorem Jo1 (a x : α) : vl_ (ct a) x = a := by
 rw [YH (ct_su a)]; show (0 : α) + ct a 0 * 1 = a; rw [Cr.zero_add, Cr.mul_one]; rfl
theorem Joy (x : α) : vl_ (1 : Pl α) x = 1 := Jo1 1 x
/-! linear factors -/
def lin (a : α) : Pl α := fun i => if i = 0 then -a else if i = 1 then 1 else 0
theorem QK (a : α) : Su (lin a) 2 := fun i hi => by unfold lin; rw [if_neg (by omega), if_neg (by omega)]
theorem Jfx (a x : α) : vl_ (lin a) x = x - a := by
 rw [YH (QK a)]; show (0 : α) + lin a 0 * 1 + lin a 1 * (1 * x) = x - a; rw [Cr.zero_add, Cr.mul_one, Cr.one_mul]; show -a + 1 * x = x - a; rw [Cr.one_mul, Cr.add_comm]; rfl
def lpf (r : Pl α) : Nat -> Pl α
  | 0 => 1
  | k + 1 => lpf r k * lin (r k)
theorem Jgi (r : Pl α) : ∀ k, Fs (lpf r k)
 | 0 => Fs.one
 | k + 1 => (Jgi r k).mul ⟨2, QK _⟩
theorem Jd2 (r : Pl α) : ∀ k, Su (lpf r k) (k + 1)
 | 0 => Su.one
 | k + 1 => ((Jd2 r k).mul (QK _)).mono (by omega)
theorem Jl9 (r : Pl α) : ∀ k, lpf r k k = 1
 | 0 => rfl
 | k + 1 => by
  rw [lpf, Jao (Jd2 r k) (QK (r k)), Jl9 r k, Cr.one_mul]; rfl
end
section
variable {α : Type} [Cr α] [Fd α]
theorem ZF {x y : α} (h : x * y = 0) : x = 0 ∨ y = 0 := by
 by_cases h0 : x = 0
 .exact .inl h0
 .obtain ⟨z, hz⟩ := Fd.inv x h0; refine .inr ?_; rw [<- Cr.one_mul y, <- hz, Cr.mul_comm x, Cr.mul_assoc, h, Cr.mul_zero]
theorem Jol {x y z : α} (hx : x ≠ 0) (h : x * y = x * z) : y = z := by
 have : x * (y - z) = 0 := by rw [Cr.mul_sub, h, Cr.sub_self]
 exact Cr.eq_of_sub ((ZF this).resolve_left hx)
theorem Dg.mul {f g : Pl α} {a b : Nat} (hf : Dg f a) (hg : Dg g b) : Dg (f * g) (a + b) :=
 ⟨fun h => by rw [Jao hf.2 hg.2] at h; rcases ZF h with h | h; exact hf.1 h; exact hg.1 h, (hf.2.mul hg.2).mono (by omega)⟩
theorem Pl.nzd {f g : Pl α} (hf : Fs f) (hg : Fs g) (h : f * g = 0) : f = 0 ∨ g = 0 := by
 obtain ⟨n, hn⟩ := hf; obtain ⟨m, hm⟩ := hg; rcases Jci hn with h1 | ⟨a, _, h1⟩
 .exact .inl h1
 .rcases Jci hm with h2 | ⟨b, _, h2⟩
  .exact .inr h2
  .exact absurd h (h1.mul h2).ne
theorem Pl.cancel {f g h : Pl α} (hf : Fs f) (hg : Fs g) (hh : Fs h) (h0 : f ≠ 0) (e : f * g = f * h) : g = h := by
 have : f * (g - h) = 0 := by rw [Cr.mul_sub, e, Cr.sub_self]
 exact Cr.eq_of_sub ((Pl.nzd hf (hg.sub hh) this).resolve_left h0)
theorem Jqq {q : Pl α} {d : Nat} (hq : Dg q d) : ∀ {n : Nat} {f : Pl α}, Su f n -> ∃ a r, Su a (n - d) /\ f = a * q + r /\ Su r d
 | 0, f, h => ⟨0, f, Su.zero _, by rw [Cr.zero_mul, Cr.zero_add], h.mono (Nat.zero_le d)⟩
 | n + 1, f, h => by
  rcases Nat.lt_or_ge n d with hnd | hnd
  .exact ⟨0, f, Su.zero _, by rw [Cr.zero_mul, Cr.zero_add], h.mono (by omega)⟩
  .obtain ⟨u, hu⟩ := Fd.inv (q d) hq.1; have hs : Su (f - mo (f n * u) (n - d) * q) n := fun i hi => by
    rw [Pl.sub_at, Jkb, if_pos (by omega)]; by_cases e : i = n
    .rw [e, show n - (n - d) = d by omega, Cr.mul_assoc, Cr.mul_comm u, hu, Cr.mul_one, Cr.sub_self]
    .rw [h i (by omega), hq.2 (i - (n - d)) (by omega), Cr.mul_zero, Cr.sub_self]
   obtain ⟨a, r, h1, h2, h3⟩ := Jqq hq hs; refine ⟨a + mo (f n * u) (n - d), r, (h1.mono (by omega)).add ((mo_su _ _).mono (by omega)), ?_, h3⟩; have e := (Cr.sub_add f (mo (f n * u) (n - d) * q)).symm; rw [h2] at e; refine e.trans ?_; rw [Cr.add_mul]
   ac_rfl
theorem Dv.dg {f g : Pl α} {a b : Nat} (h : Dv f g) (hf : Dg f a) (hg : Dg g b) : a <= b := by
 obtain ⟨k, ⟨n, hn⟩, rfl⟩ := h; rcases Jci hn with h1 | ⟨c, _, h1⟩
 .rw [h1, Cr.mul_zero] at hg; exact absurd rfl hg.ne
 .have := (hf.mul h1).uniq hg; omega
theorem Mn.uniq {f g : Pl α} (hf : Mn f) (hg : Mn g) (h1 : Dv f g) (h2 : Dv g f) : f = g := by
 obtain ⟨a, ha, ea⟩ := hf; obtain ⟨b, hb, eb⟩ := hg; have e1 := h1.dg ha hb; have e2 := h2.dg hb ha; obtain rfl : a = b := by omega
 obtain ⟨k, ⟨n, hn⟩, rfl⟩ := h1; rcases Jci hn with h | ⟨c, _, h⟩
 .rw [h, Cr.mul_zero] at hb; exact absurd rfl hb.ne
 .have hc := (ha.mul h).uniq hb; have hc0 : c = 0 := by omega
  subst hc0; have hk : k = ct (k 0) := Pl.ext fun i => by
   show _ = if i = 0 then k 0 else 0
   split
   .rename_i hi; rw [hi]
   .rename_i hi; exact h.2 i (by omega)
  have := Jao ha.2 h.2; rw [Nat.add_zero, eb, ea, Cr.one_mul] at this; rw [hk, <- this]; exact (Cr.mul_one f).symm
theorem Gd.uniq {p q d e : Pl α} (h1 : Gd p q d) (h2 : Gd p q e) (hd : Mn d) (he : Mn e) : d = e :=
 hd.uniq he (h2.2.2 d h1.1 h1.2.1) (h1.2.2 e h2.1 h2.2.1)
theorem Jgl (a : α) : Dg (lin a) 1 := ⟨by show (1 : α) ≠ 0; exact Fd.ne, QK a⟩
theorem Jgj (r : Pl α) (k : Nat) : Dg (lpf r k) k := ⟨by rw [Jl9]; exact Fd.ne, Jd2 r k⟩
theorem su_one {r : Pl α} (h : Su r 1) : r = ct (r 0) := Pl.ext fun i => by
 show _ = if i = 0 then r 0 else 0
 split
 .rename_i hi; rw [hi]
 .rename_i hi; exact h i (by omega)
/-- the remainder of a division by x - a is the value at a -/
theorem Jsw {f b r : Pl α} {a : α} (hb : Fs b) (hr : Su r 1) (e : f = b * lin a + r) : r = ct (vl_ f a) := by
  have h1 := su_one hr
  have : vl_ f a = r 0 := by
    rw [e, Jjl (hb.mul ⟨2, QK a⟩) ⟨1, hr⟩, Y6 hb ⟨2, QK a⟩, Jfx, Cr.sub_self, Cr.mul_zero, Cr.zero_add, h1, Jo1]; rfl
  rw [this]; exact h1
theorem Jse {f : Pl α} {a : α} (hf : Fs f) (h : vl_ f a = 0) : Dv (lin a) f := by
 obtain ⟨n, hn⟩ := hf; obtain ⟨b, r, h1, h2, h3⟩ := Jqq (Jgl a) hn; have h4 := Jsw ⟨_, h1⟩ h3 h2; rw [h] at h4; refine ⟨b, ⟨_, h1⟩, ?_⟩; rw [h2, h4, Cr.mul_comm]; show _ + mo 0 0 = _; rw [Jss, Cr.add_zero]
theorem Jfw (r : Pl α) (x : α) : ∀ k, vl_ (lpf r k) x = 0 ↔ ∃ i, i < k /\ r i = x
 | 0 => ⟨fun h => absurd (by rw [<- h]; exact (Joy x).symm) (Fd.ne (α := α)), fun ⟨i, hi, _⟩ => by omega⟩
 | k + 1 => by
  rw [lpf, Y6 (Jgi r k) ⟨2, QK _⟩, Jfx]; constructor
  .intro h; rcases ZF h with h | h
   .obtain ⟨i, hi, e⟩ := (Jfw r x k).1 h; exact ⟨i, by omega, e⟩
   .exact ⟨k, by omega, (Cr.eq_of_sub h).symm⟩
  .rintro ⟨i, hi, e⟩; by_cases hik : i = k
   .subst hik; rw [e, Cr.sub_self, Cr.mul_zero]
   .rw [(Jfw r x k).2 ⟨i, by omega, e⟩, Cr.zero_mul]
theorem Jkd {f : Pl α} (hf : Fs f) (r : Pl α) : ∀ k, (∀ i, i < k -> vl_ f (r i) = 0) -> (∀ i j, i < j -> j < k -> r i ≠ r j) -> Dv (lpf r k) f
 | 0, _, _ => ⟨f, hf, (Cr.one_mul f).symm⟩
 | k + 1, h, hd => by
  obtain ⟨g, hg, e⟩ := Jkd hf r k (fun i hi => h i (by omega)) (fun i j h1 h2 => hd i j h1 (by omega)); have h1 := h k (by omega); rw [e, Y6 (Jgi r k) hg] at h1; rcases ZF h1 with h2 | h2
  .obtain ⟨i, hi, e2⟩ := (Jfw r (r k) k).1 h2; exact absurd e2 (hd i k hi (by omega))
  .obtain ⟨u, hu, e3⟩ := Jse hg h2; exact ⟨u, hu, by rw [e, e3, lpf, Cr.mul_assoc]⟩
open Classical in
/-- the monic greatest common divisor -/
noncomputable def gc (f g : Pl α) : Pl α := if h : ∃ d, Gd f g d /\ Fs d /\ (Mn d ∨ d = 0) then Classical.choose h else 0
open Classical in
noncomputable def qt (f g : Pl α) : Pl α := if h : ∃ a r d, Dg g d /\ Fs a /\ f = a * g + r /\ Su r d then Classical.choose h else 0
noncomputable def rm (f g : Pl α) : Pl α := f - qt f g * g
open Classical in
noncomputable def Qo (x : α) : α := if h : ∃ y, x * y = 1 then Classical.choose h else 0
theorem ZN {x : α} (h : x ≠ 0) : x * Qo x = 1 := by
 have h := Fd.inv x h; unfold Qo; rw [dif_pos h]; exact Classical.choose_spec h
theorem Yv {x y : α} (h : y * x = 1) : y = Qo x := by
 have h0 : x ≠ 0 := fun e => Fd.ne (α := α) (by rw [<- h, e, Cr.mul_zero]); exact Jol h0 (by rw [ZN h0, Cr.mul_comm, h])
theorem Jqa {x : α} (h : x ≠ 0) : Qo x ≠ 0 := fun e => Fd.ne (α := α) (by rw [<- ZN h, e, Cr.mul_zero])
end
end Go.Proofs.Ytppkigdakobebaa
namespace Go.Proofs.Ytppkigdakobebaa
/-! ### the elements of a field, and lists of them as polynomials -/
structure Ks where
  p : Nat
  m : Nat
  v : Nat
  g : Nat
  p2 : 2 <= p
  m0 : 0 < m
  q256 : p ^ m <= 256
  R : CR (p ^ m) (Qp p m) (JO p m (dv p v))
  G : Gn (p ^ m) (JO p m (dv p v)) g
def Ks.E (k : Ks) : Type := {x : Nat // x < k.p ^ k.m}
instance (k : Ks) : Cr k.E where
  add x y := ⟨Qp k.p k.m x.1 y.1, k.R.Al _ _⟩
  mul x y := ⟨JO k.p k.m (dv k.p k.v) x.1 y.1, k.R.Ml _ _⟩
  neg x := ⟨Jcx k.p k.m x.1, Jc8 (by have := k.p2; omega) _⟩
  zero := ⟨0, k.R.pos⟩
  one := ⟨1, k.R.one_lt⟩
  ac x y := Subtype.ext (k.R.Ac _ _)
  aa x y z := Subtype.ext (k.R.Aa x.2 y.2 z.2)
  az x := Subtype.ext (k.R.Az x.2)
  an x := Subtype.ext (Jih (by have := k.p2; omega) x.2)
  mc x y := Subtype.ext (k.R.Mc x.2 y.2)
  ma x y z := Subtype.ext (k.R.Ma x.2 y.2 z.2)
  m1 x := Subtype.ext (k.R.M1 x.2)
  md x y z := Subtype.ext (k.R.Md x.2 y.2 z.2)
theorem Ks.inv (k : Ks) (x : k.E) (h : x ≠ 0) : ∃ y : k.E, x * y = 1 := by
 have h0 : 0 < x.1 := Nat.pos_of_ne_zero fun e => h (Subtype.ext e); obtain ⟨a, ha, e⟩ := k.G.surj k.R h0 x.2; refine ⟨⟨pw (JO k.p k.m (dv k.p k.v)) k.g (k.p ^ k.m - 1 - a), k.R.pw_lt _ _⟩, Subtype.ext ?_⟩; show JO k.p k.m (dv k.p k.v) x.1 _ = 1; rw [<- e, <- k.R.pw_add k.G.lt, show a + (k.p ^ k.m - 1 - a) = k.p ^ k.m - 1 by omega, k.G.one]
instance (k : Ks) : Fd k.E where
  ne := fun h => absurd (congrArg Subtype.val h) (by show ¬ (1 : Nat) = 0; omega)
  inv := k.inv
namespace Ks
variable (k : Ks)
def el (x : Int) : k.E := ⟨inE (k.p ^ k.m) x, Q3 k.R.pos x⟩
def co (e : k.E) : Int := ((e.1 : Nat) : Int)
variable {k}
theorem Jin (e : k.E) : 0 <= k.co e /\ k.co e < ((k.p ^ k.m : Nat) : Int) := ⟨Int.natCast_nonneg _, Int.ofNat_lt.2 e.2⟩
theorem Qx (e : k.E) : k.el (k.co e) = e := Subtype.ext (Yh e.2)
theorem Zw {x : Int} (h : 0 <= x /\ x < ((k.p ^ k.m : Nat) : Int)) : k.co (k.el x) = x := by
 show ((inE _ x : Nat) : Int) = x; unfold inE; rw [if_pos h]; omega
theorem Jqr {a b : k.E} (h : k.co a = k.co b) : a = b := Subtype.ext (Int.ofNat.inj h)
theorem Jb4 {a : k.E} : k.co a = 0 ↔ a = 0 := ⟨fun h => Jqr h, fun h => by rw [h]; rfl⟩
theorem ZR : k.el 0 = 0 := Subtype.ext (Yh (x := 0) k.R.pos)
variable (k)
def pol (l : LI) : Pl k.E := fun i => k.el (vo l i)
def Ell (l : LI) : Prop := ∀ i, i < l.length -> 0 <= vo l i /\ vo l i < ((k.p ^ k.m : Nat) : Int)
/-- l is the canonical list of f -/
def Rp (l : LI) (f : Pl k.E) : Prop := k.Ell l /\ (0 < l.length -> vo l (l.length - 1) ≠ 0) /\ k.pol l = f
variable {k}
theorem Yq (l : LI) : Su (k.pol l) l.length := fun i hi => by
 show k.el (vo l i) = 0; rw [Jhh hi, ZR]
theorem Rp.su {l : LI} {f : Pl k.E} (h : k.Rp l f) : Su f l.length := by rw [<- h.2.2]; exact Yq l
theorem Rp.dg {l : LI} {f : Pl k.E} (h : k.Rp l f) (h0 : 0 < l.length) : Dg f (l.length - 1) := by
 refine ⟨fun e => h.2.1 h0 ?_, by rw [show l.length - 1 + 1 = l.length by omega]; exact h.su⟩; rw [<- h.2.2] at e; have h1 := h.1 (l.length - 1) (by omega); have : k.co (k.el (vo l (l.length - 1))) = 0 := by
  show k.co (k.pol l (l.length - 1)) = 0; rw [e]; rfl
 rwa [Zw h1] at this
theorem Rp.at_ {l : LI} {f : Pl k.E} (h : k.Rp l f) {i : Nat} (hi : i < l.length) : vo l i = k.co (f i) := by
 rw [<- h.2.2]; exact (Zw (h.1 i hi)).symm
theorem Rp.len {l : LI} {f : Pl k.E} (h : k.Rp l f) {d : Nat} (hd : Dg f d) : l.length = d + 1 := by
 rcases Nat.eq_zero_or_pos l.length with h0 | h0
 .have := h.su; rw [h0] at this; exact absurd (this.eq0) hd.ne
 .have := (h.dg h0).uniq hd; omega
theorem Rp.uniq {l l' : LI} {f : Pl k.E} (h : k.Rp l f) (h' : k.Rp l' f) : l = l' := by
 have hl : l.length = l'.length := by
  rcases Nat.eq_zero_or_pos l'.length with h0 | h0
  .rcases Nat.eq_zero_or_pos l.length with h1 | h1
   .omega
   .have := h'.len (h.dg h1); omega
  .have := h.len (h'.dg h0); omega
 exact QY hl fun i hi => by rw [h.at_ hi, h'.at_ (by omega)]
theorem Zm (f : Nat -> Int) (n i : Nat) : vo ((List.range n).map f) i = if i < n then f i else 0 := by
 unfold vo; rw [List.getD_eq_getElem?_getD, List.getElem?_map]; split
 .rename_i h; rw [List.getElem?_range h]; rfl
 .rename_i h; rw [List.getElem?_eq_none (by simp; omega)]; rfl
variable (k)
open Classical in
/-- the canonical list -/
noncomputable def L (f : Pl k.E) : LI := if h : ∃ l, k.Rp l f then Classical.choose h else []
variable {k}
/-- what Degree answers -/
def DegI (f : Pl k.E) (r : Int) : Prop := (r = -1 /\ f = 0) ∨ ∃ d : Nat, r = d /\ Dg f d
theorem DegI.uniq {f : Pl k.E} {r r' : Int} (h : DegI f r) (h' : DegI f r') : r = r' := by
 rcases h with ⟨h1, h2⟩ | ⟨d, h1, h2⟩ <;> rcases h' with ⟨h3, h4⟩ | ⟨e, h3, h4⟩
 .omega
 .exact absurd h2 h4.ne
 .exact absurd h4 h2.ne
 .have := h2.uniq h4; omega
end Ks
end Go.Proofs.Ytppkigdakobebaa
namespace Go.Proofs.Ytppkigdakobebaa
open Ks
/-! ### the field's operations -/
section
variable {k : Ks} {F : GFv} {P M : Int} {mf : LI}
theorem el0 {x : Int} : k.el x = 0 ↔ inE (k.p ^ k.m) x = 0 := ⟨fun h => congrArg Subtype.val h, fun h => Subtype.ext h⟩
theorem Jot {x y : Int} {Q : Int -> Prop} (K : GFk F k.p k.m k.v k.g) (h : Q (k.co (k.el x * k.el y))) : Jcl F x y Q := v_Mul K h
theorem w_Add {x y : Int} {Q : Int -> Prop} (K : GFk F k.p k.m k.v k.g) (h : Q (k.co (k.el x + k.el y))) : Jfo F x y Q := v_Add K h
theorem w_Sub {x y : Int} {Q : Int -> Prop} (K : GFk F k.p k.m k.v k.g) (h : Q (k.co (k.el x - k.el y))) : Jja F x y Q := v_Sub K h
theorem w_Inv {x : Int} {Q : Int × Int -> Prop} (K : GFk F k.p k.m k.v k.g) (h0 : k.el x = 0 -> Q (0, 7)) (h1 : k.el x ≠ 0 -> Q (k.co (Qo (k.el x)), 0)) : Jjc F x Q :=
 v_Inv K (fun h => h0 (el0.2 h)) fun z hne hz hi => by
  let u : k.E := ⟨z, hz⟩
  have e : u * k.el x = 1 := Subtype.ext hi; have := h1 (fun h => hne (el0.1 h)); rw [<- Yv e] at this; exact this
theorem Jor {x y : Int} {Q : Int -> Prop} (hF : FV P M mf k.p k.m k.v) (h : Q (k.co (k.el x + k.el y))) : ZC P M mf x y Q := Jjp hF h
theorem Jbg {x y : Int} {Q : Int -> Prop} (hF : FV P M mf k.p k.m k.v) (h : Q (k.co (k.el x * k.el y))) : YC P M mf x y Q := Jo6 hF h
/-! ### lists that a loop fills -/
def Fill (val : Nat -> Int) (n : Nat) (x : LI) (z : Int) : Prop := ∃ j : Nat, z = j /\ j <= n /\ x.length = n /\ ∀ i, i < j -> vo x i = val i
theorem YF (val : Nat -> Int) (n : Nat) : Fill val n (List.replicate n (0 : Int)) 0 := ⟨0, rfl, Nat.zero_le _, List.length_replicate, fun i hi => by omega⟩
theorem Fill.step {val : Nat -> Int} {n j : Nat} {x : LI} (h : Fill val n x j) (hj : j < n) {u : Int} (hu : u = val j) : Fill val n (si x j u) ((j : Int) + 1) := by
 obtain ⟨i, e, h1, h2, h3⟩ := h; obtain rfl : j = i := by omega
 refine ⟨j + 1, by push_cast; rfl, hj, by rw [Qi, List.length_set, h2], fun i hi => ?_⟩; rw [Qi, Qa]; by_cases e2 : j = i
 .subst e2; rw [if_pos ⟨rfl, by omega⟩, hu]
 .rw [if_neg (fun h => e2 h.1)]; exact h3 i (by omega)
end
end Go.Proofs.Ytppkigdakobebaa
namespace Go.Proofs.Ytppkigdakobebaa
open Ks
/-! ### products, quotients, greatest common divisors -/
section
variable {k : Ks} {F : GFv} {P M : Int} {mf : LI}
variable (k) in
def lpm (fs : LL) : Nat -> Pl k.E
  | 0 => 1
  | n + 1 => lpm fs n * k.pol (gl fs n)
end
end Go.Proofs.Ytppkigdakobebaa
namespace Go.Proofs.Ytppkigdakobebaa
open Ks
/-! ### greatest common divisors, values, derivatives, roots -/
section
variable {k : Ks} {F : GFv} {P M : Int} {mf : LI}
/-- what cofactor answers -/
structure Cof (f h d u : Pl k.E) : Prop where
  fu : Fs u
  ex : ∃ v, Fs v /\ d = u * f + v * h
  z0 : h = 0 -> f = 0 -> u = 0
  z1 : h = 0 -> f ≠ 0 -> ∃ c, c ≠ 0 /\ u = ct c
  dg : ∀ b e, Dg h b -> Dg d e -> Su u (b - e)
theorem w_eval {p : LI} {x : Int} {Q : Int -> Prop} (K : GFk F k.p k.m k.v k.g) (h : Q (k.co (vl_ (k.pol p) (k.el x)))) : Jhd F p x Q := by
 show ∃ I, _; refine ⟨fun i z => i <= p.length /\ z = k.co (evp (fun j => k.pol p (p.length - i + j)) i (k.el x)), ⟨Nat.zero_le _, rfl⟩, ?_, ?_⟩
 .rintro i hi _ ⟨_, rfl⟩; refine ⟨_, Jot K rfl, w_Add K ⟨by omega, ?_⟩⟩; rw [Qx, Qx, JG]
  congr 1
  show _ = sgm (fun j => k.pol p (p.length - (i + 1) + j) * pwr (k.el x) j) (i + 1); rw [Jbj, Cr.add_comm]
  congr 1
  .show k.el (vo p (p.length - 1 - i)) = k.pol p (p.length - (i + 1) + 0) * pwr (k.el x) 0; rw [pwr, Cr.mul_one, show p.length - (i + 1) + 0 = p.length - 1 - i by omega]; rfl
  .unfold evp; rw [<- Jas]; exact J3 fun j hj => by
    rw [pwr, Cr.mul_assoc, show p.length - (i + 1) + (j + 1) = p.length - i + j by omega]
 .rintro _ ⟨_, rfl⟩; rw [YH (Yq p)] at h; have : (fun j => k.pol p (p.length - p.length + j)) = k.pol p := Pl.ext fun j => by rw [Nat.sub_self, Nat.zero_add]
  rw [this]; exact h
variable (k) in
def rvs (f : Pl k.E) (n : Nat) : Pl k.E := fun i => if i <= n then f (n - i) else 0
variable (k) in
open Classical in
/-- the roots among the elements below n -/
noncomputable def rts (f : Pl k.E) : Nat -> LI
  | 0 => []
  | n + 1 => if vl_ f (k.el (n : Int)) = 0 then rts f n ++ [(n : Int)] else rts f n
end
end Go.Proofs.Ytppkigdakobebaa
namespace Go.Proofs.Ytppkigdakobebaa
open Ks
/-! ### derivatives, interpolation -/
section
variable {k : Ks} {F : GFv} {P M : Int} {mf : LI}
theorem Jr6 {Q : Int × Int × LI -> Prop} (K : GFk F k.p k.m k.v k.g) (h : Q ((k.p : Int), F.M, F.mod)) : Jbe F Q := by
 unfold Jbe Y4; have hl : F.mod.length <= 1000000 := by
  have h8 := K.fv.m8; by_cases hm1 : k.m = 1
  .rw [(K.fv.m1 hm1).1]; simp
  .rw [K.fv.m2 hm1, JZ]; omega
 refine Y8 hl ?_; rw [K.fv.eP]; exact h
end
end Go.Proofs.Ytppkigdakobebaa
namespace Go.Proofs.Ytppkigdakobebaa
open Ks
/-! ### the reference's quotients, values; what the laws ask first -/
section
variable {k : Ks} {F : GFv} {P M : Int} {mf : LI}
end
theorem FV.same {P M : Int} {mf : LI} {p m v p' m' v' : Nat} (F : FV P M mf p m v) (F' : FV P M mf p' m' v') : p = p' /\ m = m' /\ v = v' := by
 have h1 := F.eP; have h2 := F'.eP; have h3 := F.eM; have h4 := F'.eM; have e1 : p = p' := by omega
 have e2 : m = m' := by omega
 subst e1; subst e2; refine ⟨rfl, rfl, ?_⟩; have hp := F.p2; rw [<- Z4 (p := p) (m := m) (by omega) F.vlt, <- Z4 (p := p) (m := m) (by omega) F'.vlt, <- F.vo, <- F'.vo]
theorem prime2 : IsLf 2 2 := ⟨by decide, rfl, fun e he _ => he⟩
end Go.Proofs.Ytppkigdakobebaa
namespace Go.Proofs.Ytppkigdakobebaa
open Go.RowKit Go.Shelf Go.Sort
/-! ### the library's sort of a row of ints of the call's own -/
def srt (l : LI) : LI := l.mergeSort fun x y => decide (x <= y)
theorem Jhr (l : LI) : (srt l).Perm l := List.mergeSort_perm _ _
theorem Jlt (l : LI) : (srt l).length = l.length := (Jhr l).length_eq
theorem Jpf {P : Program} {ρ : Ren} (Ly : Lays.n189 P ρ) {w : World} {e n k : Nat} {A : Option Addr} {l : LI} (h : Own 0 w e 1 A n k (is l)) (hl : l.length < 4611686018427387904) :
  Calls P (ρ.f 189) #[.slice A n k] w fun e' w' => ∃ v cs', e' = .returned v /\ w.grownBy w' (bl A) /\ Own 0 w' e 1 A n k cs' /\ v = .tuple #[] /\ cs' = is (srt l) := by
 have hn : l.length = n := h.rd.ilen; subst hn; rcases h.2 with ⟨h1, h2⟩ | ⟨g, cap, cur, h1, h2, h3, h4, h5, h6, h7⟩
 .injection h1 with hA hl0 hk; subst hA hk; have hl1 : l = [] := List.eq_nil_of_length_eq_zero hl0; subst hl1; refine (Any.slices_Sort_int_none Ly none 0 w).mono ?_; rintro _ w' ⟨rfl, rfl⟩; exact ⟨_, _, rfl, World.grownBy.refl _ _, by simpa [srt] using h, rfl, rfl⟩
 .cases h1; have hb : g < w.heap.size := by
   rcases Nat.lt_or_ge g w.heap.size with q | q
   .exact q
   .rw [Array.getElem?_eq_none q] at h3; cases h3
  refine (Any.slices_Sort_int Ly g 0 k l w (holds_of_blockI h3 (by simpa [is] using h7)) hb hl).mono ?_; rintro _ w' ⟨rfl, n, os, rfl⟩; refine ⟨_, _, rfl, grownBy_sortedI _, ?_, rfl, rfl⟩; exact ownsRow_sortedI (ss := l) (ts := srt l) (Jlt l) h2 h3 h4 h5 h6
theorem Jim {P : Program} {ρ : Ren} (Ly : Lays2.n20 P ρ) {w : World} {e n k : Nat} {A : Option Addr} {l : LI} (h : Own 0 w e 1 A n k (is l)) (hl : l.length <= 9223372036854775807) :
  Calls P (ρ.f 20) #[.slice A n k] w fun e' w' => ∃ l2 : LI, e' = .returned (.slice A (Go.Lib.compact l).length k) /\ w.grownBy w' (bl A) /\ Own 0 w' e 1 A n k (is l2) := by
 have hn : l.length = n := h.rd.ilen; subst hn; rcases h.2 with ⟨h1, h2⟩ | ⟨g, cap, cur, h1, h2, h3, h4, h5, h6, h7⟩
 .injection h1 with hA hl0 hk; subst hA hk; have hl1 : l = [] := List.eq_nil_of_length_eq_zero hl0; subst hl1; refine (Any.slices_Compact_int_empty Ly none 0 w).mono ?_; rintro _ w' ⟨rfl, rfl⟩; exact ⟨[], rfl, World.grownBy.refl _ _, h⟩
 .cases h1; refine (Any.slices_Compact_int Ly g 0 k l w (holds_of_blockI h3 (by simpa [is] using h7)) hl h4).mono ?_; rintro _ w' ⟨rfl, n, rfl⟩; have hc : (Go.Lib.compact l).length <= l.length := by
   unfold Go.Lib.compact Go.Lib.compactUpTo; rw [List.length_map]; exact Nat.le_trans (List.length_filter_le _ _) (by rw [List.length_range]; exact Nat.le_refl _)
  have e0 : ∀ W : World, grow W #[] = W := fun W => by simp [grow]
  refine ⟨Go.Lib.compact l ++ List.replicate (l.length - (Go.Lib.compact l).length) 0, rfl, ?_, ?_⟩
  .have := grownBy_sortedI (w := w) (g := g) (n := n) (os := #[]) (Go.Lib.compact l ++ List.replicate (l.length - (Go.Lib.compact l).length) 0).toArray
   rwa [e0] at this
  .have := ownsRow_sortedI (w := w) (g := g) (n := n) (os := #[]) (ss := l) (ts := Go.Lib.compact l ++ List.replicate (l.length - (Go.Lib.compact l).length) 0) (by simp; omega) h2 h3 h4 h5 h6
   rwa [e0] at this
/-! ### equal neighbours in a sorted list -/
theorem Jju (l : LI) : (srt l).Pairwise (fun x y => x <= y) := by
  have := List.pairwise_mergeSort (le := fun x y : Int => decide (x <= y)) (fun a b c h1 h2 => by simp only [decide_eq_true_eq] at *; omega) (fun a b => by simp only [Bool.or_eq_true, decide_eq_true_eq]; omega) l
  exact this.imp fun h => of_decide_eq_true h
theorem Jef {l : LI} : (Go.Lib.compact (srt l)).length < (srt l).length ↔ ¬ l.Nodup := by
 have e1 : (Go.Lib.compact (srt l)).length < (srt l).length ↔ ∃ j, j < (srt l).length /\ Go.Lib.keeps (srt l).toArray j = false := by
  unfold Go.Lib.compact Go.Lib.compactUpTo; rw [List.length_map]; have h := List.length_filter_lt_length_iff_exists (l := List.range (srt l).length) (p := Go.Lib.keeps (srt l).toArray); rw [List.length_range] at h; rw [h]; constructor
  .rintro ⟨x, h1, h2⟩; exact ⟨x, List.mem_range.1 h1, by simpa using h2⟩
  .rintro ⟨x, h1, h2⟩; exact ⟨x, List.mem_range.2 h1, by simpa using h2⟩
 rw [e1, <- (Jhr l).nodup_iff]; have hs := List.pairwise_iff_getElem.1 (Jju l); unfold List.Nodup; rw [List.pairwise_iff_getElem]; constructor
 .rintro ⟨j, hj, hk⟩ hn; have hk2 : ¬ (j = 0 ∨ (srt l).toArray[j]! ≠ (srt l).toArray[j - 1]!) := by simpa [Go.Lib.keeps] using hk
  have h0 : j ≠ 0 := fun e => hk2 (.inl e); have h1 : (srt l).toArray[j]! = (srt l).toArray[j - 1]! := Classical.byContradiction fun e => hk2 (.inr e); rw [getElem!_pos _ j (by simpa using hj), getElem!_pos _ (j - 1) (by simp; omega)] at h1; simp only [List.getElem_toArray] at h1; exact hn (j - 1) j (by omega) hj (by omega) h1.symm
 .intro hn; refine Classical.byContradiction fun hc => hn fun i j hi hj hij e => ?_; have hne : ∀ j, (h : j < (srt l).length) -> (h0 : 0 < j) -> (srt l)[j - 1] ≠ (srt l)[j] := fun j h h0 e => hc ⟨j, h, by
   unfold Go.Lib.keeps; rw [getElem!_pos _ j (by simpa using h), getElem!_pos _ (j - 1) (by simp; omega)]; simp only [List.getElem_toArray, e, ne_eq, not_true, or_false, decide_eq_false_iff_not]; omega⟩
  have h2 := hs i (j - 1) hi (by omega); have h3 := hs (j - 1) j (by omega) hj (by omega); have h4 := hne j hj (by omega); have h5 : (srt l)[i] <= (srt l)[j - 1] := by
   rcases Nat.lt_or_ge i (j - 1) with q | q
   .exact h2 q
   .have : i = j - 1 := by omega
    subst this; exact Int.le_refl _
  omega
end Go.Proofs.Ytppkigdakobebaa
namespace Go.Proofs.Ytppkigdakobebaa
open Go.RowKit Go.Shelf
/-! ### the library's sort and its Compact, in this program -/
def sl_ren : Go.Shelf.Ren := ⟨fun | 189 => 56 | 125 => 103 | 257 => 102 | 128 => 138 | 129 => 139 | 294 => 129 | 295 => 130 | 296 => 131 | 297 => 132 | 298 => 133 | 299 => 134 | 216 => 135 | 300 => 136 | 301 => 137 | 328 => 152 | 329 => 153 | 330 => 154 | 331 => 155 | 332 => 156 | 215 => 157 | 343 => 162 | n => n, fun | 28 => 22 | 3 => 3 | 46 => 68 | 0 => 0 | 51 => 142 | 53 => 144 | 4 => 4 | 183 => 134 | 182 => 133 | 131 => 139 | 5 => 5 | 9 => 9 | 218 => 151 | 222 => 155 | 228 => 158 | 229 => 130 | n => n, fun | n => n⟩
theorem Jsd : Go.Proofs.Lays.n189 Try.prog sl_ren := {
 mixed := by kernel_rfl
 f125 := Try.func103.trans (congrArg some (by kernel_rfl))
 f128 := Try.func138.trans (congrArg some (by kernel_rfl))
 f129 := Try.func139.trans (congrArg some (by kernel_rfl))
 f189 := Try.func56.trans (congrArg some (by kernel_rfl))
 f215 := Try.func157.trans (congrArg some (by kernel_rfl))
 f216 := Try.func135.trans (congrArg some (by kernel_rfl))
 f257 := Try.func102.trans (congrArg some (by kernel_rfl))
 f294 := Try.func129.trans (congrArg some (by kernel_rfl))
 f295 := Try.func130.trans (congrArg some (by kernel_rfl))
 f296 := Try.func131.trans (congrArg some (by kernel_rfl))
 f297 := Try.func132.trans (congrArg some (by kernel_rfl))
 f298 := Try.func133.trans (congrArg some (by kernel_rfl))
 f299 := Try.func134.trans (congrArg some (by kernel_rfl))
 f300 := Try.func136.trans (congrArg some (by kernel_rfl))
 f301 := Try.func137.trans (congrArg some (by kernel_rfl))
 f328 := Try.func152.trans (congrArg some (by kernel_rfl))
 f329 := Try.func153.trans (congrArg some (by kernel_rfl))
 f330 := Try.func154.trans (congrArg some (by kernel_rfl))
 f331 := Try.func155.trans (congrArg some (by kernel_rfl))
 f332 := Try.func156.trans (congrArg some (by kernel_rfl))
 f343 := Try.func162.trans (congrArg some (by kernel_rfl))
 t0 := Try.underlying0
 a0 := Try.isAgg0
 z0 := Try.sizeOf0
 v0 := Try.zeroValue0
 t3 := Try.underlying3
 a3 := Try.isAgg3
 z3 := Try.sizeOf3
 v3 := Try.zeroValue3
 t4 := Try.underlying4
 a4 := Try.isAgg4
 z4 := Try.sizeOf4
 v4 := Try.zeroValue4
 t5 := Try.underlying5
 a5 := Try.isAgg5
 z5 := Try.sizeOf5
 v5 := Try.zeroValue5
 t9 := Try.underlying9
 a9 := Try.isAgg9
 z9 := Try.sizeOf9
 v9 := Try.zeroValue9
 t28 := Try.underlying22
 a28 := Try.isAgg22
 z28 := Try.sizeOf22
 v28 := Try.zeroValue22
 t46 := Try.underlying68
 a46 := Try.isAgg68
 z46 := Try.sizeOf68
 v46 := Try.zeroValue68
 t51 := Try.underlying142
 a51 := Try.isAgg142
 z51 := Try.sizeOf142
 v51 := Try.zeroValue142
 t53 := Try.underlying144
 a53 := Try.isAgg144
 z53 := Try.sizeOf144
 v53 := Try.zeroValue144
 t131 := Try.underlying139
 a131 := Try.isAgg139
 z131 := Try.sizeOf139
 v131 := Try.zeroValue139
 t182 := Try.underlying133
 a182 := Try.isAgg133
 z182 := Try.sizeOf133
 v182 := Try.zeroValue133
 t183 := Try.underlying134
 a183 := Try.isAgg134
 z183 := Try.sizeOf134
 v183 := Try.zeroValue134
 t218 := Try.underlying151
 a218 := Try.isAgg151
 z218 := Try.sizeOf151
 v218 := Try.zeroValue151
 t222 := Try.underlying155
 a222 := Try.isAgg155
 z222 := Try.sizeOf155
 v222 := Try.zeroValue155
 t228 := Try.underlying158
 a228 := Try.isAgg158
 z228 := Try.sizeOf158
 v228 := Try.zeroValue158
 t229 := Try.underlying130
 a229 := Try.isAgg130
 z229 := Try.sizeOf130
 v229 := Try.zeroValue130 }
def cp_ren : Go.Shelf.Ren := ⟨fun | 20 => 142 | n => n, fun | 22 => 22 | 3 => 3 | 4 => 4 | 0 => 0 | n => n, fun | n => n⟩
theorem Jtc : Go.Proofs.Lays2.n20 Try.prog cp_ren := {
 mixed := by kernel_rfl
 f20 := Try.func142.trans (congrArg some (by kernel_rfl))
 t0 := Try.underlying0
 a0 := Try.isAgg0
 z0 := Try.sizeOf0
 v0 := Try.zeroValue0
 t3 := Try.underlying3
 a3 := Try.isAgg3
 z3 := Try.sizeOf3
 v3 := Try.zeroValue3
 t4 := Try.underlying4
 a4 := Try.isAgg4
 z4 := Try.sizeOf4
 v4 := Try.zeroValue4
 t22 := Try.underlying22
 a22 := Try.isAgg22
 z22 := Try.sizeOf22
 v22 := Try.zeroValue22
 i3 := by kernel_rfl }
def Jg9 (l : LI) (Q : LI -> Prop) : Prop := l.length < 4611686018427387904 /\ Q (srt l)
theorem Jsk {w : World} {Q : LI -> Prop} {l : LI} {Al : Option Addr} {nl kl : Nat} (hl : Own 0 w 3 1 Al nl kl (is l)) (hv : Jg9 l Q) :
  Calls Try.prog 56 #[.slice Al nl kl] w fun e w' => ∃ v cs', e = .returned v /\ w.grownBy w' (bl Al) /\ Own 0 w' 3 1 Al nl kl cs' /\ ∃ x : LI, v = .tuple #[] /\ cs' = is x /\ Q x :=
 (Jpf Jsd hl hv.1).mono fun e w' ⟨v, cs', h1, h2, h3, h4, h5⟩ => ⟨v, cs', h1, h2, h3, _, h4, h5, hv.2⟩
def Y5 (l : LI) (Q : Nat -> Prop) : Prop := l.length <= 9223372036854775807 /\ Q (Go.Lib.compact l).length
theorem Jj8 {w : World} {Q : Nat -> Prop} {l : LI} {Al : Option Addr} {nl kl : Nat} (hl : Own 0 w 3 1 Al nl kl (is l)) (hv : Y5 l Q) :
  Calls Try.prog 142 #[.slice Al nl kl] w fun e w' => ∃ v cs', e = .returned v /\ w.grownBy w' (bl Al) /\ Own 0 w' 3 1 Al nl kl cs' /\ ∃ (x : LI) (r : Nat), v = .slice Al r kl /\ cs' = is x /\ Q r :=
 (Jim Jtc hl hv.1).mono fun e w' ⟨l2, h1, h2, h3⟩ => ⟨_, _, h1, h2, h3, _, _, rfl, rfl, hv.2⟩
end Go.Proofs.Ytppkigdakobebaa
set_option maxRecDepth 4000
set_option maxHeartbeats 4000000
namespace Go.Proofs.Ytppkigdakobebaa
open Go.RowKit
def Jej (l : LI) (Q : Unit -> Prop) : Prop :=
  Q ()
theorem Jm8 {w : World} {Q : Unit -> Prop} {l : LI} {Bl : Nat} {Al : Option Addr} {nl kl : Nat} (hl : Rd Bl w 1 Al nl kl (is l)) (hv : Jej l Q) :
  Calls Try.prog 141 #[.slice Al nl kl] w <| Rt w fun v Qr => ∃ g : Nat, v = .func (.func 159) #[] #[.pointer (some ⟨g, 0, none⟩)] /\ Qr = [.row 22 1 (some ⟨g, 0, none⟩) 1 1 [.slice Al nl kl]] /\ Q () := by
 have hnl := hl.ilen; subst hnl; refine Jn <| Jl (vs := [nS Al l kl]) [2] XF141 rfl rfl rfl rfl ?_; have hS := Jt w; unfold Jej at hv; refine Jd 2 <| JH (z := 1) (cs := [nS Al l kl]) hS rfl rfl rfl rfl ?_; intro g11 w12 hS; refine Jc 2 <| Jd 2 <| Yd (vs := [nP g11]) rfl rfl <| Jc 2 <| W.ret <| ⟨_, rfl, Fin.nil ?_⟩
 exact (hS.pick [0] rfl).fin rfl ⟨g11, rfl, rfl, hv⟩
def Jeo (l : LI) (x : Int) (Q : Int -> Prop) : Prop :=
  ∃ (I14 : Int -> Prop) (μ15 : Int -> Nat), I14 0 /\ ∀ (z13 : Int), (I14 z13 -> (((z13 < (l.length : Int)) -> ((0 <= z13 /\ z13 < (l.length : Nat)) /\ (((x = (gi l z13)) -> Q z13) /\ (¬ (x = (gi l z13)) -> ((I64 (z13 + 1)) /\ (I14 (z13 + 1) /\ μ15 (z13 + 1) < μ15 z13)))))) /\ (¬ (z13 < (l.length : Int)) -> (Q (-1 : Int)))))
theorem Jnf {w : World} {Q : Int -> Prop} {l : LI} {x : Int} {Bl : Nat} {Al : Option Addr} {nl kl : Nat} (hl : Rd Bl w 1 Al nl kl (is l)) (hv : Jeo l x Q) :
   Calls Try.prog 143 #[.slice Al nl kl, .int .i64 x] w <| Rt w fun v Qr => ∃ (r0 : Int), v = .int .i64 r0 /\ Qr = [] /\ Q r0 := by
 have hnl := hl.ilen; subst hnl; refine Jn <| Jl (vs := [nS Al l kl, nI x]) [4] XF143 rfl rfl rfl rfl ?_; have hS := Jt w; unfold Jeo at hv; refine Jd 8 <| WL.len Jh rfl rfl <| Jc 2 <| W.block ?_; obtain ⟨I14, μ15, hv, hk21⟩ := hv; refine JE (σ := Int) (fun z13 w1 => I14 z13 /\ St TT w none w1 []) (fun z13 => [(0, nS Al l kl), (1, nI x), (4, nI 0), (7, nI (l.length : Int)), (8, nI z13)]) (fun z13 => μ15 z13) (0 : Int) ⟨hv, hS⟩ ⟨rfl, rfl, rfl, rfl, rfl, trivial⟩ ?_; rintro z13 w16 ⟨hv, hS⟩; have hv := hk21 z13 hv; refine Jd 5 <| Jj rfl (fun c17 => ?_) (fun c17 => ?_)
 .have hv := hv.1 (oT c17); refine Jr <| JA <| W.block <| Jd 10 ?_; obtain ⟨o18, hv⟩ := hv; refine Jo Jh XE3 (hS.ro hl) rfl rfl o18 rfl <| Js XU3 rfl rfl (JJ (hS.ro hl) o18) rfl <| Jc 2 <| Jj rfl (fun c19 => ?_) (fun c19 => ?_)
  .have hv := hv.1 (oT c19); refine Jd 5 <| W.ret <| ⟨_, rfl, Fin.nil ?_⟩
   exact (hS.pick [] rfl).fin rfl ⟨z13, rfl, rfl, hv⟩
  have hv := hv.2 (oF c19); refine Jr <| JI ?_; obtain ⟨o20, hv⟩ := hv; refine WL.add (r := (z13 + 1)) rfl rfl (wr o20) rfl <| Jc 2 ?_; exact ⟨(z13 + 1), sp rfl, hv.2, rfl, hv.1, hS⟩
 have hv := hv.2 (oF c17); refine JB <| Jd 4 <| W.ret <| ⟨_, rfl, Fin.nil ?_⟩
 exact (hS.pick [] rfl).fin rfl ⟨(-1 : Int), rfl, rfl, hv⟩
def YN (l : LI) (x : Int) (Q : Bool -> Prop) : Prop :=
  Jeo l x (fun r12 => Q (decide ((0 : Int) <= r12)))
theorem Jgc {w : World} {Q : Bool -> Prop} {l : LI} {x : Int} {Bl : Nat} {Al : Option Addr} {nl kl : Nat} (hl : Rd Bl w 1 Al nl kl (is l)) (hv : YN l x Q) :
  Calls Try.prog 106 #[.slice Al nl kl, .int .i64 x] w <| Rt w fun v Qr => ∃ (r0 : Bool), v = .bool r0 /\ Qr = [] /\ Q r0 := by
 have hnl := hl.ilen; subst hnl; refine Jn <| Jl (vs := [nS Al l kl, nI x]) [4] XF106 rfl rfl rfl rfl ?_; have hS := Jt w; unfold YN at hv; refine Jd 8 <| SL.call hS (Jnf (hS.ro hl) hv) XF143 rfl XN143 rfl rfl ?_; rintro _ _ w11 ⟨r12, rfl, rfl, hv⟩ hGw11 hS; have hS := hS.n0; refine Jc 3 <| W.ret <| ⟨_, rfl, Fin.nil ?_⟩
 exact (hS.pick [] rfl).fin rfl ⟨(decide ((0 : Int) <= r12)), rfl, rfl, hv⟩
def Zh (l : LI) (Q : Bool -> Prop) : Prop :=
  Jej l (fun _ => ∃ (I48 : Nat -> LI -> Prop), I48 0 ([] : LI) /\ (∀ i35 : Nat, i35 < l.length -> ∀ (x44 : LI), I48 i35 x44 -> ((((x44.length : Nat) + (1 : Nat) : Int) * 8 <= 140737488355328) /\ (I48 (i35 + 1) (x44 ++ ([(gi l (i35 : Int))] : LI))))) /\ (∀ (x44 : LI), I48 l.length x44 -> ((fun (x28 : LI) => (fun (x21 : LI) => Jg9 x21 (fun x27 => (fun (x13 : LI) => Y5 x13 (fun r20 => Q (decide (((r20 : Nat) : Int) < (l.length : Int))))) x27)) x28) x44)))
theorem Jhy {w : World} {Q : Bool -> Prop} {l : LI} {Bl : Nat} {Al : Option Addr} {nl kl : Nat} (hl : Rd Bl w 1 Al nl kl (is l)) (hv : Zh l Q) :
   Calls Try.prog 105 #[.slice Al nl kl] w <| Rt w fun v Qr => ∃ (r0 : Bool), v = .bool r0 /\ Qr = [] /\ Q r0 := by
 have hnl := hl.ilen; subst hnl; refine Jn <| Jl (vs := [nS Al l kl]) [2] XF105 rfl rfl rfl rfl ?_; have hS := Jt w; unfold Zh at hv; refine Jd 7 <| SL.call hS (Jm8 (hS.ro hl) hv) XF141 rfl XN141 rfl rfl ?_; rintro _ _ w11 ⟨g12, rfl, rfl, hv⟩ hGw11 hS; have hS := hS.n1; refine Ja8 (vs := [.func (.func 159) #[] #[nP g12]]) (cs := []) (R := fun v1 w1 => ∃ (x13 : LI) (A14 : Option Addr) (k15 : Nat), v1 = nS A14 x13 k15 /\ (Y5 x13 (fun r20 => Q (decide (((r20 : Nat) : Int) < (l.length : Int))))) /\ St TT w none w1 [nR 3 A14 x13 k15, nV 22 g12 (nS Al l kl)]) rfl XF140 rfl XN140 rfl rfl (Jl (vs := [.func (.func 159) #[] #[nP g12]]) [2] XF140 rfl rfl rfl rfl ?_) ?_
 .refine JA ?_; refine Jd 3 <| Jd 3 <| Ja8 (vs := [.func (.func 159) #[] #[nP g12]]) (cs := []) (R := fun v1 w1 => ∃ (x21 : LI) (A22 : Option Addr) (k23 : Nat), v1 = nS A22 x21 k23 /\ (Jg9 x21 (fun x27 => (fun (x13 : LI) => Y5 x13 (fun r20 => Q (decide (((r20 : Nat) : Int) < (l.length : Int))))) x27)) /\ St TT w none w1 [nR 3 A22 x21 k23, nV 22 g12 (nS Al l kl)]) rfl XF158 rfl XN158 rfl rfl (Jl (vs := [.func (.func 159) #[] #[nP g12]]) [2] XF158 rfl rfl rfl rfl ?_) ?_
  .refine JA ?_; refine Jd 3 <| Jd 3 <| Ja8 (vs := [.slice none 0 0, .func (.func 159) #[] #[nP g12]]) (cs := []) (R := fun v1 w1 => ∃ (x28 : LI) (A29 : Option Addr) (k30 : Nat), v1 = nS A29 x28 k30 /\ ((fun (x21 : LI) => Jg9 x21 (fun x27 => (fun (x13 : LI) => Y5 x13 (fun r20 => Q (decide (((r20 : Nat) : Int) < (l.length : Int))))) x27)) x28) /\ St TT w none w1 [nR 3 A29 x28 k30, nV 22 g12 (nS Al l kl)]) rfl XF163 rfl XN163 rfl rfl (Jl (vs := [.slice none 0 0, .func (.func 159) #[] #[nP g12]]) [4] XF163 rfl rfl rfl rfl ?_) ?_
   .refine JA ?_; refine JI <| JH (z := 1) (cs := [.slice none 0 0]) hS rfl rfl rfl rfl ?_; intro g33 w34 hS; refine Jc 2 <| Jd 5 <| W.block ?_; obtain ⟨I48, hv, hk60, hd61⟩ := hv; have hS := hS.nil (e := 3) (z := 1); have hm0 : 0 = ([] : LI).length := (hS.rd (i := 0) rfl).ilen.symm; have hS := hS.relen (i := 0) rfl hm0
    change St _ _ _ _ [_, _, _] at hS
    refine Jbf (σ := LI × Option Addr × Nat) (fun i q => match q with | (x44, A45, k46) => I48 i x44) (fun (x44, A45, k46) => [.row 3 1 A45 x44.length k46 (is x44), .row 22 1 (some ⟨g33, 0, none⟩) 1 1 [.slice A45 x44.length k46], .row 22 1 (some ⟨g12, 0, none⟩) 1 1 [.slice Al l.length kl]]) (fun _ _ => False) (fun vs => [(2, .pointer (some ⟨g33, 0, none⟩)), (4, .slice none 0 0), (5, vs.getD 0 undef)]) (([] : LI), none, 0) hS hv (fun q => by obtain ⟨x44, A45, k46⟩ := q; exact trivial) rfl XF159 rfl XN159 (Jjm (A := Al) (m := l.length) (c := kl) (Rd.m64 (hS.ro hl))) (Below.refl _ _) (fun _ _ _ h => by obtain ⟨_, h, _⟩ := h; rw [h]; rfl) (fun i x => Jg3) (by decide) (fun _ q _ _ hS => by obtain ⟨x44, A45, k46⟩ := q; exact ⟨JT (hS.own (i := 2) rfl) 0 _ rfl, _, _, (hS.ro hl)⟩) ?_ ?_ ?_ ?_
    .intro lq vsq W1q hlq
     match vsq, hlq with
     | [a0], _ =>
      refine Jd 3 ?_; exact ⟨rfl, rfl, sp rfl⟩
    .rintro lq i35 _ ⟨x44, A45, k46⟩ w49 hi ⟨vb, rfl, hcell⟩ hI hS; have hvb : vb = (gi l (i35 : Int)) := Jk7 (hS.ro hl) hi hcell; subst hvb; have hv := hk60 i35 hi x44 hI; refine W.block <| JI <| Jp 1 0 Jh hS rfl rfl rfl ⟨rfl, rfl⟩ <| Jq rfl rfl <| JL (vs := is ([(gi l (i35 : Int))] : LI)) hS Jh XE3 rfl rfl rfl rfl (Jm _) rfl ?_; intro A50 w51 hS; obtain ⟨o53, hv⟩ := hv; refine SL.append (cs := is x44) (cs' := is ([(gi l (i35 : Int))] : LI)) 1 ((x44 ++ ([(gi l (i35 : Int))] : LI)).length) (is (x44 ++ ([(gi l (i35 : Int))] : LI))) hS rfl Jh XE3 (hS.rd (i := 0) rfl) (Jm _) rfl rfl (apk o53).1 (apk o53).2 (Jy (hS.rd (i := 1) rfl) (hS.rd (i := 0) rfl)) (Ji _ _) rfl ?_; intro A54 k55 w56 hS; refine Jf (cs' := [.slice A54 ((x44 ++ ([(gi l (i35 : Int))] : LI)).length) k55]) 2 0 hS rfl Jz rfl rfl rfl (Jk rfl) rfl ?_; intro w57 hS; refine Ja ?_; have hS := hS.pick [1, 2, 3] rfl; exact ⟨(x44 ++ ([(gi l (i35 : Int))] : LI), A54, k55), hv, hS⟩
    .rintro D58 ⟨x44, A45, k46⟩ w59 hv hD hS; have hv := hd61 x44 hv; refine Jd 2 <| Jp 2 0 Jh hS rfl rfl rfl ⟨rfl, rfl⟩ <| Jc 2 <| W.ret ?_; have hS := hS.pick [0, 1, 2, 3] rfl; obtain ⟨hDD58, hS⟩ := hS.taken trivial; have hS := hS.pick [0, 2] rfl; refine ⟨_, rfl, Fin.cons hDD58 (Fin.nil ?_)⟩; exact ⟨x44, A45, k46, (by first | rfl | exact sm0 (by first | assumption | omega)), hv, hS⟩
    rintro _ e _ _ _ hv; exact hv.elim
   rintro _ w32 ⟨x28, A29, k30, rfl, hv, hS⟩; refine Jc 2 <| W.ret <| ⟨_, rfl, Fin.nil ?_⟩
   exact ⟨x28, A29, k30, (by first | rfl | exact sm0 (by first | assumption | omega)), hv, hS⟩
  rintro _ w25 ⟨x21, A22, k23, rfl, hv, hS⟩; refine Jc 2 <| Jd 3 <| SL.callm 0 hS rfl (Jsk (hS.own (i := 0) rfl) hv) XF56 rfl XN56 rfl rfl ?_; rintro _ _ w26 ⟨x27, rfl, rfl, hv⟩ hS; refine Ja <| Jd 5 <| W.ret ?_; have hm0 : x21.length = x27.length := (hS.rd (i := 0) rfl).ilen.symm; have hS := hS.relen (i := 0) rfl hm0
  change St _ _ _ _ [_, _] at hS
  refine ⟨_, rfl, Fin.nil ?_⟩; exact ⟨x27, A22, k23, (by first | rfl | exact sm0 (by first | assumption | omega)), hv, hS⟩
 rintro _ w17 ⟨x13, A14, k15, rfl, hv, hS⟩; refine Jc 2 <| Jd 3 <| SL.callm 0 hS rfl (Jj8 (hS.own (i := 0) rfl) hv) XF142 rfl XN142 rfl rfl ?_; rintro _ _ w18 ⟨x19, r20, rfl, rfl, hv⟩ hS; refine WL.len Jh rfl rfl <| Jq rfl rfl <| WL.len Jh rfl rfl <| Jc 3 <| W.ret <| ⟨_, rfl, Fin.nil ?_⟩
 exact (hS.pick [] rfl).fin rfl ⟨(decide (((r20 : Nat) : Int) < (l.length : Int))), rfl, rfl, hv⟩
end Go.Proofs.Ytppkigdakobebaa
namespace Go.Proofs.Ytppkigdakobebaa
open Go.RowKit
def Zy (x : Int) (Fg : GFv) (Q : Bool -> Prop) : Prop :=
  V_Is Fg x (fun r12 => Q (!r12))
theorem Jga {w : World} {Q : Bool -> Prop} {x : Int} {Fg : GFv} {ag : Addr} {Bg : Nat} (hgg : GFR Bg w ag Fg) {cg : Addr} {bg : Nat} (hpg : Rd bg w 1 (some cg) 1 1 [.pointer (some ag)]) (hv : Zy x Fg Q) :
  Calls Try.prog 109 #[.int .i64 x, .pointer (some cg)] w <| Rt w fun v Qr => ∃ (r0 : Bool), v = .bool r0 /\ Qr = [] /\ Q r0 := by
 have hgg_ := hgg; obtain ⟨Ag_mod, kg_mod, Ag_exp, kg_exp, Ag_log, kg_log, Ag_above, kg_above, hg_c, hg_mod, hg_exp, hg_log, hg_above⟩ := hgg_; refine Jn <| Jl (vs := [nI x, .pointer (some cg)]) [3] XF109 rfl rfl rfl rfl ?_; have hS := Jt w; unfold Zy at hv; refine Jd 6 <| Js Jlb rfl rfl (Rd.at_ (hS.ro hpg) (j := 0) rfl) rfl <| Jq rfl rfl <| SL.call hS (ok_Is (GFR.ext (GFR.norm hgg) hS.ext) hv) Jrj rfl XN110 rfl rfl ?_; rintro _ _ w11 ⟨r12, rfl, rfl, hv⟩ hGw11 hS; have hS := hS.n0; refine Jc 3 <| W.ret <| ⟨_, rfl, Fin.nil ?_⟩
 exact (hS.pick [] rfl).fin rfl ⟨(!r12), rfl, rfl, hv⟩
def Qt (Fg : GFv) (l : LI) (Q : Bool -> Prop) : Prop :=
  Q5 l (fun xc Qc => Zy xc Fg Qc) (fun r14 => Q r14)
theorem Yt {w : World} {Q : Bool -> Prop} {Fg : GFv} {l : LI} {ag : Addr} {Bg : Nat} (hgg : GFR Bg w ag Fg) {Bl : Nat} {Al : Option Addr} {nl kl : Nat} (hl : Rd Bl w 1 Al nl kl (is l)) (hv : Qt Fg l Q) :
  Calls Try.prog 78 #[.pointer (some ag), .slice Al nl kl] w <| Rt w fun v Qr => ∃ (r0 : Bool), v = .bool r0 /\ Qr = [] /\ Q r0 := by
 have hgg_ := hgg; obtain ⟨Ag_mod, kg_mod, Ag_exp, kg_exp, Ag_log, kg_log, Ag_above, kg_above, hg_c, hg_mod, hg_exp, hg_log, hg_above⟩ := hgg_; have hnl := hl.ilen; subst hnl; refine Jn <| Jl (vs := [.pointer (some ag), nS Al l kl]) [4] XF78 rfl rfl rfl rfl ?_; have hS := Jt w; unfold Qt at hv; refine Jd 2 <| JH (z := 1) (cs := [.pointer (some ag)]) hS rfl rfl rfl rfl ?_; intro g11 w12 hS; refine Jc 2 <| Jd 3 <| Yd (vs := [nP g11]) rfl rfl <| SL.call hS (Zq (hS.ro hl) XF109 rfl XN109 (fun wc xc Qc hg hv => Jga ((GFR.ext (GFR.norm hgg) hS.ext).ext hg) ((hS.rd (i := 0) rfl).ext hg) hv) hv) XF54 rfl XN54 rfl rfl ?_; rintro _ _ w13 ⟨r14, rfl, rfl, hv⟩ hGw13 hS; have hS := hS.n0; refine Jc 2 <| W.ret <| ⟨_, rfl, Fin.nil ?_⟩
 exact (hS.pick [] rfl).fin rfl ⟨r14, rfl, rfl, hv⟩
def ZX (Pd : Int) (Md : Int) (md : LI) (Kd : Int) (da : LI) (db : LI) (Q : Option GFv × Int -> Prop) : Prop :=
  Jfn Pd Md md (fun q => match q with | (none, r15) => ((r15 ≠ 0) -> ((r15 ≠ 0) /\ Q (none, r15))) /\ (¬ (r15 ≠ 0) -> (∃ J24 : Int -> Prop, ((((da.length : Int) < (1 : Int)) -> (J24 4)) /\ (¬ ((da.length : Int) < (1 : Int)) -> ((((64 : Int) < (da.length : Int)) -> (J24 4)) /\ (¬ ((64 : Int) < (da.length : Int)) -> ((((db.length : Int) ≠ (da.length : Int)) -> (J24 10)) /\ (¬ ((db.length : Int) ≠ (da.length : Int)) -> False)))))) /\ ∀ (z23 : Int), (J24 z23 -> (((z23 ≠ 0) -> ((z23 ≠ 0) /\ Q (none, z23))) /\ (¬ (z23 ≠ 0) -> (((0 : Int) ≠ (0 : Int)) /\ Q (none, (0 : Int)))))))) | (some F16, r15) => ((r15 ≠ 0) -> ((r15 ≠ 0) /\ Q (none, r15))) /\ (¬ (r15 ≠ 0) -> (∃ J33 : Int -> Prop, ((((da.length : Int) < (1 : Int)) -> (J33 4)) /\ (¬ ((da.length : Int) < (1 : Int)) -> ((((64 : Int) < (da.length : Int)) -> (J33 4)) /\ (¬ ((64 : Int) < (da.length : Int)) -> ((((db.length : Int) ≠ (da.length : Int)) -> (J33 10)) /\ (¬ ((db.length : Int) ≠ (da.length : Int)) -> (Qt F16 da (fun r38 => ((r38 = true) -> (J33 2)) /\ (r38 = false -> (Qt F16 db (fun r41 => ((r41 = true) -> (J33 2)) /\ (r41 = false -> (Zh da (fun r44 => ((r44 = true) -> (J33 18)) /\ (r44 = false -> (YN db (0 : Int) (fun r47 => ((r47 = true) -> (J33 7)) /\ (r47 = false -> (((Kd < 0) -> (J33 6)) /\ (¬ (Kd < 0) -> ((((da.length : Int) < Kd) -> (J33 6)) /\ (¬ ((da.length : Int) < Kd) -> J33 r15)))))))))))))))))))))) /\ ∀ (z32 : Int), (J33 z32 -> (((z32 ≠ 0) -> ((z32 ≠ 0) /\ Q (none, z32))) /\ (¬ (z32 ≠ 0) -> (Q (some F16, (0 : Int)))))))))
theorem Jdy {w : World} {Q : Option GFv × Int -> Prop} {Pd : Int} {Md : Int} {md : LI} {Kd : Int} {da : LI} {db : LI} {Bd : Nat} {Ad : Option Addr} {nd kd : Nat} (hd : Rd Bd w 1 Ad nd kd (is md)) {Bda : Nat} {Ada : Option Addr} {nda kda : Nat} (hda : Rd Bda w 1 Ada nda kda (is da)) {Bdb : Nat} {Adb : Option Addr} {ndb kdb : Nat} (hdb : Rd Bdb w 1 Adb ndb kdb (is db)) (hv : ZX Pd Md md Kd da db Q) :
  Calls Try.prog 71 #[.agg #[.int .i64 Pd, .int .i64 Md, .slice Ad nd kd, .int .i64 Kd, .slice Ada nda kda, .slice Adb ndb kdb]] w <| Rt w fun v Qr => ∃ (o : Option GFv) (e2 : Int), Q (o, e2) /\ match o with | none => e2 ≠ 0 /\ v = .tuple #[.pointer none, .int .i64 e2] /\ Qr = [] | some F => e2 = 0 /\ ∃ (ad : Addr) (lo hi : Nat), v = .tuple #[.pointer (some ad), .int .i64 0] /\ Qr = [.ch lo hi (fun wz => GFX lo hi wz ad F)] := by
 have hnd := hd.ilen; subst hnd; have hnda := hda.ilen; subst hnda; have hndb := hdb.ilen; subst hndb; refine Jn <| Jl (vs := [.agg #[nI Pd, nI Md, nS Ad md kd, nI Kd, nS Ada da kda, nS Adb db kdb]]) [2, 3] XF71 rfl rfl rfl rfl ?_; have hS := Jt w; unfold ZX at hv; refine Jd 2 <| JH (z := 6) (cs := [nI Pd, nI Md, nS Ad md kd, nI Kd, nS Ada da kda, nS Adb db kdb]) hS rfl rfl rfl rfl ?_; intro g11 w12 hS; refine Jc 3 <| Jd 2 <| Jb (off := 0) Qf rfl rfl <| J4 (cs := [nI Pd, nI Md, nS Ad md kd]) JW J0 rfl rfl (QE (hS.rd (i := 0) rfl) 0 rfl) rfl <| SL.call hS (Jp3 (hS.ro hd) hv) XF47 rfl XN47 rfl rfl ?_; rintro _ _ w14 ⟨o, r15, hv, hK⟩ hGw14 hS; cases o with
 | none =>
  obtain ⟨rfl, rfl⟩ := hK
  change St _ _ _ _ [_] at hS
  refine Jc 6 <| Jd 6 <| Jj rfl (fun c22 => ?_) (fun c22 => ?_)
  .have hv := hv.1 (oT c22); refine Jd 6 <| W.ret <| ⟨_, rfl, Fin.nil ?_⟩
   exact (hS.pick [] rfl).fin rfl ⟨none, r15, hv.2, hv.1, rfl, rfl⟩
  have hv := hv.2 (oF c22); refine Jr <| Jd 2 <| Jb (off := 4) Ju rfl rfl <| Jp 0 4 Jh hS rfl rfl rfl ⟨rfl, rfl⟩ <| WL.len Jh rfl rfl <| Jc 2 <| JA ?_; obtain ⟨J24, hv, hk30⟩ := hv; refine QT (σ := Int) (fun z23 w1 => J24 z23 /\ St TT w none w1 [.row 48 6 (nA g11) 1 1 [nI Pd, nI Md, nS Ad md kd, nI Kd, nS Ada da kda, nS Adb db kdb]]) (fun z23 => [(2, .pointer Option.none), (3, nI 0), (4, .pointer none), (5, nI z23)]) ?_ ?_
  .refine W.block ?_; refine Jd 4 <| Jq rfl rfl ?_; by_cases g25 : (da.length : Int) < (1 : Int)
   .have hv := hv.1 g25; rw [decide_eq_true g25]; refine Jc 5 <| JP rfl <| Jd 3 ?_; exact ⟨(4 : Int), sp rfl, rfl, hv, hS⟩
   have hv := hv.2 g25; rw [decide_eq_false g25]; refine Jc 7 <| Jj rfl (fun c26 => ?_) (fun c26 => ?_)
   .have hv := hv.1 (oT c26); refine Jd 3 ?_; exact ⟨(4 : Int), sp rfl, rfl, hv, hS⟩
   have hv := hv.2 (oF c26); refine Jd 2 <| Jb (off := 5) Jv rfl rfl <| Jp 0 5 Jh hS rfl rfl rfl ⟨rfl, rfl⟩ <| WL.len Jh rfl rfl <| Jc 4 <| Jj rfl (fun c27 => ?_) (fun c27 => ?_)
   .have hv := hv.1 (oT c27); refine Jd 3 ?_; exact ⟨(10 : Int), sp rfl, rfl, hv, hS⟩
   have hv := hv.2 (oF c27); refine Jd 3 <| Jb (off := 4) Ju rfl rfl <| Jp 0 4 Jh hS rfl rfl rfl ⟨rfl, rfl⟩ ?_; exact hv.elim
  rintro z23 w28 ⟨hv, hS⟩; have hv := hk30 z23 hv; refine Jd 6 <| Jj rfl (fun c29 => ?_) (fun c29 => ?_)
  .have hv := hv.1 (oT c29); refine Jd 6 <| W.ret <| ⟨_, rfl, Fin.nil ?_⟩
   exact (hS.pick [] rfl).fin rfl ⟨none, z23, hv.2, hv.1, rfl, rfl⟩
  have hv := hv.2 (oF c29); refine Jr <| Jd 6 <| W.ret <| ⟨_, rfl, Fin.nil ?_⟩
  exact (hS.pick [] rfl).fin rfl ⟨none, (0 : Int), hv.2, hv.1, rfl, rfl⟩
 | some F16 =>
  obtain ⟨ad17, lo18, hi19, rfl, rfl⟩ := hK
  change St _ _ _ _ [_, _] at hS
  refine Jc 6 <| Jd 6 <| Jj rfl (fun c31 => ?_) (fun c31 => ?_)
  .have hv := hv.1 (oT c31); refine Jd 6 <| W.ret <| ⟨_, rfl, Fin.nil ?_⟩
   exact (hS.pick [] rfl).fin rfl ⟨none, r15, hv.2, hv.1, rfl, rfl⟩
  have hv := hv.2 (oF c31); refine Jr <| Jd 2 <| Jb (off := 4) Ju rfl rfl <| Jp 1 4 Jh hS rfl rfl rfl ⟨rfl, rfl⟩ <| WL.len Jh rfl rfl <| Jc 2 <| JA ?_; obtain ⟨J33, hv, hk53⟩ := hv; refine QT (σ := Int) (fun z32 w1 => J33 z32 /\ St TT w none w1 [.ch lo18 hi19 (fun wz => GFX lo18 hi19 wz ad17 F16), .row 48 6 (nA g11) 1 1 [nI Pd, nI Md, nS Ad md kd, nI Kd, nS Ada da kda, nS Adb db kdb]]) (fun z32 => [(2, .pointer Option.none), (3, nI 0), (4, .pointer (some ad17)), (5, nI z32)]) ?_ ?_
  .refine W.block ?_; refine Jd 4 <| Jq rfl rfl ?_; by_cases g34 : (da.length : Int) < (1 : Int)
   .have hv := hv.1 g34; rw [decide_eq_true g34]; refine Jc 5 <| JP rfl <| Jd 3 ?_; exact ⟨(4 : Int), sp rfl, rfl, hv, hS⟩
   have hv := hv.2 g34; rw [decide_eq_false g34]; refine Jc 7 <| Jj rfl (fun c35 => ?_) (fun c35 => ?_)
   .have hv := hv.1 (oT c35); refine Jd 3 ?_; exact ⟨(4 : Int), sp rfl, rfl, hv, hS⟩
   have hv := hv.2 (oF c35); refine Jd 2 <| Jb (off := 5) Jv rfl rfl <| Jp 1 5 Jh hS rfl rfl rfl ⟨rfl, rfl⟩ <| WL.len Jh rfl rfl <| Jc 4 <| Jj rfl (fun c36 => ?_) (fun c36 => ?_)
   .have hv := hv.1 (oT c36); refine Jd 3 ?_; exact ⟨(10 : Int), sp rfl, rfl, hv, hS⟩
   have hv := hv.2 (oF c36); refine Jd 3 <| Jb (off := 4) Ju rfl rfl <| Jp 1 4 Jh hS rfl rfl rfl ⟨rfl, rfl⟩ <| SL.call hS (Yt (Q9 (hS.chunk (i := 0) rfl)) (hS.ro hda) hv) XF78 rfl XN78 rfl rfl ?_; rintro _ _ w37 ⟨r38, rfl, rfl, hv⟩ hGw37 hS; have hS := hS.n0; refine Jq rfl rfl ?_; cases g39 : r38
   .have hv := hv.2 g39; refine Jc 3 <| Jb (off := 5) Jv rfl rfl <| WL.take rfl <| Jp 1 5 Jh hS rfl rfl rfl ⟨rfl, rfl⟩ <| WL.take rfl <| SL.call hS (Yt (Q9 (hS.chunk (i := 0) rfl)) (hS.ro hdb) hv) XF78 rfl XN78 rfl rfl ?_; rintro _ _ w40 ⟨r41, rfl, rfl, hv⟩ hGw40 hS; have hS := hS.n0; refine Jc 3 <| Jj rfl (fun c42 => ?_) (fun c42 => ?_)
    .have hv := hv.1 (c42); refine Jd 3 ?_; exact ⟨(2 : Int), sp rfl, rfl, hv, hS⟩
    have hv := hv.2 (c42); refine Jd 2 <| Jb (off := 4) Ju rfl rfl <| Jp 1 4 Jh hS rfl rfl rfl ⟨rfl, rfl⟩ <| SL.call hS (Jhy (hS.ro hda) hv) XF105 rfl XN105 rfl rfl ?_; rintro _ _ w43 ⟨r44, rfl, rfl, hv⟩ hGw43 hS; have hS := hS.n0; refine Jc 2 <| Jj rfl (fun c45 => ?_) (fun c45 => ?_)
    .have hv := hv.1 (c45); refine Jd 3 ?_; exact ⟨(18 : Int), sp rfl, rfl, hv, hS⟩
    have hv := hv.2 (c45); refine Jd 2 <| Jb (off := 5) Jv rfl rfl <| Jp 1 5 Jh hS rfl rfl rfl ⟨rfl, rfl⟩ <| SL.call hS (Jgc (hS.ro hdb) hv) XF106 rfl XN106 rfl rfl ?_; rintro _ _ w46 ⟨r47, rfl, rfl, hv⟩ hGw46 hS; have hS := hS.n0; refine Jc 2 <| Jj rfl (fun c48 => ?_) (fun c48 => ?_)
    .have hv := hv.1 (c48); refine Jd 3 ?_; exact ⟨(7 : Int), sp rfl, rfl, hv, hS⟩
    have hv := hv.2 (c48); refine Jd 2 <| Jb (off := 3) Qm rfl rfl <| Jp 1 3 XU3 hS rfl rfl rfl ⟨rfl, rfl⟩ <| Q8 rfl rfl rfl <| Jq rfl rfl ?_; by_cases g49 : Kd < 0
    .have hv := hv.1 g49; rw [decide_eq_true g49]; refine Jc 7 <| JP rfl <| Jd 3 ?_; exact ⟨(6 : Int), sp rfl, rfl, hv, hS⟩
    have hv := hv.2 g49; rw [decide_eq_false g49]; refine WL.take rfl <| Jb (off := 3) Qm rfl rfl <| WL.take rfl <| Jp 1 3 XU3 hS rfl rfl rfl ⟨rfl, rfl⟩ <| Jc 7 <| Jj rfl (fun c50 => ?_) (fun c50 => ?_)
    .have hv := hv.1 (oT c50); refine Jd 3 ?_; exact ⟨(6 : Int), sp rfl, rfl, hv, hS⟩
    have hv := hv.2 (oF c50); refine Jr ?_; exact ⟨r15, sp rfl, rfl, hv, hS⟩
   have hv := hv.1 g39; refine Jc 7 <| JP rfl <| Jd 3 ?_; exact ⟨(2 : Int), sp rfl, rfl, hv, hS⟩
  rintro z32 w51 ⟨hv, hS⟩; have hv := hk53 z32 hv; refine Jd 6 <| Jj rfl (fun c52 => ?_) (fun c52 => ?_)
  .have hv := hv.1 (oT c52); refine Jd 6 <| W.ret <| ⟨_, rfl, Fin.nil ?_⟩
   exact (hS.pick [] rfl).fin rfl ⟨none, z32, hv.2, hv.1, rfl, rfl⟩
  have hv := hv.2 (oF c52); refine Jr <| Jd 6 <| W.ret <| ⟨_, rfl, Fin.nil ?_⟩
  exact (hS.pick [0] rfl).fin rfl ⟨some F16, 0, hv, rfl, _, _, _, rfl, rfl⟩
end Go.Proofs.Ytppkigdakobebaa
