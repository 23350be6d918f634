import PyProof.Rows.All
import Wide.All
import OpenK.AllK
import Wide.FinOn
import PySem.Challenge.RW_sumroom_k14_whole_any_text
import PyProof.EqAt
import PyProof.EqKinds
import PyProof.TupleCall
import HandS.ForMost
import HandS.ForExc
import HandS.Wide
import HandS.IsInst
import HandS.Zip
import HandS.More
import HandS.ExcValue
import HandS.ExcIs
import HandS.ExcSuper
import HandS.Evl
import HandS.Style
import HandS.Defaults
import HandS.DictComp
import HandS.ExcInit
import HandS.ExcField
import KE.KSuper
import KE.KExcSuper
import HandS.Text
import HandS.FStr
import HandS.StrMore
import KE.IntTextLaws
import KE.KExcIs
import KE.GoesEnumKw
import PyProof.Rows.CallKwBuiltin
import HandS.Deep
import HandS.Codes
import HandS.HeadHook1
import HandS.HeadHook2
import HandS.HeadEnd
import KE.KStateDown
import HandS.Head0
import HandS.Head1
import HandS.Head2
set_option Elab.async false
set_option linter.all false
set_option maxRecDepth 100000
set_option maxHeartbeats 0
/-! # A1 -/
namespace Sm
/-- the sum of f 0 .. f (n - 1) -/
def sm : Nat → (Nat → Int) → Int
  | 0, _ => 0
  | n + 1, f => sm n f + f n
theorem sm_congr {f g : Nat → Int} : ∀ {n : Nat}, (∀ i, i < n → f i = g i) → sm n f = sm n g
  | 0, _ => rfl
  | n + 1, h => by
    show sm n f + f n = sm n g + g n
    rw [sm_congr (n := n) fun i hi => h i (by omega), h n (by omega)]
theorem sm_zero : ∀ {n : Nat} {f : Nat → Int}, (∀ i, i < n → f i = 0) → sm n f = 0
  | 0, _, _ => rfl
  | n + 1, f, h => by
    show sm n f + f n = 0
    rw [sm_zero (n := n) fun i hi => h i (by omega), h n (by omega)]
    rfl
theorem sm_add {f g : Nat → Int} : ∀ {n : Nat}, sm n (fun i => f i + g i) = sm n f + sm n g
  | 0 => rfl
  | n + 1 => by
    show sm n (fun i => f i + g i) + (f n + g n) = (sm n f + f n) + (sm n g + g n)
    rw [sm_add (n := n)]
    omega
theorem sm_mul {f : Nat → Int} {k : Int} : ∀ {n : Nat}, sm n (fun i => k * f i) = k * sm n f
  | 0 => by simp [sm]
  | n + 1 => by
    show sm n (fun i => k * f i) + k * f n = k * (sm n f + f n)
    rw [sm_mul (n := n), Int.mul_add]
theorem sm_mulr {f : Nat → Int} {k : Int} {n : Nat} : sm n (fun i => f i * k) = sm n f * k := by
  rw [Int.mul_comm, ← sm_mul]
  exact sm_congr fun i _ => Int.mul_comm _ _
theorem sm_neg {f : Nat → Int} {n : Nat} : sm n (fun i => - f i) = - sm n f := by
  have := sm_mul (f := f) (k := -1) (n := n)
  rw [Int.neg_one_mul] at this
  rw [← this]
  exact sm_congr fun i _ => (Int.neg_one_mul _).symm
theorem sm_sub {f g : Nat → Int} {n : Nat} : sm n (fun i => f i - g i) = sm n f - sm n g := by
  have e : sm n (fun i => f i - g i) = sm n (fun i => f i + - g i) := sm_congr fun i _ => Int.sub_eq_add_neg
  rw [e, sm_add (g := fun i => - g i), sm_neg, Int.sub_eq_add_neg]
theorem sm_swap {f : Nat → Nat → Int} {m : Nat} : ∀ {n : Nat}, sm n (fun i => sm m (fun j => f i j)) = sm m (fun j => sm n (fun i => f i j))
  | 0 => (sm_zero fun _ _ => rfl).symm
  | n + 1 => by
    show sm n (fun i => sm m (fun j => f i j)) + sm m (fun j => f n j) = sm m (fun j => sm n (fun i => f i j) + f n j)
    rw [sm_swap (n := n), sm_add (g := fun j => f n j)]
theorem sm_one {f : Nat → Int} {k : Nat} : ∀ {n : Nat}, k < n → (∀ i, i < n → i ≠ k → f i = 0) → sm n f = f k
  | 0, h, _ => by omega
  | n + 1, h, z => by
    show sm n f + f n = f k
    by_cases e : k = n
    · subst e
      rw [sm_zero fun i hi => z i (by omega) (by omega)]
      omega
    · rw [sm_one (n := n) (by omega) fun i hi => z i (by omega), z n (by omega) (fun q => e q.symm)]
      omega
theorem sm_dvd {f : Nat → Int} {d : Int} : ∀ {n : Nat}, (∀ i, i < n → d ∣ f i) → d ∣ sm n f
  | 0, _ => ⟨0, by simp [sm]⟩
  | n + 1, h => Int.dvd_add (sm_dvd (n := n) fun i hi => h i (by omega)) (h n (by omega))
theorem sm_abs {f : Nat → Int} {b : Nat} : ∀ {n : Nat}, (∀ i, i < n → (f i).natAbs ≤ b) → (sm n f).natAbs ≤ n * b
  | 0, _ => by simp [sm]
  | n + 1, h => by
    have h1 := sm_abs (n := n) fun i hi => h i (by omega)
    have h2 := h n (by omega)
    have h3 := Int.natAbs_add_le (sm n f) (f n)
    show (sm n f + f n).natAbs ≤ (n + 1) * b
    rw [Nat.succ_mul]
    omega
/-- the sum without place k -/
theorem sm_front {f : Nat → Int} : ∀ {n : Nat}, sm (n + 1) f = f 0 + sm n (fun i => f (i + 1))
  | 0 => by simp [sm]
  | n + 1 => by
    show sm (n + 1) f + f (n + 1) = f 0 + (sm n (fun i => f (i + 1)) + f (n + 1))
    rw [sm_front (n := n)]
    omega

/-! ### determinants -/
/-- the places without j -/
def skip (j c : Nat) : Nat := if c < j then c else c + 1
def sgn (j : Nat) : Int := if j % 2 = 0 then 1 else -1
theorem sgn_succ (j : Nat) : sgn (j + 1) = - sgn j := by
  unfold sgn
  by_cases h : j % 2 = 0
  · rw [if_pos h, if_neg (by omega)]
  · rw [if_neg h, if_pos (by omega)]
    rfl
theorem sgn_abs (j : Nat) : (sgn j).natAbs = 1 := by
  unfold sgn
  split <;> rfl
def det : Nat → (Nat → Nat → Int) → Int
  | 0, _ => 1
  | n + 1, A => sm (n + 1) fun j => sgn j * A 0 j * det n fun r c => A (r + 1) (skip j c)
theorem det_congr : ∀ {n : Nat} {A B : Nat → Nat → Int}, (∀ i j, i < n → j < n → A i j = B i j) → det n A = det n B
  | 0, _, _, _ => rfl
  | n + 1, A, B, h => sm_congr fun j hj => by
    rw [h 0 j (by omega) hj, det_congr (n := n) fun r c hr hc => h (r + 1) (skip j c) (by omega) (by unfold skip; split <;> omega)]
/-- row r put in place of row i -/
def putR (A : Nat → Nat → Int) (i : Nat) (v : Nat → Int) : Nat → Nat → Int := fun r c => if r = i then v c else A r c
theorem det_add : ∀ {n : Nat} {A : Nat → Nat → Int} {i : Nat} {u v : Nat → Int}, i < n → det n (putR A i fun c => u c + v c) = det n (putR A i u) + det n (putR A i v)
  | 0, _, _, _, _, h => by omega
  | n + 1, A, 0, u, v, _ => by
    show sm (n + 1) _ = sm (n + 1) _ + sm (n + 1) _
    rw [← sm_add]
    refine sm_congr fun j hj => ?_
    have e : ∀ w : Nat → Int, (det n fun r c => putR A 0 w (r + 1) (skip j c)) = det n fun r c => A (r + 1) (skip j c) := fun w => det_congr fun r c _ _ => by simp [putR]
    rw [e, e, e]
    simp only [putR, if_true]
    rw [Int.mul_add, Int.add_mul]
  | n + 1, A, i + 1, u, v, h => by
    show sm (n + 1) _ = sm (n + 1) _ + sm (n + 1) _
    rw [← sm_add]
    refine sm_congr fun j hj => ?_
    have e : ∀ w : Nat → Int, (det n fun r c => putR A (i + 1) w (r + 1) (skip j c)) = det n (putR (fun r c => A (r + 1) (skip j c)) i fun c => w (skip j c)) := fun w => det_congr fun r c _ _ => by
      unfold putR
      by_cases q : r = i
      · rw [if_pos q, if_pos (by omega)]
      · rw [if_neg q, if_neg (by omega)]
    have e0 : ∀ w : Nat → Int, putR A (i + 1) w 0 j = A 0 j := fun w => by unfold putR; rw [if_neg (by omega)]
    rw [e, e, e, e0, e0, e0, det_add (n := n) (by omega), Int.mul_add]
theorem det_mul : ∀ {n : Nat} {A : Nat → Nat → Int} {i : Nat} {k : Int} {u : Nat → Int}, i < n → det n (putR A i fun c => k * u c) = k * det n (putR A i u)
  | 0, _, _, _, _, h => by omega
  | n + 1, A, 0, k, u, _ => by
    show sm (n + 1) _ = k * sm (n + 1) _
    rw [← sm_mul]
    refine sm_congr fun j hj => ?_
    have e : ∀ w : Nat → Int, (det n fun r c => putR A 0 w (r + 1) (skip j c)) = det n fun r c => A (r + 1) (skip j c) := fun w => det_congr fun r c _ _ => by simp [putR]
    rw [e, e]
    simp only [putR, if_true]
    grind
  | n + 1, A, i + 1, k, u, h => by
    show sm (n + 1) _ = k * sm (n + 1) _
    rw [← sm_mul]
    refine sm_congr fun j hj => ?_
    have e : ∀ w : Nat → Int, (det n fun r c => putR A (i + 1) w (r + 1) (skip j c)) = det n (putR (fun r c => A (r + 1) (skip j c)) i fun c => w (skip j c)) := fun w => det_congr fun r c _ _ => by
      unfold putR
      by_cases q : r = i
      · rw [if_pos q, if_pos (by omega)]
      · rw [if_neg q, if_neg (by omega)]
    have e0 : ∀ w : Nat → Int, putR A (i + 1) w 0 j = A 0 j := fun w => by unfold putR; rw [if_neg (by omega)]
    rw [e, e, e0, e0, det_mul (n := n) (by omega)]
    grind
/-- a sum over the places but j -/
theorem sm_skip {f : Nat → Int} {j : Nat} : ∀ {n : Nat}, j ≤ n → sm n (fun k => f (skip j k)) = sm (n + 1) (fun l => if l = j then 0 else f l)
  | 0, h => by
    have : j = 0 := by omega
    subst this
    simp [sm]
  | n + 1, h => by
    by_cases e : j = n + 1
    · subst e
      show _ = sm (n + 1) (fun l => if l = n + 1 then 0 else f l) + (if n + 1 = n + 1 then 0 else f (n + 1))
      rw [if_pos rfl, Int.add_zero]
      refine sm_congr fun i hi => ?_
      unfold skip
      rw [if_pos hi, if_neg (by omega)]
    · show sm n (fun k => f (skip j k)) + f (skip j n) = sm (n + 1) (fun l => if l = j then 0 else f l) + (if n + 1 = j then 0 else f (n + 1))
      rw [sm_skip (n := n) (by omega), if_neg (by omega)]
      unfold skip
      rw [if_neg (by omega)]
/-- what the two uppermost rows are weighed by -/
def two (n : Nat) (A : Nat → Nat → Int) (j l : Nat) : Int := if l = j then 0 else if l < j then sgn j * sgn l * det n (fun r c => A (r + 2) (skip j (skip l c))) else - (sgn j * sgn l * det n (fun r c => A (r + 2) (skip j (skip (l - 1) c))))
theorem skip_skip {j l c : Nat} (h : l < j) : skip j (skip l c) = skip l (skip (j - 1) c) := by
  unfold skip
  grind
theorem det_two {n : Nat} {A : Nat → Nat → Int} : det (n + 2) A = sm (n + 2) fun j => sm (n + 2) fun l => A 0 j * A 1 l * two n A j l := by
  refine sm_congr fun j hj => ?_
  have e1 : (sgn j * A 0 j * det (n + 1) fun r c => A (r + 1) (skip j c)) = sm (n + 1) (fun k => (fun l => A 0 j * A 1 l * two n A j l) (skip j k)) := by
    show sgn j * A 0 j * sm (n + 1) (fun k => sgn k * A 1 (skip j k) * det n fun r c => A (r + 2) (skip j (skip k c))) = _
    rw [← sm_mul]
    refine sm_congr fun k hk => ?_
    unfold two
    by_cases q : k < j
    · have s : skip j k = k := by unfold skip; rw [if_pos q]
      simp only [s]
      rw [if_neg (by omega), if_pos q]
      grind
    · have s : skip j k = k + 1 := by unfold skip; rw [if_neg q]
      simp only [s]
      rw [if_neg (by omega), if_neg (by omega), sgn_succ, Nat.add_sub_cancel]
      grind
  rw [e1, sm_skip (f := fun l => A 0 j * A 1 l * two n A j l) (by omega)]
  refine sm_congr fun l hl => ?_
  by_cases q : l = j
  · rw [if_pos q]
    unfold two
    rw [if_pos q, Int.mul_zero]
  · rw [if_neg q]
theorem two_lt {n : Nat} {A : Nat → Nat → Int} {j l : Nat} (h : l < j) : two n A j l = sgn j * sgn l * det n (fun r c => A (r + 2) (skip j (skip l c))) := by
  unfold two
  rw [if_neg (by omega), if_pos h]
theorem two_gt {n : Nat} {A : Nat → Nat → Int} {j l : Nat} (h : j < l) : two n A j l = - (sgn j * sgn l * det n (fun r c => A (r + 2) (skip j (skip (l - 1) c)))) := by
  unfold two
  rw [if_neg (by omega), if_neg (by omega)]
theorem two_eq {n : Nat} {A : Nat → Nat → Int} {j : Nat} : two n A j j = 0 := by
  unfold two
  rw [if_pos rfl]
theorem two_anti1 {n : Nat} {A : Nat → Nat → Int} {j l : Nat} (h : l < j) : two n A j l = - two n A l j := by
  rw [two_lt h, two_gt h]
  have e : (fun r c => A (r + 2) (skip j (skip l c))) = fun r c => A (r + 2) (skip l (skip (j - 1) c)) := by
    funext r c
    rw [skip_skip h]
  rw [e]
  grind
theorem two_anti {n : Nat} {A : Nat → Nat → Int} {j l : Nat} : two n A j l = - two n A l j := by
  rcases Nat.lt_trichotomy l j with h | h | h
  · exact two_anti1 h
  · rw [h, two_eq]
    rfl
  · rw [two_anti1 h]
    omega
/-- rows i and i + 1 exchanged -/
def swp (i r : Nat) : Nat := if r = i then i + 1 else if r = i + 1 then i else r
theorem det_swap : ∀ {n : Nat} {A : Nat → Nat → Int} {i : Nat}, i + 1 < n → det n (fun r c => A (swp i r) c) = - det n A
  | 0, _, _, h => by omega
  | 1, _, _, h => by omega
  | n + 2, A, 0, _ => by
    rw [det_two, det_two]
    have e : ∀ j l, two n (fun r c => A (swp 0 r) c) j l = two n A j l := fun j l => by
      unfold two
      have z : ∀ r, swp 0 (r + 2) = r + 2 := fun r => by unfold swp; rw [if_neg (by omega), if_neg (by omega)]
      simp only [z]
    have e1 : (sm (n + 2) fun j => sm (n + 2) fun l => A (swp 0 0) j * A (swp 0 1) l * two n (fun r c => A (swp 0 r) c) j l) = sm (n + 2) fun j => sm (n + 2) fun l => - (A 0 l * A 1 j * two n A l j) := by
      refine sm_congr fun j _ => sm_congr fun l _ => ?_
      rw [e, two_anti]
      show A 1 j * A 0 l * _ = _
      grind
    show (sm (n + 2) fun j => sm (n + 2) fun l => A (swp 0 0) j * A (swp 0 1) l * two n (fun r c => A (swp 0 r) c) j l) = _
    rw [e1, sm_swap, ← sm_neg]
    refine sm_congr fun j _ => ?_
    rw [← sm_neg]
  | n + 2, A, i + 1, h => by
    show sm (n + 2) _ = - sm (n + 2) _
    rw [← sm_neg]
    refine sm_congr fun j _ => ?_
    have e0 : swp (i + 1) 0 = 0 := by unfold swp; rw [if_neg (by omega), if_neg (by omega)]
    have e1 : ∀ r, swp (i + 1) (r + 1) = swp i r + 1 := fun r => by unfold swp; grind
    have e2 := det_swap (n := n + 1) (A := fun r c => A (r + 1) (skip j c)) (i := i) (by omega)
    simp only [e0, e1]
    rw [e2]
    grind
theorem det_same_next {n : Nat} {A : Nat → Nat → Int} {i : Nat} (h : i + 1 < n) (e : ∀ c, c < n → A i c = A (i + 1) c) : det n A = 0 := by
  have q := det_swap (A := A) h
  have z : det n (fun r c => A (swp i r) c) = det n A := det_congr fun r c _ hc => by
    unfold swp
    by_cases h1 : r = i
    · rw [if_pos h1, h1]
      exact (e c hc).symm
    · rw [if_neg h1]
      by_cases h2 : r = i + 1
      · rw [if_pos h2, h2]
        exact e c hc
      · rw [if_neg h2]
  omega
/-- two equal rows -/
theorem det_same {n : Nat} : ∀ {d : Nat} {A : Nat → Nat → Int} {i : Nat}, i + d + 1 < n → (∀ c, c < n → A i c = A (i + d + 1) c) → det n A = 0
  | 0, A, i, h, e => det_same_next h e
  | d + 1, A, i, h, e => by
    have q := det_swap (A := A) (i := i + d + 1) (by omega)
    have z := det_same (n := n) (d := d) (A := fun r c => A (swp (i + d + 1) r) c) (i := i) (by omega) fun c hc => by
      have e1 : swp (i + d + 1) i = i := by unfold swp; rw [if_neg (by omega), if_neg (by omega)]
      have e2 : swp (i + d + 1) (i + d + 1) = i + (d + 1) + 1 := by unfold swp; rw [if_pos rfl]; omega
      rw [e1, e2]
      exact e c hc
    omega
theorem det_same2 {n : Nat} {A : Nat → Nat → Int} {i j : Nat} (hi : i < n) (hj : j < n) (ne : i ≠ j) (e : ∀ c, c < n → A i c = A j c) : det n A = 0 := by
  rcases Nat.lt_or_gt_of_ne ne with h | h
  · exact det_same (d := j - i - 1) (i := i) (by omega) fun c hc => by
      rw [e c hc]
      congr 1
      omega
  · exact det_same (d := i - j - 1) (i := j) (by omega) fun c hc => by
      rw [← e c hc]
      congr 1
      omega
end Sm
/-! # A2 -/
namespace Sm
/-- a form of n rows that is linear in each row and nothing where two are equal -/
structure Alt (n : Nat) (F : (Nat → Nat → Int) → Int) : Prop where
  congr : ∀ A B : Nat → Nat → Int, (∀ i, i < n → A i = B i) → F A = F B
  add : ∀ (A : Nat → Nat → Int) (i : Nat) (u v : Nat → Int), i < n → F (putR A i fun c => u c + v c) = F (putR A i u) + F (putR A i v)
  mul : ∀ (A : Nat → Nat → Int) (i : Nat) (k : Int) (u : Nat → Int), i < n → F (putR A i fun c => k * u c) = k * F (putR A i u)
  same : ∀ (A : Nat → Nat → Int) (i j : Nat), i < n → j < n → i ≠ j → A i = A j → F A = 0
theorem putR_same {A : Nat → Nat → Int} {i : Nat} {u : Nat → Int} : putR A i u i = u := by
  funext c; unfold putR; rw [if_pos rfl]
theorem putR_ne {A : Nat → Nat → Int} {i r : Nat} {u : Nat → Int} (h : r ≠ i) : putR A i u r = A r := by
  funext c; unfold putR; rw [if_neg h]
theorem putR_self {A : Nat → Nat → Int} {i : Nat} : putR A i (A i) = A := by
  funext r c
  unfold putR
  split
  · rename_i h; rw [h]
  · rfl
theorem putR_put {A : Nat → Nat → Int} {i : Nat} {u v : Nat → Int} : putR (putR A i u) i v = putR A i v := by
  funext r c
  unfold putR
  split <;> rfl
/-- det, of places col -/
theorem alt_det (n : Nat) (col : Nat → Nat) : Alt n fun A => det n fun r c => A r (col c) where
  congr := fun A B h => det_congr fun i j hi _ => by rw [h i hi]
  add := fun A i u v h => det_add (A := fun r c => A r (col c)) (u := fun c => u (col c)) (v := fun c => v (col c)) h
  mul := fun A i k u h => det_mul (A := fun r c => A r (col c)) (u := fun c => u (col c)) h
  same := fun A i j hi hj ne e => det_same2 hi hj ne fun c _ => by rw [e]
section
variable {n : Nat} {F : (Nat → Nat → Int) → Int}
theorem Alt.zero (a : Alt n F) {A : Nat → Nat → Int} {i : Nat} (h : i < n) : F (putR A i fun _ => 0) = 0 := by
  have e : (fun _ : Nat => (0 : Int)) = fun c => 0 * (fun _ : Nat => (0 : Int)) c := by funext c; simp
  rw [e, a.mul A i 0 _ h, Int.zero_mul]
theorem Alt.sum (a : Alt n F) {A : Nat → Nat → Int} {i : Nat} (h : i < n) (y : Nat → Int) (E : Nat → Nat → Int) : ∀ m : Nat, F (putR A i fun c => sm m fun j => y j * E j c) = sm m fun j => y j * F (putR A i (E j))
  | 0 => a.zero h
  | m + 1 => by
    show F (putR A i fun c => (sm m fun j => y j * E j c) + y m * E m c) = (sm m fun j => y j * F (putR A i (E j))) + y m * F (putR A i (E m))
    rw [a.add A i (fun c => sm m fun j => y j * E j c) (fun c => y m * E m c) h, Alt.sum a h y E m, a.mul A i (y m) (E m) h]
/-- two neighbouring rows exchanged -/
theorem Alt.swap (a : Alt n F) {A : Nat → Nat → Int} {i j : Nat} (hi : i < n) (hj : j < n) (ne : i ≠ j) : F (putR (putR A i (A j)) j (A i)) = - F A := by
  -- (u + v, u + v) is nothing
  have z := a.same (putR (putR A i fun c => A i c + A j c) j fun c => A i c + A j c) i j hi hj ne (by rw [putR_ne ne, putR_same, putR_same])
  have c1 : ∀ (w : Nat → Int), putR (putR A i w) j (A i) = putR (putR A j (A i)) i w := fun w => by
    funext r c; unfold putR; by_cases h1 : r = i <;> by_cases h2 : r = j <;> simp [h1, h2] <;> omega
  have c2 : ∀ (w : Nat → Int), putR (putR A i w) j (A j) = putR A i w := fun w => by
    have e : A j = putR A i w j := (putR_ne (Ne.symm ne)).symm
    rw [e]
    exact putR_self
  rw [a.add _ j _ _ hj, c1, c2, a.add _ i _ _ hi, a.add A i _ _ hi] at z
  have z1 : F (putR (putR A j (A i)) i (A i)) = 0 := a.same _ i j hi hj ne (by rw [putR_same, putR_ne (Ne.symm ne), putR_same])
  have z2 : F (putR A i (A j)) = 0 := a.same _ i j hi hj ne (by rw [putR_same, putR_ne (Ne.symm ne)])
  have z3 : F (putR A i (A i)) = F A := by rw [putR_self]
  rw [z1, z2, z3, ← c1] at z
  omega
/-- a row on top -/
def onTop (v : Nat → Int) (A : Nat → Nat → Int) : Nat → Nat → Int := fun r => if r = 0 then v else A (r - 1)
theorem onTop_put {v u : Nat → Int} {A : Nat → Nat → Int} {i : Nat} : onTop v (putR A i u) = putR (onTop v A) (i + 1) u := by
  funext r c
  unfold onTop putR
  by_cases h : r = 0
  · subst h; simp
  · simp only [if_neg h]
    by_cases h2 : r = i + 1
    · rw [if_pos (by omega), if_pos h2]
    · rw [if_neg (by omega), if_neg h2]
theorem Alt.top (a : Alt (n + 1) F) (v : Nat → Int) : Alt n fun A => F (onTop v A) where
  congr := fun A B h => a.congr _ _ fun i hi => by
    unfold onTop
    split
    · rfl
    · exact h _ (by omega)
  add := fun A i u w h => by
    show F (onTop v _) = F (onTop v _) + F (onTop v _)
    rw [onTop_put, onTop_put, onTop_put]
    exact a.add _ _ _ _ (by omega)
  mul := fun A i k u h => by
    show F (onTop v _) = k * F (onTop v _)
    rw [onTop_put, onTop_put]
    exact a.mul _ _ _ _ (by omega)
  same := fun A i j hi hj ne e => a.same _ (i + 1) (j + 1) (by omega) (by omega) (by omega) (by
    unfold onTop
    rw [if_neg (by omega), if_neg (by omega)]
    exact e)
/-- the row j taken to the top -/
theorem Alt.lift (a : Alt (n + 1) F) (E : Nat → Nat → Int) : ∀ j : Nat, j < n + 1 → F (onTop (E j) fun r => E (skip j r)) = sgn j * F E
  | 0, _ => by
    have e : (onTop (E 0) fun r => E (skip 0 r)) = E := by
      funext r c
      unfold onTop skip
      by_cases h : r = 0
      · rw [if_pos h, h]
      · rw [if_neg h]
        dsimp only
        rw [if_neg (by omega)]
        congr 1
        omega
    rw [e]
    show _ = (if 0 % 2 = 0 then (1 : Int) else -1) * _
    rw [if_pos rfl, Int.one_mul]
  | j + 1, h => by
    have ih := Alt.lift a E j (by omega)
    -- the rows 0 and j + 1 of the one are those of the other exchanged
    have e : (onTop (E (j + 1)) fun r => E (skip (j + 1) r)) = putR (putR (onTop (E j) fun r => E (skip j r)) 0 ((onTop (E j) fun r => E (skip j r)) (j + 1))) (j + 1) ((onTop (E j) fun r => E (skip j r)) 0) := by
      funext r c
      unfold onTop putR skip
      by_cases h0 : r = 0
      · subst h0
        simp
      · by_cases h1 : r = j + 1
        · subst h1
          simp
        · simp only [if_neg h0, if_neg h1]
          by_cases h2 : r - 1 < j
          · rw [if_pos (by omega), if_pos h2]
          · rw [if_neg (by omega), if_neg h2]
    rw [e, a.swap (by omega) (by omega) (by omega), ih, sgn_succ, Int.neg_mul]
end
/-- THE FORM OF COMBINED ROWS -/
theorem Alt.comb : ∀ {n : Nat} {F : (Nat → Nat → Int) → Int}, Alt n F → ∀ Y E : Nat → Nat → Int, F (fun i c => sm n fun j => Y i j * E j c) = det n Y * F E
  | 0, F, a, Y, E => by
    show _ = 1 * F E
    rw [Int.one_mul]
    exact a.congr _ _ fun i hi => by omega
  | n + 1, F, a, Y, E => by
    -- the first row
    have e0 : (fun i c => sm (n + 1) fun j => Y i j * E j c) = putR (fun i c => sm (n + 1) fun j => Y i j * E j c) 0 fun c => sm (n + 1) fun j => Y 0 j * E j c := by
      rw [show (fun c => sm (n + 1) fun j => Y 0 j * E j c) = (fun i c => sm (n + 1) fun j => Y i j * E j c) 0 from rfl, putR_self]
    rw [e0, a.sum (by omega)]
    show _ = (sm (n + 1) fun j => sgn j * Y 0 j * det n fun r c => Y (r + 1) (skip j c)) * F E
    rw [← sm_mulr]
    refine sm_congr fun j hj => ?_
    have et : putR (fun i c => sm (n + 1) fun j => Y i j * E j c) 0 (E j) = onTop (E j) fun r c => sm (n + 1) fun l => Y (r + 1) l * E l c := by
      funext r c
      unfold putR onTop
      by_cases h : r = 0
      · rw [if_pos h, if_pos h]
      · rw [if_neg h, if_neg h]
        show (sm (n + 1) fun l => Y r l * E l c) = sm (n + 1) fun l => Y (r - 1 + 1) l * E l c
        rw [show r - 1 + 1 = r by omega]
    -- the part of E j dropped in the others, row by row
    have drop : ∀ k, k ≤ n → F (onTop (E j) fun r c => if r < k then sm n fun l => Y (r + 1) (skip j l) * E (skip j l) c else sm (n + 1) fun l => Y (r + 1) l * E l c) = F (onTop (E j) fun r c => sm (n + 1) fun l => Y (r + 1) l * E l c) := by
      intro k
      induction k with
      | zero =>
        intro _
        exact a.congr _ _ fun i hi => by
          unfold onTop
          split
          · rfl
          · funext c
            dsimp only
            rw [if_neg (by omega)]
      | succ k ih =>
        intro hk
        rw [← ih (by omega)]
        have b := a.top (E j)
        have e1 : (fun r c => if r < k then sm n fun l => Y (r + 1) (skip j l) * E (skip j l) c else sm (n + 1) fun l => Y (r + 1) l * E l c) = putR (fun r c => if r < k + 1 then sm n fun l => Y (r + 1) (skip j l) * E (skip j l) c else sm (n + 1) fun l => Y (r + 1) l * E l c) k fun c => (fun c => sm n fun l => Y (k + 1) (skip j l) * E (skip j l) c) c + Y (k + 1) j * E j c := by
          funext r c
          unfold putR
          by_cases h : r = k
          · rw [if_pos h, if_neg (by omega), h]
            show _ = (sm n fun l => Y (k + 1) (skip j l) * E (skip j l) c) + Y (k + 1) j * E j c
            rw [sm_skip (f := fun l => Y (k + 1) l * E l c) (by omega)]
            have : (sm (n + 1) fun l => Y (k + 1) l * E l c) = sm (n + 1) fun l => (if l = j then 0 else Y (k + 1) l * E l c) + (if l = j then Y (k + 1) l * E l c else 0) := sm_congr fun l _ => by split <;> simp
            rw [this, sm_add (g := fun l => if l = j then Y (k + 1) l * E l c else 0), sm_one (f := fun l => if l = j then Y (k + 1) l * E l c else 0) hj (fun l _ h => if_neg h), if_pos rfl]
          · rw [if_neg h]
            dsimp only
            by_cases h2 : r < k
            · rw [if_pos h2, if_pos (by omega)]
            · rw [if_neg h2, if_neg (by omega)]
        have e2 := b.add (fun r c => if r < k + 1 then sm n fun l => Y (r + 1) (skip j l) * E (skip j l) c else sm (n + 1) fun l => Y (r + 1) l * E l c) k (fun c => sm n fun l => Y (k + 1) (skip j l) * E (skip j l) c) (fun c => Y (k + 1) j * E j c) (by omega)
        have e3 := b.mul (fun r c => if r < k + 1 then sm n fun l => Y (r + 1) (skip j l) * E (skip j l) c else sm (n + 1) fun l => Y (r + 1) l * E l c) k (Y (k + 1) j) (E j) (by omega)
        have e4 : F (onTop (E j) (putR (fun r c => if r < k + 1 then sm n fun l => Y (r + 1) (skip j l) * E (skip j l) c else sm (n + 1) fun l => Y (r + 1) l * E l c) k (E j))) = 0 := by
          rw [onTop_put]
          exact a.same _ 0 (k + 1) (by omega) (by omega) (by omega) (by rw [putR_same, putR_ne (by omega)]; unfold onTop; rw [if_pos rfl])
        have e5 : putR (fun r c => if r < k + 1 then sm n fun l => Y (r + 1) (skip j l) * E (skip j l) c else sm (n + 1) fun l => Y (r + 1) l * E l c) k (fun c => sm n fun l => Y (k + 1) (skip j l) * E (skip j l) c) = fun r c => if r < k + 1 then sm n fun l => Y (r + 1) (skip j l) * E (skip j l) c else sm (n + 1) fun l => Y (r + 1) l * E l c := by
          funext r c
          unfold putR
          by_cases h : r = k
          · rw [if_pos h, if_pos (by omega), h]
          · rw [if_neg h]
        rw [e1]
        have e6 : F (onTop (E j) (putR (fun r c => if r < k + 1 then sm n fun l => Y (r + 1) (skip j l) * E (skip j l) c else sm (n + 1) fun l => Y (r + 1) l * E l c) k fun c => (fun c => sm n fun l => Y (k + 1) (skip j l) * E (skip j l) c) c + Y (k + 1) j * E j c)) = _ := e2
        rw [e6]
        have e7 : F (onTop (E j) (putR (fun r c => if r < k + 1 then sm n fun l => Y (r + 1) (skip j l) * E (skip j l) c else sm (n + 1) fun l => Y (r + 1) l * E l c) k fun c => Y (k + 1) j * E j c)) = _ := e3
        rw [e7, e4, e5]
        omega
    have ih := Alt.comb (a.top (E j)) (fun r c => Y (r + 1) (skip j c)) (fun r => E (skip j r))
    have e8 : F (onTop (E j) fun r c => if r < n then sm n fun l => Y (r + 1) (skip j l) * E (skip j l) c else sm (n + 1) fun l => Y (r + 1) l * E l c) = F (onTop (E j) fun r c => sm n fun l => Y (r + 1) (skip j l) * E (skip j l) c) := a.congr _ _ fun i hi => by
      unfold onTop
      split
      · rfl
      · funext c
        dsimp only
        rw [if_pos (by omega)]
    have ih2 : F (onTop (E j) fun r c => sm n fun l => Y (r + 1) (skip j l) * E (skip j l) c) = (det n fun r c => Y (r + 1) (skip j c)) * F (onTop (E j) fun r => E (skip j r)) := ih
    rw [et, ← drop n (Nat.le_refl _), e8, ih2, a.lift E j hj]
    grind
/-- the determinant of a product -/
theorem det_prod {n : Nat} {Y E : Nat → Nat → Int} {col : Nat → Nat} : (det n fun r c => sm n fun j => Y r j * E j (col c)) = det n Y * det n fun r c => E r (col c) :=
  (alt_det n col).comb Y E
end Sm
/-! # A3 -/
namespace Sm
/-! ### products, bounds -/
def prd : Nat → (Nat → Nat) → Nat
  | 0, _ => 1
  | n + 1, f => prd n f * f n
def prdI : Nat → (Nat → Int) → Int
  | 0, _ => 1
  | n + 1, f => prdI n f * f n
def fac : Nat → Nat
  | 0 => 1
  | n + 1 => (n + 1) * fac n
theorem prd_congr {f g : Nat → Nat} : ∀ {n : Nat}, (∀ i, i < n → f i = g i) → prd n f = prd n g
  | 0, _ => rfl
  | n + 1, h => by
    show prd n f * f n = prd n g * g n
    rw [prd_congr (n := n) fun i hi => h i (by omega), h n (by omega)]
theorem prd_skip {f : Nat → Nat} {j : Nat} : ∀ {n : Nat}, j ≤ n → prd (n + 1) f = f j * prd n (fun k => f (skip j k))
  | 0, h => by
    have : j = 0 := by omega
    subst this
    simp [prd]
  | n + 1, h => by
    by_cases e : j = n + 1
    · subst e
      show prd (n + 1) f * f (n + 1) = _
      rw [Nat.mul_comm]
      congr 1
      exact prd_congr fun i hi => by unfold skip; rw [if_pos hi]
    · show prd (n + 1) f * f (n + 1) = f j * (prd n (fun k => f (skip j k)) * f (skip j n))
      rw [prd_skip (f := f) (j := j) (n := n) (by omega)]
      have : skip j n = n + 1 := by unfold skip; rw [if_neg (by omega)]
      rw [this]
      grind
theorem prd_front {f : Nat → Nat} {n : Nat} : prd (n + 1) f = f 0 * prd n (fun k => f (k + 1)) := by
  rw [prd_skip (j := 0) (by omega)]
  congr 1
theorem prdI_skip0 {f : Nat → Int} : ∀ {n : Nat}, prdI (n + 1) f = f 0 * prdI n (fun k => f (k + 1))
  | 0 => by simp [prdI]
  | n + 1 => by
    show prdI (n + 1) f * f (n + 1) = f 0 * (prdI n (fun k => f (k + 1)) * f (n + 1))
    rw [prdI_skip0 (n := n)]
    grind
theorem prdI_congr {f g : Nat → Int} : ∀ {n : Nat}, (∀ i, i < n → f i = g i) → prdI n f = prdI n g
  | 0, _ => rfl
  | n + 1, h => by
    show prdI n f * f n = prdI n g * g n
    rw [prdI_congr (n := n) fun i hi => h i (by omega), h n (by omega)]
theorem sm_abs_le {f : Nat → Int} {b : Nat → Nat} : ∀ {n : Nat} {s : Nat}, (∀ i, i < n → (f i).natAbs ≤ s) → (sm n f).natAbs ≤ n * s := fun h => sm_abs h
theorem det_bound : ∀ {n : Nat} {A : Nat → Nat → Int} {ρ b : Nat → Nat}, (∀ r c, r < n → c < n → (A r c).natAbs ≤ ρ r * b c) → (det n A).natAbs ≤ fac n * prd n ρ * prd n b
  | 0, _, _, _, _ => by simp [det, fac, prd]
  | n + 1, A, ρ, b, h => by
    have key : ∀ j, j < n + 1 → (sgn j * A 0 j * det n fun r c => A (r + 1) (skip j c)).natAbs ≤ fac n * prd (n + 1) ρ * prd (n + 1) b := fun j hj => by
      have h1 := det_bound (n := n) (A := fun r c => A (r + 1) (skip j c)) (ρ := fun r => ρ (r + 1)) (b := fun c => b (skip j c)) fun r c hr hc => h (r + 1) (skip j c) (by omega) (by unfold skip; split <;> omega)
      have h0 := h 0 j (by omega) hj
      rw [Int.natAbs_mul, Int.natAbs_mul, sgn_abs, Nat.one_mul, prd_front (f := ρ), prd_skip (f := b) (j := j) (by omega)]
      calc (A 0 j).natAbs * (det n fun r c => A (r + 1) (skip j c)).natAbs ≤ (ρ 0 * b j) * (fac n * prd n (fun r => ρ (r + 1)) * prd n (fun c => b (skip j c))) := Nat.mul_le_mul h0 h1
        _ = fac n * (ρ 0 * prd n (fun k => ρ (k + 1))) * (b j * prd n (fun k => b (skip j k))) := by grind
    have h2 := sm_abs (n := n + 1) key
    show (sm (n + 1) _).natAbs ≤ (n + 1) * fac n * prd (n + 1) ρ * prd (n + 1) b
    refine Nat.le_trans h2 (Nat.le_of_eq ?_)
    grind
theorem det_col0 : ∀ {n : Nat} {A : Nat → Nat → Int}, 0 < n → (∀ r, r < n → A r 0 = 0) → det n A = 0
  | 0, _, h, _ => by omega
  | n + 1, A, _, h => sm_zero fun j hj => by
    by_cases e : j = 0
    · rw [e, h 0 (by omega), Int.mul_zero, Int.zero_mul]
    · rw [det_col0 (n := n) (A := fun r c => A (r + 1) (skip j c)) (by omega) fun r hr => by
        have : skip j 0 = 0 := by unfold skip; rw [if_pos (by omega)]
        rw [this]
        exact h (r + 1) (by omega), Int.mul_zero]
theorem det_tri : ∀ {n : Nat} {A : Nat → Nat → Int}, (∀ r c, c < r → r < n → A r c = 0) → det n A = prdI n fun i => A i i
  | 0, _, _ => rfl
  | n + 1, A, h => by
    have e : det (n + 1) A = sgn 0 * A 0 0 * det n (fun r c => A (r + 1) (skip 0 c)) := sm_one (f := fun j => sgn j * A 0 j * det n fun r c => A (r + 1) (skip j c)) (by omega) fun j hj ne => by
      rw [det_col0 (n := n) (A := fun r c => A (r + 1) (skip j c)) (by omega) fun r hr => by
        have : skip j 0 = 0 := by unfold skip; rw [if_pos (by omega)]
        rw [this]
        exact h (r + 1) 0 (by omega) (by omega), Int.mul_zero]
    have e2 : det n (fun r c => A (r + 1) (skip 0 c)) = prdI n fun i => A (i + 1) (i + 1) := by
      have : (fun r c => A (r + 1) (skip 0 c)) = fun r c => A (r + 1) (c + 1) := by
        funext r c
        unfold skip
        rw [if_neg (by omega)]
      rw [this]
      exact det_tri fun r c hc hr => h (r + 1) (c + 1) (by omega) (by omega)
    rw [e, e2, prdI_skip0]
    show (if 0 % 2 = 0 then (1 : Int) else -1) * _ * _ = _
    rw [if_pos rfl, Int.one_mul]
/-- one row replaced by what is combined of all -/
theorem cramer {n : Nat} {U : Nat → Nat → Int} {col : Nat → Nat} {y x : Nat → Int} {i : Nat} (hi : i < n) (hx : ∀ c, c < n → x (col c) = sm n fun j => y j * U j (col c)) :
    (det n fun r c => putR U i x r (col c)) = y i * det n fun r c => U r (col c) := by
  have a := alt_det n col
  have e : (det n fun r c => putR U i x r (col c)) = det n fun r c => putR U i (fun c => sm n fun j => y j * U j c) r (col c) := det_congr fun r c _ hc => by
    unfold putR
    split
    · exact hx c hc
    · rfl
  rw [e]
  have s := a.sum (A := U) hi y U n
  refine Eq.trans s ?_
  rw [sm_one (f := fun j => y j * (fun A => det n fun r c => A r (col c)) (putR U i (U j))) hi fun j hj ne => by
    have z : (det n fun r c => putR U i (U j) r (col c)) = 0 := a.same (putR U i (U j)) i j hi hj (fun z => ne z.symm) (by rw [putR_same, putR_ne ne])
    dsimp only
    rw [z, Int.mul_zero]]
  dsimp only
  rw [putR_self]
theorem det_row0 {n : Nat} {A : Nat → Nat → Int} {i : Nat} (hi : i < n) (h : ∀ c, A i c = 0) : det n A = 0 := by
  have a := alt_det n (fun c => c)
  have z := a.zero (A := A) hi
  have e : putR A i (fun _ => 0) = A := by
    have : (fun _ : Nat => (0 : Int)) = A i := by funext c; exact (h c).symm
    rw [this, putR_self]
  rw [e] at z
  exact z

/-! ### rows in steps -/
abbrev Vec := Nat → Int
def Ech : List (Nat × Vec) → Prop
  | [] => True
  | q :: L => 0 < q.2 q.1 ∧ (∀ p ∈ L, p.2 q.1 = 0) ∧ Ech L
def InS : List (Nat × Vec) → Vec → Prop
  | [], x => ∀ j, x j = 0
  | q :: L, x => ∃ k : Int, InS L (fun j => x j - k * q.2 j)
theorem InS.congr {L : List (Nat × Vec)} {x y : Vec} (h : InS L x) (e : ∀ j, x j = y j) : InS L y := by
  have : x = y := funext e
  rw [← this]
  exact h
theorem InS.zero : ∀ {L : List (Nat × Vec)}, InS L fun _ => 0
  | [] => fun _ => rfl
  | q :: L => ⟨0, (InS.zero (L := L)).congr fun j => by simp⟩
theorem InS.add : ∀ {L : List (Nat × Vec)} {x y : Vec}, InS L x → InS L y → InS L fun j => x j + y j
  | [], _, _, a, b => fun j => by show _ + _ = _; rw [a j, b j]; rfl
  | q :: L, x, y, ⟨k, a⟩, ⟨l, b⟩ => ⟨k + l, (InS.add a b).congr fun j => by grind⟩
theorem InS.mul : ∀ {L : List (Nat × Vec)} {x : Vec} (c : Int), InS L x → InS L fun j => c * x j
  | [], _, c, a => fun j => by show c * _ = _; rw [a j]; simp
  | q :: L, x, c, ⟨k, a⟩ => ⟨c * k, (InS.mul c a).congr fun j => by grind⟩
theorem InS.sub {L : List (Nat × Vec)} {x y : Vec} (a : InS L x) (b : InS L y) : InS L fun j => x j - y j :=
  (a.add (b.mul (-1))).congr fun j => by grind
theorem InS.cons {q : Nat × Vec} {L : List (Nat × Vec)} {x : Vec} (h : InS L x) : InS (q :: L) x := ⟨0, h.congr fun j => by simp⟩
theorem InS.mem : ∀ {L : List (Nat × Vec)} {q : Nat × Vec}, q ∈ L → InS L q.2
  | p :: L, q, h => by
    rcases List.mem_cons.mp h with rfl | h
    · exact ⟨1, (InS.zero (L := L)).congr fun j => by grind⟩
    · exact (InS.mem h).cons
theorem InS.addMul {L : List (Nat × Vec)} {x : Vec} {q : Nat × Vec} (h : InS L x) (m : q ∈ L) (k : Int) : InS L fun j => x j + k * q.2 j := h.add ((InS.mem m).mul k)
/-- what the rows of L span, another list spans, if it spans the rows -/
theorem InS.sub_span : ∀ {L M : List (Nat × Vec)} {x : Vec}, (∀ q ∈ L, InS M q.2) → InS L x → InS M x
  | [], M, x, _, h => (InS.zero (L := M)).congr fun j => (h j).symm
  | q :: L, M, x, hm, ⟨k, h⟩ => by
    have h1 := InS.sub_span (M := M) (fun p hp => hm p (List.mem_cons_of_mem _ hp)) h
    have h2 := (hm q List.mem_cons_self).mul k
    exact (h1.add h2).congr fun j => by grind
theorem InS.at_zero : ∀ {L : List (Nat × Vec)} {x : Vec} {c : Nat}, (∀ q ∈ L, q.2 c = 0) → InS L x → x c = 0
  | [], _, c, _, h => h c
  | q :: L, x, c, z, ⟨k, h⟩ => by
    have h1 := InS.at_zero (c := c) (fun p hp => z p (List.mem_cons_of_mem _ hp)) h
    have h2 := z q List.mem_cons_self
    rw [h2] at h1
    simpa using h1
/-- what is spanned and small at each pivot is nothing -/
theorem InS.small : ∀ {L : List (Nat × Vec)} {x : Vec}, Ech L → InS L x → (∀ q ∈ L, 0 ≤ x q.1 ∧ x q.1 < q.2 q.1) → ∀ j, x j = 0
  | [], _, _, h, _ => h
  | q :: L, x, ⟨e1, e2, e3⟩, ⟨k, h⟩, s => by
    have h1 := InS.at_zero e2 h
    obtain ⟨s1, s2⟩ := s q List.mem_cons_self
    have h2 : x q.1 = k * q.2 q.1 := by
      have : x q.1 - k * q.2 q.1 = 0 := h1
      omega
    have hk : k = 0 := by
      rw [h2] at s1 s2
      have k1 : 0 ≤ k := by
        rcases Int.lt_or_le k 0 with a | a
        · have := Int.mul_neg_of_neg_of_pos a e1
          omega
        · exact a
      have k2 : k < 1 := by
        rcases Int.lt_or_le k 1 with a | a
        · exact a
        · have := Int.mul_le_mul_of_nonneg_right a (Int.le_of_lt e1)
          omega
      omega
    subst hk
    have h3 : InS L x := h.congr fun j => by simp
    exact InS.small e3 h3 fun p hp => s p (List.mem_cons_of_mem _ hp)
/-- less whole rows -/
def red (x : Vec) (q : Nat × Vec) : Vec := fun j => x j - x q.1 / q.2 q.1 * q.2 j
def reds (L : List (Nat × Vec)) (x : Vec) : Vec := L.foldl red x
theorem red_at {x : Vec} {q : Nat × Vec} : red x q q.1 = x q.1 % q.2 q.1 := by
  unfold red
  have := Int.emod_add_mul_ediv (x q.1) (q.2 q.1)
  have h2 := Int.mul_comm (q.2 q.1) (x q.1 / q.2 q.1)
  omega
theorem red_keeps {x : Vec} {q : Nat × Vec} {c : Nat} (h : q.2 c = 0) : red x q c = x c := by
  unfold red
  rw [h]
  simp
theorem reds_keeps : ∀ {L : List (Nat × Vec)} {x : Vec} {c : Nat}, (∀ q ∈ L, q.2 c = 0) → reds L x c = x c
  | [], _, _, _ => rfl
  | q :: L, x, c, h => by
    show reds L (red x q) c = x c
    rw [reds_keeps fun p hp => h p (List.mem_cons_of_mem _ hp), red_keeps (h q List.mem_cons_self)]
theorem reds_small : ∀ {L : List (Nat × Vec)} {x : Vec}, Ech L → ∀ q ∈ L, 0 ≤ reds L x q.1 ∧ reds L x q.1 < q.2 q.1
  | q :: L, x, ⟨e1, e2, e3⟩, p, hp => by
    show 0 ≤ reds L (red x q) p.1 ∧ reds L (red x q) p.1 < p.2 p.1
    rcases List.mem_cons.mp hp with rfl | hp
    · rw [reds_keeps e2, red_at]
      exact ⟨Int.emod_nonneg _ (by omega), Int.emod_lt_of_pos _ e1⟩
    · exact reds_small e3 p hp
theorem reds_diff : ∀ {L : List (Nat × Vec)} {x : Vec}, InS L fun j => x j - reds L x j
  | [], _ => fun j => by show _ - _ = _; simp [reds]
  | q :: L, x => by
    have h := reds_diff (L := L) (x := red x q)
    refine ⟨x q.1 / q.2 q.1, h.congr fun j => ?_⟩
    show red x q j - reds L (red x q) j = x j - reds L (red x q) j - _
    unfold red
    grind
/-- the reduction is nothing just for what is spanned -/
theorem reds_zero {L : List (Nat × Vec)} {x : Vec} (e : Ech L) : InS L x ↔ ∀ j, reds L x j = 0 := by
  constructor
  · intro h
    have h1 : InS L (reds L x) := (h.sub (reds_diff (L := L) (x := x))).congr fun j => by grind
    exact h1.small e (reds_small e)
  · intro h
    exact (reds_diff (L := L) (x := x)).congr fun j => by rw [h j]; simp
/-- the coefficients of what is spanned -/
def rowAt (L : List (Nat × Vec)) (i : Nat) : Vec := match L[i]? with
  | some q => q.2
  | none => fun _ => 0
def colAt (L : List (Nat × Vec)) (i : Nat) : Nat := match L[i]? with
  | some q => q.1
  | none => 0
theorem rowAt_cons {q : Nat × Vec} {L : List (Nat × Vec)} {i : Nat} : rowAt (q :: L) (i + 1) = rowAt L i := rfl
theorem rowAt_zero {q : Nat × Vec} {L : List (Nat × Vec)} : rowAt (q :: L) 0 = q.2 := rfl
theorem colAt_cons {q : Nat × Vec} {L : List (Nat × Vec)} {i : Nat} : colAt (q :: L) (i + 1) = colAt L i := rfl
theorem colAt_zero {q : Nat × Vec} {L : List (Nat × Vec)} : colAt (q :: L) 0 = q.1 := rfl
theorem InS.coef : ∀ {L : List (Nat × Vec)} {x : Vec}, InS L x → ∃ y : Nat → Int, ∀ n, L.length ≤ n → ∀ j, x j = sm n fun i => y i * rowAt L i j
  | [], x, h => ⟨fun _ => 0, fun n _ j => by rw [h j]; exact (sm_zero fun _ _ => by simp).symm⟩
  | q :: L, x, ⟨k, h⟩ => by
    obtain ⟨y, hy⟩ := InS.coef h
    refine ⟨fun i => match i with | 0 => k | i + 1 => y i, fun n hn j => ?_⟩
    obtain ⟨m, rfl⟩ : ∃ m, n = m + 1 := ⟨n - 1, by simp at hn; omega⟩
    rw [sm_front]
    have := hy m (by simp at hn; omega) j
    show x j = k * q.2 j + sm m fun i => y i * rowAt L i j
    rw [← this]
    omega
theorem ech_tri : ∀ {L : List (Nat × Vec)}, Ech L → ∀ r c, c < r → r < L.length → rowAt L r (colAt L c) = 0
  | [], _, r, c, _, h => by simp at h
  | q :: L, ⟨_, e2, e3⟩, r + 1, 0, _, h => by
    rw [rowAt_cons, colAt_zero]
    have hr : r < L.length := by simpa using h
    have : rowAt L r = (L[r]).2 := by unfold rowAt; rw [List.getElem?_eq_getElem hr]
    rw [this]
    exact e2 _ (List.getElem_mem hr)
  | q :: L, ⟨_, _, e3⟩, r + 1, c + 1, hc, h => ech_tri e3 r c (by omega) (by simpa using h)
  | q :: L, _, 0, c, hc, _ => by omega
theorem ech_pos : ∀ {L : List (Nat × Vec)}, Ech L → ∀ i, i < L.length → 0 < rowAt L i (colAt L i)
  | [], _, i, h => by simp at h
  | q :: L, ⟨e1, _, _⟩, 0, _ => e1
  | q :: L, ⟨_, _, e3⟩, i + 1, h => ech_pos e3 i (by simpa using h)
/-- the product of the pivots -/
def pivs (L : List (Nat × Vec)) : Int := prdI L.length fun i => rowAt L i (colAt L i)
theorem prdI_pos {f : Nat → Int} : ∀ {n : Nat}, (∀ i, i < n → 0 < f i) → 0 < prdI n f
  | 0, _ => Int.zero_lt_one
  | n + 1, h => Int.mul_pos (prdI_pos fun i hi => h i (by omega)) (h n (by omega))
theorem pivs_pos {L : List (Nat × Vec)} (e : Ech L) : 0 < pivs L := prdI_pos fun i hi => ech_pos e i hi
theorem ech_det {L : List (Nat × Vec)} (e : Ech L) : (det L.length fun r c => rowAt L r (colAt L c)) = pivs L :=
  det_tri fun r c hc hr => ech_tri e r c hc hr
/-- the determinant of vectors that are spanned -/
theorem det_span {L : List (Nat × Vec)} (e : Ech L) {v : Nat → Vec} (h : ∀ r, r < L.length → InS L (v r)) : ∃ d : Int, (det L.length fun r c => v r (colAt L c)) = d * pivs L ∧ ∃ Y : Nat → Nat → Int, d = det L.length Y ∧ ∀ r, r < L.length → ∀ j, v r j = sm L.length fun i => Y r i * rowAt L i j := by
  have hy : ∀ r, ∃ y : Nat → Int, r < L.length → ∀ j, v r j = sm L.length fun i => y i * rowAt L i j := fun r => by
    by_cases hr : r < L.length
    · obtain ⟨y, hy⟩ := (h r hr).coef
      exact ⟨y, fun _ => hy _ (Nat.le_refl _)⟩
    · exact ⟨fun _ => 0, fun z => absurd z hr⟩
  refine ⟨det L.length fun r => Classical.choose (hy r), ?_, fun r => Classical.choose (hy r), rfl, fun r hr => Classical.choose_spec (hy r) hr⟩
  rw [← ech_det e, ← det_prod]
  exact det_congr fun r c hr _ => Classical.choose_spec (hy r) hr _
/-- more vectors than rows: nothing -/
theorem det_more {L : List (Nat × Vec)} {n : Nat} (hn : L.length < n) {v : Nat → Vec} {col : Nat → Nat} (h : ∀ r, r < n → InS L (v r)) : (det n fun r c => v r (col c)) = 0 := by
  have hy : ∀ r, ∃ y : Nat → Int, r < n → ∀ j, v r j = sm n fun i => y i * rowAt L i j := fun r => by
    by_cases hr : r < n
    · obtain ⟨y, hy⟩ := (h r hr).coef
      exact ⟨y, fun _ => hy _ (by omega)⟩
    · exact ⟨fun _ => 0, fun z => absurd z hr⟩
  have e : (det n fun r c => v r (col c)) = det n fun r c => sm n fun j => (fun r => Classical.choose (hy r)) r j * rowAt L j (col c) := det_congr fun r c hr _ => Classical.choose_spec (hy r) hr _
  have z : (det n fun r c => rowAt L r (col c)) = 0 := det_row0 (i := L.length) hn fun c => by
    unfold rowAt
    rw [List.getElem?_eq_none (Nat.le_refl _)]
  rw [e, det_prod (Y := fun r => Classical.choose (hy r)) (E := rowAt L), z, Int.mul_zero]
end Sm
/-! # A4 -/
namespace Sm
/-! ### the program's own functions, over plain lists -/
abbrev Row := List Int
def gf (r : Row) : Vec := fun j => r.getD j 0
def mixed (t : Int) (r : Row) (o : Int) (s : Row) : Row := List.zipWith (fun a b => t * a + o * b) r s
def unit (at_ w : Nat) : Row := (List.range w).map fun p => if p = at_ then 1 else 0
theorem fmod_abs {a b : Int} (h : b ≠ 0) : (a.fmod b).natAbs < b.natAbs := by
  rw [Int.fmod_eq_emod]
  have h1 := Int.emod_nonneg a h
  have h2 := Int.emod_lt a h
  split
  · omega
  · rename_i q
    have h3 : a % b ≠ 0 := fun z => q (.inr (Int.dvd_of_emod_eq_zero z))
    have h4 : ¬ 0 ≤ b := fun z => q (.inl z)
    omega
/-- Euclid's turns -/
def eu (part times others rest rt ro : Int) : Int × Int × Int :=
  if h : rest = 0 then (if part < 0 then (-part, -times, -others) else (part, times, others))
  else eu rest rt ro (part - part.fdiv rest * rest) (times - part.fdiv rest * rt) (others - part.fdiv rest * ro)
termination_by rest.natAbs
decreasing_by
  have e : part - part.fdiv rest * rest = part.fmod rest := by
    have := Int.fmod_add_mul_fdiv part rest
    rw [Int.mul_comm]
    omega
  rw [e]
  exact fmod_abs h
def common (a b : Int) : Int × Int × Int := if b.fmod a = 0 then (a, 1, 0) else eu a 1 0 b 0 1
structure Sts where
  w : Nat
  m : Nat
  st : Nat → Option Row
  idle : List (Nat × Row)
def Sts.put (S : Sts) (c : Nat) (s : Row) : Sts := { S with st := fun d => if d = c then some s else S.st d }
def Sts.colsB (S : Sts) (a b : Nat) : List (Nat × Row) := (List.range' a (b - a)).filterMap fun c => (S.st c).map fun s => (c, s)
def Sts.cols (S : Sts) (a : Nat) : List (Nat × Row) := S.colsB a S.w
def redR (x : Row) (q : Nat × Row) : Row := if (gf x q.1).fdiv (gf q.2 q.1) ≠ 0 then mixed 1 x (-((gf x q.1).fdiv (gf q.2 q.1))) q.2 else x
def Sts.tidied (S : Sts) (x : Row) (a : Nat) : Row := (S.cols a ++ S.idle).foldl redR x
def Sts.met (S : Sts) (c : Nat) (s x : Row) : Sts × Row :=
  let k := common (gf s c) (gf x c)
  let S1 := if k.2.2 ≠ 0 then S.put c (S.tidied (mixed k.2.1 s k.2.2 x) (c + 1)) else S
  (S1, S1.tidied (mixed ((gf s c).fdiv k.1) x (-((gf x c).fdiv k.1)) s) (c + 1))
def sgnR (c : Nat) (x : Row) : Row := x.map fun n => (if 0 < gf x c then 1 else -1) * n
def Sts.lay (at_ : Nat) : List Nat → Sts → Row → Sts
  | [], S, x => { S with idle := (S.w + at_, x) :: S.idle }
  | c :: cs, S, x => if gf x c = 0 then Sts.lay at_ cs S x else match S.st c with
    | none => S.put c (sgnR c x)
    | some s => Sts.lay at_ cs (S.met c s x).1 (S.met c s x).2
def Sts.tidy : List Nat → Sts → Sts
  | [], S => S
  | c :: cs, S => Sts.tidy cs (match S.st c with
    | none => S
    | some s => S.put c (S.tidied s (c + 1)))
def Sts.turn (S : Sts) (at_ : Nat) (row : Row) : Sts := Sts.tidy (List.range S.w) (Sts.lay at_ (List.range S.w) S (row ++ unit at_ S.m))
def Sts.all : List Row → Nat → Sts → Sts
  | [], _, S => S
  | r :: rs, at_, S => Sts.all rs (at_ + 1) (S.turn at_ r)
def stairs (w : Nat) (rows : List Row) : Sts := Sts.all rows 0 ⟨w, rows.length, fun _ => none, []⟩
def Sts.steps (S : Sts) : List Row := (S.cols 0).map fun q => q.2.take S.w
def Sts.stepTimes (S : Sts) : List Row := (S.cols 0).map fun q => q.2.drop S.w
def Sts.idleTimes (S : Sts) : List Row := S.idle.map fun q => q.2.drop S.w

/-! ### numbers that go into both -/
theorem eu_ok (a b : Int) : ∀ (n : Nat) (part times others rest rt ro : Int), rest.natAbs ≤ n → part = times * a + others * b → rest = rt * a + ro * b → (part ≠ 0 ∨ rest ≠ 0) →
    (∀ d : Int, d ∣ part → d ∣ rest → d ∣ a ∧ d ∣ b) →
    0 < (eu part times others rest rt ro).1 ∧ (eu part times others rest rt ro).1 = (eu part times others rest rt ro).2.1 * a + (eu part times others rest rt ro).2.2 * b ∧
      (eu part times others rest rt ro).1 ∣ a ∧ (eu part times others rest rt ro).1 ∣ b := by
  intro n
  induction n with
  | zero =>
    intro part times others rest rt ro hn e1 e2 nz dv
    have hr : rest = 0 := by omega
    rw [eu, dif_pos hr]
    have hp : part ≠ 0 := by omega
    split
    · rename_i h
      refine ⟨by show 0 < -part; omega, by show -part = -times * a + -others * b; rw [e1]; grind, ?_⟩
      have := dv (-part) (Int.neg_dvd.mpr (Int.dvd_refl _)) (by rw [hr]; exact Int.dvd_zero _)
      exact this
    · refine ⟨by show 0 < part; omega, e1, ?_⟩
      exact dv part (Int.dvd_refl _) (by rw [hr]; exact Int.dvd_zero _)
  | succ n ih =>
    intro part times others rest rt ro hn e1 e2 nz dv
    by_cases hr : rest = 0
    · rw [eu, dif_pos hr]
      have hp : part ≠ 0 := by omega
      split
      · rename_i h
        refine ⟨by show 0 < -part; omega, by show -part = -times * a + -others * b; rw [e1]; grind, ?_⟩
        exact dv (-part) (Int.neg_dvd.mpr (Int.dvd_refl _)) (by rw [hr]; exact Int.dvd_zero _)
      · refine ⟨by show 0 < part; omega, e1, ?_⟩
        exact dv part (Int.dvd_refl _) (by rw [hr]; exact Int.dvd_zero _)
    · rw [eu, dif_neg hr]
      have em : part - part.fdiv rest * rest = part.fmod rest := by
        have := Int.fmod_add_mul_fdiv part rest
        rw [Int.mul_comm]
        omega
      have hlt : (part.fmod rest).natAbs < rest.natAbs := fmod_abs hr
      refine ih rest rt ro _ _ _ (by rw [em]; omega) e2 ?_ (.inl hr) fun d h1 h2 => ?_
      · rw [e1, e2]
        generalize (times * a + others * b).fdiv (rt * a + ro * b) = k
        grind
      · have h3 : d ∣ part := by
          have : part = (part - part.fdiv rest * rest) + part.fdiv rest * rest := by omega
          rw [this]
          exact Int.dvd_add h2 (Int.dvd_trans h1 (Int.dvd_mul_left _ _))
        exact dv d h3 h1
theorem common_ok {a b : Int} (ha : 0 < a) : 0 < (common a b).1 ∧ (common a b).1 = (common a b).2.1 * a + (common a b).2.2 * b ∧ (common a b).1 ∣ a ∧ (common a b).1 ∣ b := by
  unfold common
  split
  · rename_i h
    refine ⟨ha, by show a = 1 * a + 0 * b; omega, Int.dvd_refl _, ?_⟩
    exact Int.dvd_of_fmod_eq_zero h
  · exact eu_ok a b b.natAbs a 1 0 b 0 1 (Nat.le_refl _) (by omega) (by omega) (.inl (by omega)) fun d h1 h2 => ⟨h1, h2⟩
/-- nothing of the other taken: the first goes into it -/
theorem common_no {a b : Int} (ha : 0 < a) (h : (common a b).2.2 = 0) : (common a b).1 = a ∧ (common a b).2.1 = 1 := by
  obtain ⟨h1, h2, ⟨k, h3⟩, _⟩ := common_ok (b := b) ha
  rw [h] at h2
  generalize (common a b).1 = p at *
  generalize (common a b).2.1 = t at *
  have e : p = t * a := by omega
  have tp : 0 < t := by
    rcases Int.lt_or_le 0 t with q | q
    · exact q
    · have := Int.mul_nonneg_of_nonpos_of_nonpos (a := t) (b := -a) q (by omega)
      have : t * -a = - (t * a) := by grind
      omega
  have kp : 0 < k := by
    rcases Int.lt_or_le 0 k with q | q
    · exact q
    · have := Int.mul_nonneg_of_nonpos_of_nonpos (a := k) (b := -p) q (by omega)
      have : k * -p = - (p * k) := by grind
      omega
  have e2 : t * k = 1 := by
    have : a * 1 = a * (t * k) := by rw [Int.mul_one]; conv => lhs; rw [h3, e]
                                     grind
    exact (Int.eq_of_mul_eq_mul_left (by omega) this).symm
  have t1 : t = 1 := by
    rcases Int.lt_or_le 1 t with q | q
    · have := Int.mul_le_mul_of_nonneg_right (a := 2) (b := t) (c := k) q (by omega)
      omega
    · omega
  exact ⟨by rw [e, t1]; omega, t1⟩

/-! ### lists as vectors -/
theorem gf_mixed {t o : Int} {r s : Row} (h : r.length = s.length) (j : Nat) : gf (mixed t r o s) j = t * gf r j + o * gf s j := by
  unfold gf mixed
  rw [List.getD_eq_getElem?_getD, List.getD_eq_getElem?_getD, List.getD_eq_getElem?_getD, List.getElem?_zipWith]
  by_cases q : j < r.length
  · rw [List.getElem?_eq_getElem q, List.getElem?_eq_getElem (by omega)]
    rfl
  · rw [List.getElem?_eq_none (by omega), List.getElem?_eq_none (by omega)]
    simp
theorem mixed_len {t o : Int} {r s : Row} (h : r.length = s.length) : (mixed t r o s).length = r.length := by
  unfold mixed
  rw [List.length_zipWith, h, Nat.min_self]
theorem gf_out {r : Row} {j : Nat} (h : r.length ≤ j) : gf r j = 0 := by
  unfold gf
  rw [List.getD_eq_getElem?_getD, List.getElem?_eq_none h]
  rfl
theorem redR_len {x : Row} {q : Nat × Row} (h : x.length = q.2.length) : (redR x q).length = x.length := by
  unfold redR
  split
  · exact mixed_len h
  · rfl
theorem gf_redR {x : Row} {q : Nat × Row} (h : x.length = q.2.length) (hp : 0 < gf q.2 q.1) : gf (redR x q) = red (gf x) (q.1, gf q.2) := by
  funext j
  unfold redR red
  have e : (gf x q.1).fdiv (gf q.2 q.1) = gf x q.1 / gf q.2 q.1 := Int.fdiv_eq_ediv_of_nonneg _ (by omega)
  rw [e]
  split
  · rw [gf_mixed h]
    show _ = gf x j - gf x q.1 / gf q.2 q.1 * gf q.2 j
    grind
  · rename_i hz
    have hz : gf x q.1 / gf q.2 q.1 = 0 := by omega
    show gf x j = gf x j - gf x q.1 / gf q.2 q.1 * gf q.2 j
    rw [hz]
    omega
def vecs (L : List (Nat × Row)) : List (Nat × Vec) := L.map fun q => (q.1, gf q.2)
theorem foldl_redR_len {n : Nat} : ∀ {L : List (Nat × Row)} {x : Row}, x.length = n → (∀ q ∈ L, q.2.length = n) → (L.foldl redR x).length = n
  | [], _, h, _ => h
  | q :: L, x, h, hl => by
    rw [List.foldl_cons]
    exact foldl_redR_len (by rw [redR_len (by rw [h, hl q List.mem_cons_self]), h]) fun p hp => hl p (List.mem_cons_of_mem _ hp)
theorem gf_foldl {n : Nat} : ∀ {L : List (Nat × Row)} {x : Row}, x.length = n → (∀ q ∈ L, q.2.length = n) → (∀ q ∈ L, 0 < gf q.2 q.1) → gf (L.foldl redR x) = reds (vecs L) (gf x)
  | [], _, _, _, _ => rfl
  | q :: L, x, h, hl, hp => by
    rw [List.foldl_cons, gf_foldl (n := n) (by rw [redR_len (by rw [h, hl q List.mem_cons_self]), h]) (fun p hq => hl p (List.mem_cons_of_mem _ hq)) (fun p hq => hp p (List.mem_cons_of_mem _ hq)),
      gf_redR (by rw [h, hl q List.mem_cons_self]) (hp q List.mem_cons_self)]
    rfl
theorem mem_colsB {S : Sts} {a b c : Nat} {s : Row} : (c, s) ∈ S.colsB a b ↔ a ≤ c ∧ c < b ∧ S.st c = some s := by
  unfold Sts.colsB
  rw [List.mem_filterMap]
  constructor
  · rintro ⟨d, hd, e⟩
    obtain ⟨i, hi, rfl⟩ := List.mem_range'.mp hd
    cases q : S.st (a + 1 * i) with
    | none => rw [q] at e; cases e
    | some u =>
      rw [q] at e
      have e2 : (a + 1 * i, u) = (c, s) := Option.some.inj e
      injection e2 with e3 e4
      subst e3 e4
      exact ⟨by omega, by omega, q⟩
  · rintro ⟨h1, h2, h3⟩
    exact ⟨c, List.mem_range'.mpr ⟨c - a, by omega, by omega⟩, by rw [h3]; rfl⟩
theorem colsB_split {S : Sts} {a b c : Nat} (h1 : a ≤ b) (h2 : b ≤ c) : S.colsB a c = S.colsB a b ++ S.colsB b c := by
  unfold Sts.colsB
  rw [← List.filterMap_append]
  congr 1
  have : c - a = (b - a) + (c - b) := by omega
  rw [this, ← List.range'_append]
  congr 2
  omega
theorem colsB_one {S : Sts} {c : Nat} {s : Row} (h : S.st c = some s) : S.colsB c (c + 1) = [(c, s)] := by
  unfold Sts.colsB
  rw [show c + 1 - c = 1 by omega]
  show List.filterMap _ [c] = _
  rw [List.filterMap_cons, h]
  rfl
theorem colsB_none {S : Sts} {c : Nat} (h : S.st c = none) : S.colsB c (c + 1) = [] := by
  unfold Sts.colsB
  rw [show c + 1 - c = 1 by omega]
  show List.filterMap _ [c] = _
  rw [List.filterMap_cons, h]
  rfl
theorem filterMap_same {α β : Type} {f g : α → Option β} : ∀ {l : List α}, (∀ x ∈ l, f x = g x) → l.filterMap f = l.filterMap g
  | [], _ => rfl
  | x :: l, h => by
    rw [List.filterMap_cons, List.filterMap_cons, h x List.mem_cons_self, filterMap_same fun y hy => h y (List.mem_cons_of_mem _ hy)]
theorem colsB_congr {S T : Sts} {a b : Nat} (h : ∀ c, a ≤ c → c < b → S.st c = T.st c) : S.colsB a b = T.colsB a b := by
  unfold Sts.colsB
  refine filterMap_same fun c hc => ?_
  obtain ⟨i, hi, rfl⟩ := List.mem_range'.mp hc
  rw [h _ (by omega) (by omega)]
theorem colsB_at {S : Sts} {c w : Nat} {s : Row} (h : S.st c = some s) (hc : c < w) : S.colsB 0 w = S.colsB 0 c ++ (c, s) :: S.colsB (c + 1) w := by
  rw [colsB_split (b := c) (by omega) (by omega), colsB_split (a := c) (b := c + 1) (by omega) (by omega), colsB_one h]
  rfl
theorem ech_append : ∀ {L M : List (Nat × Vec)}, Ech (L ++ M) ↔ Ech L ∧ Ech M ∧ ∀ q ∈ L, ∀ p ∈ M, p.2 q.1 = 0
  | [], M => ⟨fun h => ⟨trivial, h, fun _ h => nomatch h⟩, fun h => h.2.1⟩
  | q :: L, M => by
    constructor
    · rintro ⟨h1, h2, h3⟩
      obtain ⟨a, b, c⟩ := ech_append.mp h3
      refine ⟨⟨h1, fun p hp => h2 p (List.mem_append.mpr (.inl hp)), a⟩, b, fun r hr p hp => ?_⟩
      rcases List.mem_cons.mp hr with rfl | hr
      · exact h2 p (List.mem_append.mpr (.inr hp))
      · exact c r hr p hp
    · rintro ⟨⟨h1, h2, h3⟩, b, c⟩
      refine ⟨h1, fun p hp => ?_, ech_append.mpr ⟨h3, b, fun r hr => c r (List.mem_cons_of_mem _ hr)⟩⟩
      rcases List.mem_append.mp hp with hp | hp
      · exact h2 p hp
      · exact c q List.mem_cons_self p hp
end Sm
/-! # A5 -/
namespace Sm
def Tru (w m : Nat) (R : Nat → Vec) (x : Vec) : Prop := ∀ c, c < w → x c = sm m fun i => x (w + i) * R i c
/-- what holds of all rows, holds of what they span -/
theorem InS.closed {P : Vec → Prop} (h0 : P fun _ => 0) (ha : ∀ (x y : Vec) (k : Int), P x → P y → P fun j => x j + k * y j) : ∀ {L : List (Nat × Vec)} {x : Vec}, (∀ q ∈ L, P q.2) → InS L x → P x
  | [], x, _, h => by
    have e : x = fun _ => 0 := funext h
    rw [e]
    exact h0
  | q :: L, x, hp, ⟨k, h⟩ => by
    have h1 := InS.closed h0 ha (fun p hq => hp p (List.mem_cons_of_mem _ hq)) h
    have h2 := ha _ _ k h1 (hp q List.mem_cons_self)
    have e : (fun j => (fun j => x j - k * q.2 j) j + k * q.2 j) = x := by
      funext j
      dsimp only
      omega
    rw [e] at h2
    exact h2
theorem tru_zero {w m : Nat} {R : Nat → Vec} : Tru w m R fun _ => 0 := fun c _ => (sm_zero fun _ _ => by simp).symm
theorem tru_lin {w m : Nat} {R : Nat → Vec} {x y : Vec} (a b : Int) (hx : Tru w m R x) (hy : Tru w m R y) : Tru w m R fun j => a * x j + b * y j := fun c hc => by
  show a * x c + b * y c = _
  rw [hx c hc, hy c hc, ← sm_mul, ← sm_mul, ← sm_add]
  exact sm_congr fun i _ => by grind
theorem tru_add {w m : Nat} {R : Nat → Vec} (x y : Vec) (k : Int) (hx : Tru w m R x) (hy : Tru w m R y) : Tru w m R fun j => x j + k * y j := by
  have := tru_lin 1 k hx hy
  simpa using this
/-- the long row of the i-th row -/
def unitV (w : Nat) (R : Nat → Vec) (i : Nat) : Vec := fun j => if j < w then R i j else if j = w + i then 1 else 0
theorem tru_unit {w m : Nat} {R : Nat → Vec} {i : Nat} (hi : i < m) : Tru w m R (unitV w R i) := fun c hc => by
  have e : unitV w R i c = R i c := by unfold unitV; rw [if_pos hc]
  rw [e, sm_one (f := fun j => unitV w R i (w + j) * R j c) hi fun j _ ne => by
    have : unitV w R i (w + j) = 0 := by unfold unitV; rw [if_neg (by omega), if_neg (by omega)]
    rw [this, Int.zero_mul]]
  have : unitV w R i (w + i) = 1 := by unfold unitV; rw [if_neg (by omega), if_pos rfl]
  rw [this, Int.one_mul]
def Sts.gens (S : Sts) : List (Nat × Row) := S.cols 0 ++ S.idle
structure Good (R : Nat → Vec) (k : Nat) (S : Sts) : Prop where
  len : ∀ q ∈ S.gens, q.2.length = S.w + S.m
  tru : ∀ q ∈ S.gens, Tru S.w S.m R (gf q.2)
  cof : ∀ q ∈ S.gens, ∀ i, k ≤ i → gf q.2 (S.w + i) = 0
  pos : ∀ c s, c < S.w → S.st c = some s → 0 < gf s c
  sup : ∀ c s, c < S.w → S.st c = some s → ∀ j, j < c → gf s j = 0
  ide : Ech (vecs S.idle)
  idw : ∀ q ∈ S.idle, (∀ j, j < S.w → gf q.2 j = 0) ∧ S.w ≤ q.1 ∧ q.1 < S.w + k
theorem mem_cols {S : Sts} {a c : Nat} {s : Row} : (c, s) ∈ S.cols a ↔ a ≤ c ∧ c < S.w ∧ S.st c = some s := mem_colsB
theorem mem_gens {S : Sts} {q : Nat × Row} : q ∈ S.gens ↔ (q.1 < S.w ∧ S.st q.1 = some q.2) ∨ q ∈ S.idle := by
  unfold Sts.gens
  rw [List.mem_append]
  obtain ⟨c, s⟩ := q
  rw [mem_cols]
  constructor
  · rintro (⟨_, h⟩ | h)
    · exact .inl h
    · exact .inr h
  · rintro (h | h)
    · exact .inl ⟨by omega, h⟩
    · exact .inr h
theorem vecs_mem {L : List (Nat × Row)} {p : Nat × Vec} (h : p ∈ vecs L) : ∃ q ∈ L, p = (q.1, gf q.2) := by
  obtain ⟨q, hq, e⟩ := List.mem_map.mp h
  exact ⟨q, hq, e.symm⟩
theorem mem_vecs {L : List (Nat × Row)} {q : Nat × Row} (h : q ∈ L) : (q.1, gf q.2) ∈ vecs L := List.mem_map.mpr ⟨q, h, rfl⟩
theorem vecs_append {L M : List (Nat × Row)} : vecs (L ++ M) = vecs L ++ vecs M := List.map_append
theorem ech_ide : ∀ {L : List (Nat × Row)}, Ech (vecs L) → ∀ q ∈ L, 0 < gf q.2 q.1
  | q :: L, ⟨h1, _, h3⟩, p, hp => by
    rcases List.mem_cons.mp hp with rfl | hp
    · exact h1
    · exact ech_ide h3 p hp
section
variable {R : Nat → Vec} {k : Nat} {S : Sts}
theorem Good.part (G : Good R k S) (a : Nat) : ∀ q ∈ S.cols a ++ S.idle, q ∈ S.gens := fun q hq => by
  obtain ⟨c, s⟩ := q
  rcases List.mem_append.mp hq with h | h
  · exact mem_gens.mpr (.inl (mem_cols.mp h).2)
  · exact mem_gens.mpr (.inr h)
theorem Good.piv (G : Good R k S) : ∀ q ∈ S.gens, 0 < gf q.2 q.1 := fun q hq => by
  rcases mem_gens.mp hq with ⟨h1, h2⟩ | h
  · exact G.pos _ _ h1 h2
  · exact ech_ide G.ide q h
theorem colsB_ech (G : Good R k S) : ∀ (n a : Nat), a + n = S.w → Ech (vecs (S.cols a ++ S.idle))
  | 0, a, h => by
    have : S.cols a = [] := by
      unfold Sts.cols Sts.colsB
      rw [show S.w - a = 0 by omega]
      rfl
    rw [this]
    exact G.ide
  | n + 1, a, h => by
    have ih := colsB_ech G n (a + 1) (by omega)
    have e : S.cols a = S.colsB a (a + 1) ++ S.cols (a + 1) := colsB_split (by omega) (by omega)
    cases q : S.st a with
    | none =>
      rw [e, colsB_none q]
      exact ih
    | some s =>
      rw [e, colsB_one q]
      refine ⟨G.pos a s (by omega) q, fun p hp => ?_, ih⟩
      obtain ⟨r, hr, rfl⟩ := vecs_mem hp
      obtain ⟨d, u⟩ := r
      rcases List.mem_append.mp hr with h1 | h1
      · obtain ⟨h2, h3, h4⟩ := mem_cols.mp h1
        exact G.sup d u h3 h4 a (by omega)
      · exact (G.idw _ h1).1 a (by omega)
theorem Good.ech (G : Good R k S) {a : Nat} (h : a ≤ S.w) : Ech (vecs (S.cols a ++ S.idle)) := colsB_ech G (S.w - a) a (by omega)
/-- what a tidied row is -/
structure Tid (S : Sts) (x y : Row) (a : Nat) : Prop where
  len : y.length = S.w + S.m
  eq : gf y = reds (vecs (S.cols a ++ S.idle)) (gf x)
  diff : InS (vecs (S.cols a ++ S.idle)) fun j => gf x j - gf y j
  keep : ∀ j, j < a → gf y j = gf x j
  small : ∀ q ∈ S.cols a ++ S.idle, 0 ≤ gf y q.1 ∧ gf y q.1 < gf q.2 q.1
theorem Good.tid (G : Good R k S) {x : Row} (hx : x.length = S.w + S.m) {a : Nat} (ha : a ≤ S.w) : Tid S x (S.tidied x a) a := by
  have hl : ∀ q ∈ S.cols a ++ S.idle, q.2.length = S.w + S.m := fun q hq => G.len q (G.part a q hq)
  have hp : ∀ q ∈ S.cols a ++ S.idle, 0 < gf q.2 q.1 := fun q hq => G.piv q (G.part a q hq)
  have e : gf (S.tidied x a) = reds (vecs (S.cols a ++ S.idle)) (gf x) := gf_foldl hx hl hp
  refine ⟨foldl_redR_len hx hl, e, ?_, fun j hj => ?_, fun q hq => ?_⟩
  · rw [e]
    exact reds_diff
  · rw [e]
    refine reds_keeps fun p hp => ?_
    obtain ⟨r, hr, rfl⟩ := vecs_mem hp
    obtain ⟨d, u⟩ := r
    rcases List.mem_append.mp hr with h1 | h1
    · obtain ⟨h2, h3, h4⟩ := mem_cols.mp h1
      exact G.sup d u h3 h4 j (by omega)
    · exact (G.idw _ h1).1 j (by omega)
  · rw [e]
    exact reds_small (G.ech ha) (q.1, gf q.2) (mem_vecs hq)
/-- a linear property goes through -/
theorem Tid.pred {x y : Row} {a : Nat} (T : Tid S x y a) {P : Vec → Prop} (h0 : P fun _ => 0) (ha : ∀ (x y : Vec) (k : Int), P x → P y → P fun j => x j + k * y j) (hx : P (gf x)) (hg : ∀ q ∈ S.cols a ++ S.idle, P (gf q.2)) : P (gf y) := by
  have h1 := InS.closed h0 ha (fun p hp => by
    obtain ⟨r, hr, rfl⟩ := vecs_mem hp
    exact hg r hr) T.diff
  have h2 := ha _ _ (-1) hx h1
  have e : (fun j => gf x j + -1 * (fun j => gf x j - gf y j) j) = gf y := by
    funext j
    dsimp only
    omega
  rw [e] at h2
  exact h2
theorem zero_at_add {c : Nat} (x y : Vec) (k : Int) (hx : x c = 0) (hy : y c = 0) : (fun j => x j + k * y j) c = 0 := by
  show x c + k * y c = 0
  rw [hx, hy]
  simp
/-- the row at_ on its way -/
structure Mid (R : Nat → Vec) (at_ c : Nat) (S : Sts) (x : Row) : Prop where
  g : Good R (at_ + 1) S
  am : at_ < S.m
  new : ∀ d s, c ≤ d → d < S.w → S.st d = some s → gf s (S.w + at_) = 0
  newI : ∀ q ∈ S.idle, gf q.2 (S.w + at_) = 0
  xlen : x.length = S.w + S.m
  xtru : Tru S.w S.m R (gf x)
  xcof : ∀ i, at_ + 1 ≤ i → gf x (S.w + i) = 0
  xpos : 0 < gf x (S.w + at_)
  xz : ∀ j, j < c → gf x j = 0
  xid : ∀ q ∈ S.idle, 0 ≤ gf x q.1 ∧ gf x q.1 < gf q.2 q.1
def SpanLe (S : Sts) (x : Row) (S' : Sts) : Prop := ∀ v, InS ((0, gf x) :: vecs S.gens) v → InS (vecs S'.gens) v
end
theorem put_st {S : Sts} {c d : Nat} {s : Row} : (S.put c s).st d = if d = c then some s else S.st d := rfl
theorem gf_map {f : Int → Int} (h : f 0 = 0) {x : Row} {j : Nat} : gf (x.map f) j = f (gf x j) := by
  unfold gf
  rw [List.getD_eq_getElem?_getD, List.getD_eq_getElem?_getD, List.getElem?_map]
  cases x[j]? with
  | none => exact h.symm
  | some v => rfl
theorem mem_put {S : Sts} {c : Nat} {s : Row} {q : Nat × Row} (h : q ∈ (S.put c s).gens) : q = (c, s) ∨ (q ∈ S.gens ∧ (q.1 ≠ c ∨ q ∈ S.idle)) := by
  rcases mem_gens.mp h with ⟨h1, h2⟩ | h2
  · rw [put_st] at h2
    by_cases e : q.1 = c
    · rw [if_pos e] at h2
      have := Option.some.inj h2
      exact .inl (Prod.ext e this.symm)
    · rw [if_neg e] at h2
      exact .inr ⟨mem_gens.mpr (.inl ⟨h1, h2⟩), .inl e⟩
  · exact .inr ⟨mem_gens.mpr (.inr h2), .inr h2⟩
theorem put_mem {S : Sts} {c : Nat} {s : Row} (hc : c < S.w) : (c, s) ∈ (S.put c s).gens := mem_gens.mpr (.inl ⟨hc, by rw [put_st, if_pos rfl]⟩)
theorem mem_put_of {S : Sts} {c : Nat} {s : Row} {q : Nat × Row} (h : q ∈ S.gens) (ne : q.1 ≠ c ∨ q ∈ S.idle) : q ∈ (S.put c s).gens := by
  rcases mem_gens.mp h with ⟨h1, h2⟩ | h2
  · rcases ne with e | e
    · exact mem_gens.mpr (.inl ⟨h1, by rw [put_st, if_neg e]; exact h2⟩)
    · exact mem_gens.mpr (.inr e)
  · exact mem_gens.mpr (.inr h2)
section
variable {R : Nat → Vec} {k : Nat} {S : Sts}
theorem Good.put (G : Good R k S) {c : Nat} {s : Row} (hc : c < S.w) (h1 : s.length = S.w + S.m) (h2 : Tru S.w S.m R (gf s)) (h3 : ∀ i, k ≤ i → gf s (S.w + i) = 0) (h4 : 0 < gf s c) (h5 : ∀ j, j < c → gf s j = 0) : Good R k (S.put c s) where
  len := fun q hq => by
    rcases mem_put hq with rfl | ⟨h, _⟩
    · exact h1
    · exact G.len q h
  tru := fun q hq => by
    rcases mem_put hq with rfl | ⟨h, _⟩
    · exact h2
    · exact G.tru q h
  cof := fun q hq => by
    rcases mem_put hq with rfl | ⟨h, _⟩
    · exact h3
    · exact G.cof q h
  pos := fun d u hd e => by
    rw [put_st] at e
    by_cases q : d = c
    · rw [if_pos q] at e
      rw [← Option.some.inj e, q]
      exact h4
    · rw [if_neg q] at e
      exact G.pos d u hd e
  sup := fun d u hd e => by
    rw [put_st] at e
    by_cases q : d = c
    · rw [if_pos q] at e
      rw [← Option.some.inj e, q]
      exact h5
    · rw [if_neg q] at e
      exact G.sup d u hd e
  ide := G.ide
  idw := G.idw
theorem put_tidied {s x : Row} {c a : Nat} (h : c < a) : (S.put c s).tidied x a = S.tidied x a := by
  unfold Sts.tidied
  have : (S.put c s).cols a = S.cols a := colsB_congr fun d h1 _ => by rw [put_st, if_neg (by omega)]
  rw [this]
  rfl
/-- a step takes in what is on its way -/
theorem Mid.met {at_ c : Nat} {s x : Row} (M : Mid R at_ c S x) (hc : c < S.w) (hs : S.st c = some s) (hx : gf x c ≠ 0) :
    Mid R at_ (c + 1) (S.met c s x).1 (S.met c s x).2 ∧ (S.met c s x).1.w = S.w ∧ (S.met c s x).1.m = S.m ∧
      ∀ v, InS ((0, gf x) :: vecs S.gens) v → InS ((0, gf (S.met c s x).2) :: vecs (S.met c s x).1.gens) v := by
  have G := M.g
  have hsg : (c, s) ∈ S.gens := mem_gens.mpr (.inl ⟨hc, hs⟩)
  have sl : s.length = S.w + S.m := G.len _ hsg
  have st : Tru S.w S.m R (gf s) := G.tru _ hsg
  have sp := G.pos c s hc hs
  obtain ⟨k1, k2, k3, k4⟩ := common_ok (b := gf x c) sp
  have kn := common_no (b := gf x c) sp
  unfold Sts.met
  dsimp only
  generalize common (gf s c) (gf x c) = K at *
  obtain ⟨p, t, o⟩ := K
  dsimp only at k1 k2 k3 k4 kn ⊢
  obtain ⟨s1, es1⟩ := k3
  obtain ⟨x1, ex1⟩ := k4
  have f1 : (gf s c).fdiv p = s1 := by rw [es1, Int.fdiv_eq_ediv_of_nonneg _ (by omega)]; exact Int.mul_ediv_cancel_left _ (by omega)
  have f2 : (gf x c).fdiv p = x1 := by rw [ex1, Int.fdiv_eq_ediv_of_nonneg _ (by omega)]; exact Int.mul_ediv_cancel_left _ (by omega)
  have bez : t * s1 + o * x1 = 1 := by
    have : p * (t * s1 + o * x1) = p * 1 := by
      rw [Int.mul_one]
      conv => rhs; rw [k2, es1, ex1]
      grind
    exact Int.eq_of_mul_eq_mul_left (by omega) this
  have s1p : 0 < s1 := by
    rcases Int.lt_or_le 0 s1 with q | q
    · exact q
    · have := Int.mul_nonneg_of_nonpos_of_nonpos (a := s1) (b := -p) q (by omega)
      have : s1 * -p = - (p * s1) := by grind
      omega
  rw [f1, f2]
  -- the two combined rows
  have el : x.length = s.length := by rw [M.xlen, sl]
  have Yl : (mixed s1 x (-x1) s).length = S.w + S.m := by rw [mixed_len el, M.xlen]
  have gY : gf (mixed s1 x (-x1) s) = fun j => s1 * gf x j + -x1 * gf s j := by funext j; exact gf_mixed el j
  have Zl : (mixed t s o x).length = S.w + S.m := by rw [mixed_len el.symm, sl]
  have gZ : gf (mixed t s o x) = fun j => t * gf s j + o * gf x j := by funext j; exact gf_mixed el.symm j
  have TY := G.tid Yl (a := c + 1) (by omega)
  have TZ := G.tid Zl (a := c + 1) (by omega)
  -- later steps and idle rows know nothing of at_
  have later : ∀ q ∈ S.cols (c + 1) ++ S.idle, gf q.2 (S.w + at_) = 0 := fun q hq => by
    obtain ⟨d, u⟩ := q
    rcases List.mem_append.mp hq with h | h
    · obtain ⟨h1, h2, h3⟩ := mem_cols.mp h
      exact M.new d u (by omega) h2 h3
    · exact M.newI _ h
  have part := G.part (c + 1)
  have szero : ∀ j, j < c → gf s j = 0 := G.sup c s hc hs
  -- the rest of x
  generalize hY : S.tidied (mixed s1 x (-x1) s) (c + 1) = Y at TY
  generalize hZ : S.tidied (mixed t s o x) (c + 1) = Z at TZ
  have YT : Tru S.w S.m R (gf Y) := TY.pred tru_zero (fun _ _ _ => tru_add _ _ _) (by rw [gY]; exact tru_lin _ _ M.xtru st) fun q hq => G.tru q (part q hq)
  have ZT : Tru S.w S.m R (gf Z) := TZ.pred tru_zero (fun _ _ _ => tru_add _ _ _) (by rw [gZ]; exact tru_lin _ _ st M.xtru) fun q hq => G.tru q (part q hq)
  have Yc : ∀ i, at_ + 1 ≤ i → gf Y (S.w + i) = 0 := fun i hi => TY.pred (P := fun v => v (S.w + i) = 0) rfl (fun _ _ _ => zero_at_add _ _ _)
    (by rw [gY]; show s1 * gf x (S.w + i) + -x1 * gf s (S.w + i) = 0; rw [M.xcof i hi, G.cof _ hsg i hi]; simp) fun q hq => G.cof q (part q hq) i hi
  have Zc : ∀ i, at_ + 1 ≤ i → gf Z (S.w + i) = 0 := fun i hi => TZ.pred (P := fun v => v (S.w + i) = 0) rfl (fun _ _ _ => zero_at_add _ _ _)
    (by rw [gZ]; show t * gf s (S.w + i) + o * gf x (S.w + i) = 0; rw [M.xcof i hi, G.cof _ hsg i hi]; simp) fun q hq => G.cof q (part q hq) i hi
  have Ya : gf Y (S.w + at_) = s1 * gf x (S.w + at_) := by
    have e : (fun j => gf (mixed s1 x (-x1) s) j - gf Y j) (S.w + at_) = 0 := InS.at_zero (fun p hp => by
      obtain ⟨r, hr, rfl⟩ := vecs_mem hp
      exact later r hr) TY.diff
    have e2 : gf (mixed s1 x (-x1) s) (S.w + at_) = s1 * gf x (S.w + at_) := by
      rw [gY]
      show s1 * gf x (S.w + at_) + -x1 * gf s (S.w + at_) = _
      rw [M.new c s (Nat.le_refl _) hc hs]
      simp
    have e3 : gf (mixed s1 x (-x1) s) (S.w + at_) - gf Y (S.w + at_) = 0 := e
    omega
  have Yz : ∀ j, j < c + 1 → gf Y j = 0 := fun j hj => by
    rw [TY.keep j hj, gY]
    show s1 * gf x j + -x1 * gf s j = 0
    by_cases q : j = c
    · rw [q, es1, ex1]
      grind
    · rw [M.xz j (by omega), szero j (by omega)]
      simp
  have Zz : ∀ j, j < c → gf Z j = 0 := fun j hj => by
    rw [TZ.keep j (by omega), gZ]
    show t * gf s j + o * gf x j = 0
    rw [M.xz j hj, szero j hj]
    simp
  have Zp : gf Z c = p := by
    rw [TZ.keep c (by omega), gZ]
    exact k2.symm
  have Ypos : 0 < gf Y (S.w + at_) := by rw [Ya]; exact Int.mul_pos s1p M.xpos
  have Yid : ∀ q ∈ S.idle, 0 ≤ gf Y q.1 ∧ gf Y q.1 < gf q.2 q.1 := fun q hq => TY.small q (List.mem_append.mpr (.inr hq))
  by_cases ho : o = 0
  · -- the step stays as it is
    rw [if_neg (by omega), hY]
    obtain ⟨pe, te⟩ := kn ho
    refine ⟨⟨G, M.am, fun d u hd => M.new d u (by omega), M.newI, TY.len, YT, Yc, Ypos, Yz, Yid⟩, rfl, rfl, fun v hv => ?_⟩
    refine hv.sub_span fun q hq => ?_
    have s1e : s1 = 1 := by
      have : p * 1 = p * s1 := by rw [Int.mul_one, ← es1, pe]
      exact (Int.eq_of_mul_eq_mul_left (by omega) this).symm
    rcases List.mem_cons.mp hq with rfl | hq
    · -- x: Y and the rest
      have h1 : InS ((0, gf Y) :: vecs S.gens) (gf Y) := InS.mem List.mem_cons_self
      have h2 : InS ((0, gf Y) :: vecs S.gens) (fun j => gf (mixed s1 x (-x1) s) j - gf Y j) := TY.diff.sub_span fun p hp => by
        obtain ⟨r, hr, rfl⟩ := vecs_mem hp
        exact InS.mem (List.mem_cons_of_mem _ (mem_vecs (part r hr)))
      have h3 : InS ((0, gf Y) :: vecs S.gens) (gf s) := InS.mem (List.mem_cons_of_mem _ (mem_vecs hsg))
      refine ((h1.add h2).add (h3.mul x1)).congr fun j => ?_
      rw [gY, s1e]
      show gf Y j + (1 * gf x j + -x1 * gf s j - gf Y j) + x1 * gf s j = gf x j
      grind
    · exact InS.mem (List.mem_cons_of_mem _ hq)
  · rw [if_pos ho, put_tidied (by omega), hY]
    have G2 : Good R (at_ + 1) (S.put c Z) := G.put hc TZ.len ZT Zc (by rw [Zp]; exact k1) Zz
    refine ⟨⟨G2, M.am, fun d u hd hd2 e => ?_, M.newI, TY.len, YT, Yc, Ypos, Yz, Yid⟩, rfl, rfl, fun v hv => ?_⟩
    · rw [put_st, if_neg (by omega)] at e
      exact M.new d u (by omega) hd2 e
    · refine hv.sub_span fun q hq => ?_
      -- Z, Y, and what the later ones span
      have mem2 : ∀ r ∈ S.cols (c + 1) ++ S.idle, r ∈ (S.put c Z).gens := fun r hr => mem_put_of (part r hr) (by
        obtain ⟨d, u⟩ := r
        rcases List.mem_append.mp hr with h | h
        · exact .inl (by have := (mem_cols.mp h).1; show d ≠ c; omega)
        · exact .inr h)
      have hYs : InS ((0, gf Y) :: vecs (S.put c Z).gens) (gf Y) := InS.mem List.mem_cons_self
      have hZs : InS ((0, gf Y) :: vecs (S.put c Z).gens) (gf Z) := InS.mem (List.mem_cons_of_mem _ (mem_vecs (put_mem hc)))
      have dY : InS ((0, gf Y) :: vecs (S.put c Z).gens) (fun j => gf (mixed s1 x (-x1) s) j - gf Y j) := TY.diff.sub_span fun p hp => by
        obtain ⟨r, hr, rfl⟩ := vecs_mem hp
        exact InS.mem (List.mem_cons_of_mem _ (mem_vecs (mem2 r hr)))
      have dZ : InS ((0, gf Y) :: vecs (S.put c Z).gens) (fun j => gf (mixed t s o x) j - gf Z j) := TZ.diff.sub_span fun p hp => by
        obtain ⟨r, hr, rfl⟩ := vecs_mem hp
        exact InS.mem (List.mem_cons_of_mem _ (mem_vecs (mem2 r hr)))
      have pY : InS ((0, gf Y) :: vecs (S.put c Z).gens) (fun j => s1 * gf x j + -x1 * gf s j) := (hYs.add dY).congr fun j => by
        rw [gY]
        show gf Y j + (s1 * gf x j + -x1 * gf s j - gf Y j) = _
        omega
      have pZ : InS ((0, gf Y) :: vecs (S.put c Z).gens) (fun j => t * gf s j + o * gf x j) := (hZs.add dZ).congr fun j => by
        rw [gZ]
        show gf Z j + (t * gf s j + o * gf x j - gf Z j) = _
        omega
      have sx : InS ((0, gf Y) :: vecs (S.put c Z).gens) (gf x) := ((pZ.mul x1).add (pY.mul t)).congr fun j => by
        show x1 * (t * gf s j + o * gf x j) + t * (s1 * gf x j + -x1 * gf s j) = gf x j
        have : x1 * (t * gf s j + o * gf x j) + t * (s1 * gf x j + -x1 * gf s j) = (t * s1 + o * x1) * gf x j := by grind
        rw [this, bez, Int.one_mul]
      have ss : InS ((0, gf Y) :: vecs (S.put c Z).gens) (gf s) := ((pZ.mul s1).sub (pY.mul o)).congr fun j => by
        show s1 * (t * gf s j + o * gf x j) - o * (s1 * gf x j + -x1 * gf s j) = gf s j
        have : s1 * (t * gf s j + o * gf x j) - o * (s1 * gf x j + -x1 * gf s j) = (t * s1 + o * x1) * gf s j := by grind
        rw [this, bez, Int.one_mul]
      rcases List.mem_cons.mp hq with rfl | hq
      · exact sx
      · obtain ⟨r, hr, rfl⟩ := vecs_mem hq
        rcases mem_gens.mp hr with ⟨h1, h2⟩ | h2
        · by_cases e : r.1 = c
          · rw [e, hs] at h2
            rw [← Option.some.inj h2]
            exact ss
          · exact InS.mem (List.mem_cons_of_mem _ (mem_vecs (mem_put_of hr (.inl e))))
        · exact InS.mem (List.mem_cons_of_mem _ (mem_vecs (mem_put_of hr (.inr h2))))
end
end Sm
/-! # A6 -/
namespace Sm
section
variable {R : Nat → Vec} {k : Nat} {S : Sts}
theorem gens_put_len {S : Sts} {c : Nat} {s u : Row} (hc : c < S.w) (h : S.st c = some u) : (S.put c s).gens.length = S.gens.length := by
  unfold Sts.gens
  have e1 : S.cols 0 = S.colsB 0 c ++ (c, u) :: S.colsB (c + 1) S.w := colsB_at h hc
  have e2 : (S.put c s).cols 0 = (S.put c s).colsB 0 c ++ (c, s) :: (S.put c s).colsB (c + 1) S.w := colsB_at (S := S.put c s) (by rw [put_st, if_pos rfl]) hc
  have e3 : (S.put c s).colsB 0 c = S.colsB 0 c := colsB_congr fun d _ h2 => by rw [put_st, if_neg (by omega)]
  have e4 : (S.put c s).colsB (c + 1) S.w = S.colsB (c + 1) S.w := colsB_congr fun d h1 _ => by rw [put_st, if_neg (by omega)]
  have e5 : (S.put c s).idle = S.idle := rfl
  rw [e1, e2, e3, e4, e5]
  simp
theorem gens_new_len {S : Sts} {c : Nat} {s : Row} (hc : c < S.w) (h : S.st c = none) : (S.put c s).gens.length = S.gens.length + 1 := by
  unfold Sts.gens
  have e1 : S.cols 0 = S.colsB 0 c ++ S.colsB (c + 1) S.w := by
    show S.colsB 0 S.w = _
    rw [colsB_split (b := c) (by omega) (by omega), colsB_split (a := c) (b := c + 1) (by omega) (by omega), colsB_none h]
    rfl
  have e2 : (S.put c s).cols 0 = (S.put c s).colsB 0 c ++ (c, s) :: (S.put c s).colsB (c + 1) S.w := colsB_at (S := S.put c s) (by rw [put_st, if_pos rfl]) hc
  have e3 : (S.put c s).colsB 0 c = S.colsB 0 c := colsB_congr fun d _ h2 => by rw [put_st, if_neg (by omega)]
  have e4 : (S.put c s).colsB (c + 1) S.w = S.colsB (c + 1) S.w := colsB_congr fun d h1 _ => by rw [put_st, if_neg (by omega)]
  have e5 : (S.put c s).idle = S.idle := rfl
  rw [e1, e2, e3, e4, e5]
  simp
  omega
def Small (L : List (Nat × Row)) (u : Row) : Prop := ∀ q ∈ L, 0 ≤ gf u q.1 ∧ gf u q.1 < gf q.2 q.1
/-- idle rows are tidied by those behind -/
def IdT : List (Nat × Row) → Prop
  | [] => True
  | q :: L => Small L q.2 ∧ IdT L
/-- behind the laying of a row -/
structure Laid (R : Nat → Vec) (at_ : Nat) (S : Sts) (x : Row) (T : Sts) : Prop where
  g : Good R (at_ + 1) T
  w : T.w = S.w
  m : T.m = S.m
  span : ∀ v, InS ((0, gf x) :: vecs S.gens) v → InS (vecs T.gens) v
  cnt : T.gens.length = S.gens.length + 1
  idt : IdT S.idle → IdT T.idle
theorem lay_ok {at_ : Nat} : ∀ (n c : Nat) (S : Sts) (x : Row), c + n = S.w → Mid R at_ c S x → Laid R at_ S x (Sts.lay at_ (List.range' c n) S x)
  | 0, c, S, x, h, M => by
    show Laid R at_ S x { S with idle := (S.w + at_, x) :: S.idle }
    have G := M.g
    have mem : ∀ {q : Nat × Row}, q ∈ ({ S with idle := (S.w + at_, x) :: S.idle } : Sts).gens → q = (S.w + at_, x) ∨ q ∈ S.gens := fun {q} hq => by
      rcases mem_gens.mp hq with h1 | h1
      · exact .inr (mem_gens.mpr (.inl h1))
      · rcases List.mem_cons.mp h1 with h2 | h2
        · exact .inl h2
        · exact .inr (mem_gens.mpr (.inr h2))
    refine ⟨⟨fun q hq => ?_, fun q hq => ?_, fun q hq => ?_, G.pos, G.sup, ⟨M.xpos, fun p hp => ?_, G.ide⟩, fun q hq => ?_⟩, rfl, rfl, fun v hv => hv.sub_span fun q hq => ?_, ?_, ?_⟩
    · rcases mem hq with rfl | h1
      · exact M.xlen
      · exact G.len q h1
    · rcases mem hq with rfl | h1
      · exact M.xtru
      · exact G.tru q h1
    · rcases mem hq with rfl | h1
      · exact M.xcof
      · exact G.cof q h1
    · obtain ⟨r, hr, rfl⟩ := vecs_mem hp
      exact M.newI r hr
    · rcases List.mem_cons.mp hq with rfl | h1
      · refine ⟨fun j hj => M.xz j (by have : j < S.w := hj; omega), by show S.w ≤ S.w + at_; omega, by show S.w + at_ < S.w + (at_ + 1); omega⟩
      · exact G.idw q h1
    · rcases List.mem_cons.mp hq with rfl | h1
      · have z : InS (vecs ({ S with idle := (S.w + at_, x) :: S.idle } : Sts).gens) (gf x) := InS.mem (mem_vecs (q := (S.w + at_, x)) (mem_gens.mpr (.inr List.mem_cons_self)))
        exact z
      · obtain ⟨r, hr, rfl⟩ := vecs_mem h1
        refine InS.mem (mem_vecs (mem_gens.mpr ?_))
        rcases mem_gens.mp hr with h2 | h2
        · exact .inl h2
        · exact .inr (List.mem_cons_of_mem _ h2)
    · show (S.cols 0 ++ (S.w + at_, x) :: S.idle).length = (S.cols 0 ++ S.idle).length + 1
      simp
      omega
    · exact fun ht => ⟨M.xid, ht⟩
  | n + 1, c, S, x, h, M => by
    have G := M.g
    show Laid R at_ S x (Sts.lay at_ (c :: List.range' (c + 1) n) S x)
    unfold Sts.lay
    by_cases z : gf x c = 0
    · rw [if_pos z]
      have xz2 : ∀ j, j < c + 1 → gf x j = 0 := fun j hj => by
        by_cases e : j = c
        · rw [e]
          exact z
        · exact M.xz j (by omega)
      exact lay_ok n (c + 1) S x (by omega) ⟨M.g, M.am, fun d s h1 => M.new d s (by omega), M.newI, M.xlen, M.xtru, M.xcof, M.xpos, xz2, M.xid⟩
    · rw [if_neg z]
      split
      · rename_i e
        have hc : c < S.w := by omega
        have hs : ∀ j, gf (sgnR c x) j = (if 0 < gf x c then 1 else -1) * gf x j := fun j => gf_map (by split <;> rfl)
        have G2 : Good R (at_ + 1) (S.put c (sgnR c x)) := G.put hc (by unfold sgnR; rw [List.length_map]; exact M.xlen)
          (by
            have := tru_lin (if 0 < gf x c then 1 else -1) 0 M.xtru M.xtru
            intro d hd
            have := this d hd
            rw [hs d]
            have e1 : (fun j => (if 0 < gf x c then (1 : Int) else -1) * gf x j + 0 * gf x j) d = (if 0 < gf x c then 1 else -1) * gf x d := by dsimp only; omega
            rw [← e1, this]
            exact sm_congr fun i _ => by
              dsimp only
              rw [hs]
              grind)
          (fun i hi => by rw [hs, M.xcof i hi]; simp) (by rw [hs]; split <;> omega) (fun j hj => by rw [hs, M.xz j hj]; simp)
        refine ⟨G2, rfl, rfl, fun v hv => hv.sub_span fun q hq => ?_, gens_new_len hc e, fun h => h⟩
        rcases List.mem_cons.mp hq with rfl | hq
        · have h1 : InS (vecs (S.put c (sgnR c x)).gens) (gf (sgnR c x)) := InS.mem (mem_vecs (put_mem hc))
          refine (h1.mul (if 0 < gf x c then 1 else -1)).congr fun j => ?_
          rw [hs j]
          dsimp only
          split <;> omega
        · obtain ⟨r, hr, rfl⟩ := vecs_mem hq
          refine InS.mem (mem_vecs (mem_put_of hr ?_))
          rcases mem_gens.mp hr with ⟨h1, h2⟩ | h2
          · refine .inl fun z2 => ?_
            rw [z2, e] at h2
            cases h2
          · exact .inr h2
      · rename_i s e
        have hc : c < S.w := by omega
        obtain ⟨M2, w2, m2, sp2⟩ := M.met hc e z
        have L := lay_ok n (c + 1) (S.met c s x).1 (S.met c s x).2 (by rw [w2]; omega) M2
        refine ⟨L.g, L.w.trans w2, L.m.trans m2, fun v hv => L.span v (sp2 v hv), ?_, fun ht => L.idt (by unfold Sts.met; dsimp only; split <;> exact ht)⟩
        rw [L.cnt]
        congr 1
        unfold Sts.met
        dsimp only
        split
        · exact gens_put_len hc e
        · rfl
/-! ### the steps tidied -/
structure Tidied (R : Nat → Vec) (k : Nat) (S T : Sts) : Prop where
  g : Good R k T
  w : T.w = S.w
  m : T.m = S.m
  idle : T.idle = S.idle
  span : ∀ v, InS (vecs S.gens) v → InS (vecs T.gens) v
  cnt : T.gens.length = S.gens.length
  sam : ∀ d, (T.st d).isSome = (S.st d).isSome
  piv : ∀ d u v, T.st d = some u → S.st d = some v → gf u d = gf v d
  tdy : ∀ d u, d < T.w → T.st d = some u → Small (T.cols (d + 1) ++ T.idle) u
theorem tidy_ok : ∀ (n c : Nat) (S : Sts), c + n = S.w → Good R k S → (∀ d u, d < c → S.st d = some u → Small (S.cols (d + 1) ++ S.idle) u) → Tidied R k S (Sts.tidy (List.range' c n) S)
  | 0, c, S, h, G, t => ⟨G, rfl, rfl, rfl, fun _ h => h, rfl, fun _ => rfl, fun d u v h1 h2 => by
      have : (Sts.tidy (List.range' c 0) S).st d = S.st d := rfl
      rw [this, h2] at h1
      rw [Option.some.inj h1], fun d u h1 h2 => t d u (by have : d < S.w := h1; omega) h2⟩
  | n + 1, c, S, h, G, t => by
    show Tidied R k S (Sts.tidy (c :: List.range' (c + 1) n) S)
    unfold Sts.tidy
    split
    · rename_i e
      exact tidy_ok n (c + 1) S (by omega) G fun d u hd hu => by
        by_cases q : d = c
        · rw [q, e] at hu
          cases hu
        · exact t d u (by omega) hu
    · rename_i s e
      have hc : c < S.w := by omega
      have sg : (c, s) ∈ S.gens := mem_gens.mpr (.inl ⟨hc, e⟩)
      have T := G.tid (G.len _ sg) (a := c + 1) (by omega)
      generalize hY : S.tidied s (c + 1) = Y at T
      have part := G.part (c + 1)
      have pY : gf Y c = gf s c := T.keep c (by omega)
      have G2 : Good R k (S.put c Y) := G.put hc T.len (T.pred tru_zero (fun _ _ _ => tru_add _ _ _) (G.tru _ sg) fun q hq => G.tru q (part q hq))
        (fun i hi => T.pred (P := fun v => v (S.w + i) = 0) rfl (fun _ _ _ => zero_at_add _ _ _) (G.cof _ sg i hi) fun q hq => G.cof q (part q hq) i hi)
        (by rw [pY]; exact G.pos c s hc e) (fun j hj => by rw [T.keep j (by omega)]; exact G.sup c s hc e j hj)
      -- the columns of the new state: as before, with Y at c
      have memc : ∀ a (q : Nat × Row), q ∈ (S.put c Y).cols a ++ S.idle → (q = (c, Y) ∧ a ≤ c) ∨ q ∈ S.cols a ++ S.idle := fun a q hq => by
        obtain ⟨d, u⟩ := q
        rcases List.mem_append.mp hq with h1 | h1
        · obtain ⟨h2, h3, h4⟩ := mem_cols.mp h1
          rw [put_st] at h4
          by_cases z : d = c
          · rw [if_pos z] at h4
            exact .inl ⟨by rw [z, ← Option.some.inj h4], by omega⟩
          · rw [if_neg z] at h4
            exact .inr (List.mem_append.mpr (.inl (mem_cols.mpr ⟨h2, h3, h4⟩)))
        · exact .inr (List.mem_append.mpr (.inr h1))
      have ih := tidy_ok n (c + 1) (S.put c Y) (by show c + 1 + n = S.w; omega) G2 fun d u hd hu q hq => by
        rw [put_st] at hu
        by_cases z : d = c
        · rw [if_pos z] at hu
          rw [← Option.some.inj hu]
          rcases memc (d + 1) q hq with ⟨_, h1⟩ | h1
          · omega
          · rw [z] at h1
            exact T.small q h1
        · rw [if_neg z] at hu
          have t1 := t d u (by omega) hu
          rcases memc (d + 1) q hq with ⟨rfl, h1⟩ | h1
          · have := t1 (c, s) (List.mem_append.mpr (.inl (mem_cols.mpr ⟨h1, hc, e⟩)))
            show 0 ≤ gf u c ∧ gf u c < gf Y c
            rw [pY]
            exact this
          · exact t1 q h1
      refine ⟨ih.g, ih.w, ih.m, ih.idle, fun v hv => ih.span v (hv.sub_span fun q hq => ?_), ih.cnt.trans (gens_put_len hc e), fun d => ?_, fun d u v h1 h2 => ?_, ih.tdy⟩
      · obtain ⟨r, hr, rfl⟩ := vecs_mem hq
        rcases mem_gens.mp hr with ⟨h1, h2⟩ | h2
        · by_cases z : r.1 = c
          · rw [z, e] at h2
            rw [← Option.some.inj h2]
            have hYs : InS (vecs (S.put c Y).gens) (gf Y) := InS.mem (mem_vecs (put_mem hc))
            have dY : InS (vecs (S.put c Y).gens) (fun j => gf s j - gf Y j) := T.diff.sub_span fun p hp => by
              obtain ⟨r2, hr2, rfl⟩ := vecs_mem hp
              refine InS.mem (mem_vecs (mem_put_of (part r2 hr2) ?_))
              obtain ⟨d, u⟩ := r2
              rcases List.mem_append.mp hr2 with h | h
              · exact .inl (by have := (mem_cols.mp h).1; show d ≠ c; omega)
              · exact .inr h
            exact (hYs.add dY).congr fun j => by
              dsimp only
              omega
          · exact InS.mem (mem_vecs (mem_put_of hr (.inl z)))
        · exact InS.mem (mem_vecs (mem_put_of hr (.inr h2)))
      · rw [ih.sam d, put_st]
        split
        · rename_i z
          rw [z, e]
          rfl
        · rfl
      · by_cases z : d = c
        · rw [ih.piv d u Y h1 (by rw [put_st, if_pos z])]
          rw [z, e] at h2
          rw [← Option.some.inj h2, z]
          exact pY
        · exact ih.piv d u v h1 (by rw [put_st, if_neg z]; exact h2)
/-! ### all rows -/
/-- behind k rows -/
structure Fin (R : Nat → Vec) (k : Nat) (S : Sts) : Prop where
  g : Good R k S
  span : ∀ i, i < k → InS (vecs S.gens) (unitV S.w R i)
  cnt : S.gens.length = k
  tdy : ∀ d u, d < S.w → S.st d = some u → Small (S.cols (d + 1) ++ S.idle) u
  idt : IdT S.idle
theorem gf_append {a b : Row} {j : Nat} : gf (a ++ b) j = if j < a.length then gf a j else gf b (j - a.length) := by
  unfold gf
  rw [List.getD_eq_getElem?_getD, List.getD_eq_getElem?_getD, List.getD_eq_getElem?_getD, List.getElem?_append]
  split <;> rfl
theorem gf_unit {at_ w j : Nat} : gf (unit at_ w) j = if j = at_ ∧ j < w then 1 else 0 := by
  unfold gf unit
  rw [List.getD_eq_getElem?_getD, List.getElem?_map]
  by_cases h : j < w
  · rw [List.getElem?_range h]
    simp [h]
  · rw [List.getElem?_eq_none (by simp; omega)]
    simp [h]
theorem Good.weaken (G : Good R k S) {k' : Nat} (h : k ≤ k') : Good R k' S :=
  { G with cof := fun q hq i hi => G.cof q hq i (by omega), idw := fun q hq => ⟨(G.idw q hq).1, (G.idw q hq).2.1, by have := (G.idw q hq).2.2; omega⟩ }
/-- the long row that is laid -/
theorem long_eq {row : Row} {at_ : Nat} (hl : row.length = S.w) (hm : at_ < S.m) (hr : ∀ j, j < S.w → gf row j = R at_ j) (j : Nat) : gf (row ++ unit at_ S.m) j = unitV S.w R at_ j := by
  rw [gf_append, hl]
  unfold unitV
  by_cases h : j < S.w
  · rw [if_pos h, if_pos h, hr j h]
  · rw [if_neg h, if_neg h, gf_unit]
    by_cases e : j = S.w + at_
    · rw [if_pos e, if_pos ⟨by omega, by omega⟩]
    · rw [if_neg e, if_neg (by omega)]
theorem mid_start {at_ : Nat} {row : Row} (G : Good R at_ S) (hm : at_ < S.m) (hl : row.length = S.w) (hr : ∀ j, j < S.w → gf row j = R at_ j) : Mid R at_ 0 S (row ++ unit at_ S.m) := by
  have e : gf (row ++ unit at_ S.m) = unitV S.w R at_ := funext (long_eq hl hm hr)
  refine ⟨G.weaken (by omega), hm, fun d s _ h1 h2 => G.cof (d, s) (mem_gens.mpr (.inl ⟨h1, h2⟩)) at_ (Nat.le_refl _), fun q hq => G.cof q (mem_gens.mpr (.inr hq)) at_ (Nat.le_refl _), ?_, ?_, fun i hi => ?_, ?_, fun j hj => by omega, fun q hq => ?_⟩
  · rw [List.length_append, hl]
    unfold unit
    simp
  · rw [e]
    exact tru_unit hm
  · rw [e]
    unfold unitV
    rw [if_neg (by omega), if_neg (by omega)]
  · rw [e]
    unfold unitV
    rw [if_neg (by omega), if_pos rfl]
    decide
  · obtain ⟨h1, h2, h3⟩ := G.idw q hq
    have : gf (row ++ unit at_ S.m) q.1 = 0 := by
      rw [e]
      unfold unitV
      rw [if_neg (by omega), if_neg (by omega)]
    rw [this]
    exact ⟨Int.le_refl _, ech_ide G.ide q hq⟩
theorem turn_ok {at_ : Nat} {row : Row} (F : Fin R at_ S) (hm : at_ < S.m) (hl : row.length = S.w) (hr : ∀ j, j < S.w → gf row j = R at_ j) : Fin R (at_ + 1) (S.turn at_ row) ∧ (S.turn at_ row).w = S.w ∧ (S.turn at_ row).m = S.m := by
  have M := mid_start F.g hm hl hr
  have L := lay_ok S.w 0 S _ (by omega) M
  unfold Sts.turn
  have er : List.range S.w = List.range' 0 S.w := List.range_eq_range'
  rw [er]
  generalize Sts.lay at_ (List.range' 0 S.w) S (row ++ unit at_ S.m) = T at L
  have D := tidy_ok T.w 0 T (by omega) L.g fun d u hd => by omega
  rw [L.w] at D
  refine ⟨⟨D.g, fun i hi => ?_, ?_, D.tdy, by rw [D.idle]; exact L.idt F.idt⟩, D.w.trans L.w, D.m.trans L.m⟩
  · rw [D.w, L.w]
    refine D.span _ (L.span _ ?_)
    by_cases e : i = at_
    · rw [e]
      exact (InS.mem (L := (0, gf (row ++ unit at_ S.m)) :: vecs S.gens) List.mem_cons_self).congr fun j => long_eq hl hm hr j
    · exact (F.span i (by omega)).sub_span fun q hq => InS.mem (List.mem_cons_of_mem _ hq)
  · rw [D.cnt, L.cnt, F.cnt]
theorem all_ok : ∀ (rows : List Row) (at_ : Nat) (S : Sts), Fin R at_ S → at_ + rows.length = S.m → (∀ i (h : i < rows.length), rows[i].length = S.w ∧ ∀ j, j < S.w → gf rows[i] j = R (at_ + i) j) → Fin R S.m (Sts.all rows at_ S) ∧ (Sts.all rows at_ S).w = S.w ∧ (Sts.all rows at_ S).m = S.m
  | [], at_, S, F, h, _ => by
    have : at_ = S.m := by simpa using h
    have e : Fin R S.m S := by rw [← this]; exact F
    exact ⟨e, rfl, rfl⟩
  | r :: rs, at_, S, F, h, hr => by
    have h0 := hr 0 (by simp)
    obtain ⟨F1, w1, m1⟩ := turn_ok (row := r) F (by simp at h; omega) h0.1 h0.2
    have ih := all_ok rs (at_ + 1) (S.turn at_ r) F1 (by rw [m1]; simp at h; omega) fun i hi => by
      have := hr (i + 1) (by simp; omega)
      rw [w1]
      refine ⟨this.1, fun j hj => ?_⟩
      have := this.2 j hj
      rw [show at_ + 1 + i = at_ + (i + 1) by omega]
      exact this
    rw [w1, m1] at ih
    exact ih
def rowsR (rows : List Row) : Nat → Vec := fun i => gf (rows.getD i [])
theorem stairs_ok {w : Nat} {rows : List Row} (h : ∀ r ∈ rows, r.length = w) : Fin (rowsR rows) rows.length (stairs w rows) ∧ (stairs w rows).w = w ∧ (stairs w rows).m = rows.length := by
  have e : ∀ a, (⟨w, rows.length, fun _ => none, []⟩ : Sts).cols a = [] := fun a => by
    unfold Sts.cols Sts.colsB
    exact List.filterMap_eq_nil_iff.mpr fun _ _ => rfl
  have F : Fin (rowsR rows) 0 ⟨w, rows.length, fun _ => none, []⟩ := by
    have eg : (⟨w, rows.length, fun _ => none, []⟩ : Sts).gens = [] := by
      unfold Sts.gens
      rw [e]
      rfl
    have none_ : ∀ {P : Nat × Row → Prop}, ∀ q ∈ (⟨w, rows.length, fun _ => none, []⟩ : Sts).gens, P q := fun {P} q hq => by
      rw [eg] at hq
      cases hq
    refine ⟨⟨none_, none_, none_, fun c s hc he => ?_, fun c s hc he => ?_, trivial, fun q hq => ?_⟩, fun i hi => by omega, by rw [eg]; rfl, fun d u hd he => ?_, trivial⟩
    · cases he
    · cases he
    · cases hq
    · cases he
  have := all_ok (R := rowsR rows) rows 0 ⟨w, rows.length, fun _ => none, []⟩ F (by simp) fun i hi => by
    refine ⟨h _ (List.getElem_mem hi), fun j _ => ?_⟩
    unfold rowsR
    rw [Nat.zero_add, List.getD_eq_getElem?_getD, List.getElem?_eq_getElem hi]
    rfl
  exact this
end
end Sm
/-! # A7 -/
namespace Sm
/-! ### sizes -/
theorem fac_pos : ∀ n, 0 < fac n
  | 0 => by decide
  | n + 1 => Nat.mul_pos (by omega) (fac_pos n)
theorem prd_le {f g : Nat → Nat} : ∀ {n : Nat}, (∀ i, i < n → f i ≤ g i) → prd n f ≤ prd n g
  | 0, _ => Nat.le_refl _
  | n + 1, h => Nat.mul_le_mul (prd_le fun i hi => h i (by omega)) (h n (by omega))
theorem prd_pos {f : Nat → Nat} : ∀ {n : Nat}, (∀ i, i < n → 0 < f i) → 0 < prd n f
  | 0, _ => Nat.one_pos
  | n + 1, h => Nat.mul_pos (prd_pos fun i hi => h i (by omega)) (h n (by omega))
/-- one row is b, the others 1 -/
theorem prd_one {i b : Nat} : ∀ {n : Nat}, i < n → prd n (fun r => if r = i then b else 1) = b
  | 0, h => by omega
  | n + 1, h => by
    show prd n (fun r => if r = i then b else 1) * (if n = i then b else 1) = b
    by_cases e : n = i
    · rw [if_pos e]
      have : prd n (fun r => if r = i then b else 1) = 1 := by
        have h1 : prd n (fun r => if r = i then b else 1) = prd n fun _ => 1 := prd_congr fun j hj => if_neg (by omega)
        rw [h1]
        clear h1 e h
        induction n with
        | zero => rfl
        | succ n ih => show prd n (fun _ => 1) * 1 = 1; rw [ih]
      rw [this, Nat.one_mul]
    · rw [if_neg e, prd_one (by omega), Nat.mul_one]
theorem prd_const1 : ∀ {n : Nat}, prd n (fun _ => 1) = 1
  | 0 => rfl
  | n + 1 => by show prd n (fun _ => 1) * 1 = 1; rw [prd_const1]
/-- the product over a list's columns: β for those ahead of w -/
def bcol (w β c : Nat) : Nat := if c < w then β else 1
theorem bcol_pos {w β c : Nat} (h : 0 < β) : 0 < bcol w β c := by unfold bcol; split <;> omega
def nLow (w : Nat) (L : List (Nat × Vec)) : Nat := (L.filter fun q => decide (q.1 < w)).length
theorem prd_cols {w β : Nat} : ∀ {L : List (Nat × Vec)}, prd L.length (fun i => bcol w β (colAt L i)) = β ^ nLow w L
  | [] => rfl
  | q :: L => by
    rw [List.length_cons, prd_front]
    have ih := prd_cols (w := w) (β := β) (L := L)
    have e : prd L.length (fun k => bcol w β (colAt (q :: L) (k + 1))) = β ^ nLow w L := ih
    rw [e, colAt_zero]
    unfold nLow bcol
    by_cases h : q.1 < w
    · rw [if_pos h, List.filter_cons, if_pos (by simpa using h), List.length_cons, Nat.pow_succ, Nat.mul_comm]
    · rw [if_neg h, List.filter_cons, if_neg (by simpa using h), Nat.one_mul]
/-- a lattice of long rows by its steps: L spans the first n long rows, and is spanned by them -/
structure Lat (w : Nat) (R : Nat → Vec) (n : Nat) (L : List (Nat × Vec)) : Prop where
  ech : Ech L
  len : L.length = n
  span : ∀ i, i < n → InS L (unitV w R i)
  back : ∀ q ∈ L, ∀ j, q.2 j = sm n fun i => q.2 (w + i) * unitV w R i j
def dets (w : Nat) (R : Nat → Vec) (n : Nat) (L : List (Nat × Vec)) : Int := det n fun r c => unitV w R r (colAt L c)
section
variable {w n β : Nat} {R : Nat → Vec} {L : List (Nat × Vec)}
theorem Lat.ne (h : Lat w R n L) : dets w R n L ≠ 0 := by
  intro z
  have e : (det L.length fun r c => rowAt L r (colAt L c)) = (det n fun r i => rowAt L r (w + i)) * dets w R n L := by
    rw [h.len]
    unfold dets
    rw [← det_prod (Y := fun r i => rowAt L r (w + i)) (E := unitV w R) (col := colAt L)]
    refine det_congr fun r c hr _ => ?_
    have hr2 : r < L.length := by rw [h.len]; exact hr
    have : rowAt L r = (L[r]).2 := by unfold rowAt; rw [List.getElem?_eq_getElem hr2]
    rw [this]
    exact h.back _ (List.getElem_mem hr2) _
  rw [ech_det h.ech, z, Int.mul_zero] at e
  have := pivs_pos h.ech
  omega
theorem Lat.piv_dvd (h : Lat w R n L) : pivs L ∣ dets w R n L := by
  obtain ⟨d, e, _⟩ := det_span h.ech (v := unitV w R) (by rw [h.len]; exact h.span)
  rw [h.len] at e
  exact ⟨d, by rw [Int.mul_comm]; exact e⟩
/-- the entries of the first n rows -/
def Ent (w n β : Nat) (R : Nat → Vec) : Prop := ∀ i, i < n → ∀ c, c < w → (R i c).natAbs ≤ β
theorem unitV_le (hE : Ent w n β R) {r c : Nat} (hr : r < n) : (unitV w R r c).natAbs ≤ 1 * bcol w β c := by
  unfold unitV bcol
  by_cases h : c < w
  · rw [if_pos h, if_pos h, Nat.one_mul]
    exact hE r hr c h
  · rw [if_neg h, if_neg h]
    split <;> decide
theorem Lat.dets_le (h : Lat w R n L) (hE : Ent w n β R) : (dets w R n L).natAbs ≤ fac n * β ^ nLow w L := by
  have := det_bound (n := n) (A := fun r c => unitV w R r (colAt L c)) (ρ := fun _ => 1) (b := fun c => bcol w β (colAt L c)) fun r c hr hc => unitV_le hE hr
  rw [prd_const1, Nat.mul_one] at this
  have e : prd n (fun c => bcol w β (colAt L c)) = β ^ nLow w L := by rw [← h.len]; exact prd_cols
  rw [e] at this
  exact this
theorem Lat.piv_le (h : Lat w R n L) (hE : Ent w n β R) : (pivs L).natAbs ≤ fac n * β ^ nLow w L := by
  refine Nat.le_trans ?_ (h.dets_le hE)
  refine Nat.le_of_dvd ?_ (Int.natAbs_dvd_natAbs.mpr h.piv_dvd)
  have := h.ne
  omega
/-- CRAMER: what is combined of the first n long rows and is at most N at each pivot, is combined by numbers that are not much greater -/
theorem Lat.coef_le (h : Lat w R n L) (hE : Ent w n β R) (hβ : 0 < β) {x : Vec} {y : Nat → Int} (hx : ∀ j, x j = sm n fun i => y i * unitV w R i j) {N : Nat} (hN : ∀ q ∈ L, (x q.1).natAbs ≤ N) {i : Nat} (hi : i < n) :
    (y i).natAbs ≤ fac n * N * β ^ nLow w L := by
  have c := cramer (U := unitV w R) (col := colAt L) hi (x := x) (y := y) fun c _ => hx _
  have b := det_bound (n := n) (A := fun r c => putR (unitV w R) i x r (colAt L c)) (ρ := fun r => if r = i then N else 1) (b := fun c => bcol w β (colAt L c)) fun r c hr hc => by
    unfold putR
    by_cases e : r = i
    · rw [if_pos e, if_pos e]
      have hc2 : c < L.length := by rw [h.len]; exact hc
      have : colAt L c = (L[c]).1 := by unfold colAt; rw [List.getElem?_eq_getElem hc2]
      have h1 := hN _ (List.getElem_mem hc2)
      rw [← this] at h1
      exact Nat.le_trans h1 (Nat.le_mul_of_pos_right _ (bcol_pos hβ))
    · rw [if_neg e, if_neg e]
      exact unitV_le hE hr
  rw [prd_one hi] at b
  have e : prd n (fun c => bcol w β (colAt L c)) = β ^ nLow w L := by rw [← h.len]; exact prd_cols
  rw [e, c, Int.natAbs_mul] at b
  have hd : 0 < (det n fun r c => unitV w R r (colAt L c)).natAbs := by
    have := h.ne
    unfold dets at this
    omega
  exact Nat.le_trans (Nat.le_mul_of_pos_right _ hd) b
theorem Lat.ent_le (h : Lat w R n L) (hE : Ent w n β R) (hβ : 0 < β) {x : Vec} {y : Nat → Int} (hx : ∀ j, x j = sm n fun i => y i * unitV w R i j) {N : Nat} (hN : ∀ q ∈ L, (x q.1).natAbs ≤ N) (j : Nat) :
    (x j).natAbs ≤ n * (fac n * N * β ^ nLow w L * β) := by
  rw [hx j]
  refine sm_abs fun i hi => ?_
  rw [Int.natAbs_mul]
  refine Nat.mul_le_mul (h.coef_le hE hβ hx hN hi) ?_
  refine Nat.le_trans (unitV_le (β := β) hE hi) ?_
  rw [Nat.one_mul]
  unfold bcol
  split <;> omega
end
/-- what a true long row is -/
theorem tru_sum {w m n : Nat} {R : Nat → Vec} {x : Vec} (hx : Tru w m R x) (hn : n ≤ m) (hc : ∀ i, n ≤ i → x (w + i) = 0) (hz : ∀ j, w + m ≤ j → x j = 0) (j : Nat) : x j = sm n fun i => x (w + i) * unitV w R i j := by
  by_cases h : j < w
  · rw [hx j h]
    have e : ∀ d, sm (n + d) (fun i => x (w + i) * R i j) = sm n fun i => x (w + i) * R i j := by
      intro d
      induction d with
      | zero => rfl
      | succ d ih =>
        show sm (n + d) _ + x (w + (n + d)) * R (n + d) j = _
        rw [ih, hc _ (by omega)]
        omega
    have e2 := e (m - n)
    rw [show n + (m - n) = m by omega] at e2
    rw [e2]
    exact sm_congr fun i _ => by
      unfold unitV
      rw [if_pos h]
  · obtain ⟨i, rfl⟩ : ∃ i, j = w + i := ⟨j - w, by omega⟩
    have u : ∀ l, unitV w R l (w + i) = if i = l then 1 else 0 := fun l => by
      unfold unitV
      rw [if_neg h]
      by_cases e : i = l
      · rw [if_pos (by omega), if_pos e]
      · rw [if_neg (by omega), if_neg e]
    by_cases hi : i < n
    · rw [sm_one (f := fun l => x (w + l) * unitV w R l (w + i)) hi fun l _ ne => by
        rw [u, if_neg (fun z => ne z.symm), Int.mul_zero]]
      rw [u, if_pos rfl, Int.mul_one]
    · rw [hc i (by omega), sm_zero fun l hl => by
        rw [u, if_neg (by omega), Int.mul_zero]]
section
variable {R : Nat → Vec} {k : Nat} {S : Sts}
theorem gens_out (G : Good R k S) {q : Nat × Row} (hq : q ∈ S.gens) {j : Nat} (h : S.w + S.m ≤ j) : gf q.2 j = 0 := gf_out (by rw [G.len q hq]; exact h)
theorem Good.back (G : Good R k S) (hk : k ≤ S.m) {q : Nat × Row} (hq : q ∈ S.gens) (j : Nat) : gf q.2 j = sm k fun i => gf q.2 (S.w + i) * unitV S.w R i j :=
  tru_sum (G.tru q hq) hk (G.cof q hq) (fun j h => gens_out G hq h) j
theorem Fin.lat (F : Fin R k S) (hk : k ≤ S.m) : Lat S.w R k (vecs S.gens) where
  ech := F.g.ech (a := 0) (by omega)
  len := by
    unfold vecs
    rw [List.length_map, F.cnt]
  span := F.span
  back := fun p hp j => by
    obtain ⟨q, hq, rfl⟩ := vecs_mem hp
    exact F.g.back hk hq j
/-- with the long row that is laid next -/
theorem Fin.lat2 (F : Fin R k S) (hk : k < S.m) : Lat S.w R (k + 1) ((S.w + k, unitV S.w R k) :: vecs S.gens) := by
  have L := F.lat (by omega)
  have up : ∀ i, unitV S.w R i (S.w + k) = if k = i then 1 else 0 := fun i => by
    unfold unitV
    rw [if_neg (by omega)]
    by_cases e : k = i
    · rw [if_pos (by omega), if_pos e]
    · rw [if_neg (by omega), if_neg e]
  refine ⟨⟨?_, fun p hp => ?_, L.ech⟩, by rw [List.length_cons, L.len], fun i hi => ?_, fun p hp j => ?_⟩
  · show 0 < unitV S.w R k (S.w + k)
    rw [up, if_pos rfl]
    decide
  · obtain ⟨q, hq, rfl⟩ := vecs_mem hp
    exact F.g.cof q hq k (Nat.le_refl _)
  · by_cases e : i = k
    · rw [e]
      exact InS.mem List.mem_cons_self
    · exact (L.span i (by omega)).cons
  · rcases List.mem_cons.mp hp with rfl | hp
    · exact tru_sum (n := k + 1) (tru_unit (by omega)) (by omega) (fun i hi => by unfold unitV; rw [if_neg (by omega), if_neg (by omega)]) (fun j hj => by unfold unitV; rw [if_neg (by omega), if_neg (by omega)]) j
    · obtain ⟨q, hq, rfl⟩ := vecs_mem hp
      exact (F.g.weaken (k' := k + 1) (by omega)).back (by omega) hq j
theorem nLow_le {w : Nat} : ∀ {L : List (Nat × Vec)}, Ech L → (∀ q ∈ L, q.1 < w → True) → nLow w L ≤ L.length := fun {L} _ _ => by
  unfold nLow
  exact List.length_filter_le _ _
theorem colsB_len {S : Sts} {a b : Nat} : (S.colsB a b).length ≤ b - a := by
  unfold Sts.colsB
  refine Nat.le_trans (List.length_filterMap_le _ _) ?_
  rw [List.length_range']
  exact Nat.le_refl _
theorem nLow_gens (G : Good R k S) : nLow S.w (vecs S.gens) ≤ S.w := by
  unfold nLow Sts.gens
  rw [vecs_append, List.filter_append, List.length_append]
  have h1 : ((vecs S.idle).filter fun q => decide (q.1 < S.w)).length = 0 := by
    rw [List.length_eq_zero_iff, List.filter_eq_nil_iff]
    intro p hp
    obtain ⟨q, hq, rfl⟩ := vecs_mem hp
    have := (G.idw q hq).2.1
    simp
    exact this
  have h2 : ((vecs (S.cols 0)).filter fun q => decide (q.1 < S.w)).length ≤ S.w := by
    refine Nat.le_trans (List.length_filter_le _ _) ?_
    unfold vecs
    rw [List.length_map]
    have := colsB_len (S := S) (a := 0) (b := S.w)
    exact this
  omega
end
end Sm
/-! # A8 -/
namespace Sm
/-! ### all numbers on the way stay below a bound z -/
def Lim (z : Nat) (r : Row) : Prop := ∀ j, (gf r j).natAbs ≤ z
def FoldOk (z : Nat) : List (Nat × Row) → Row → Prop
  | [], x => Lim z x
  | q :: L, x => Lim z x ∧ Lim z q.2 ∧ FoldOk z L (redR x q)
def MetOk (z : Nat) (S : Sts) (c : Nat) (s x : Row) : Prop :=
  Lim z s ∧ Lim z x ∧ (common (gf s c) (gf x c)).2.1.natAbs ≤ z ∧ (common (gf s c) (gf x c)).2.2.natAbs ≤ z ∧
  FoldOk z (S.cols (c + 1) ++ S.idle) (mixed (common (gf s c) (gf x c)).2.1 s (common (gf s c) (gf x c)).2.2 x) ∧
  FoldOk z (S.cols (c + 1) ++ S.idle) (mixed ((gf s c).fdiv (common (gf s c) (gf x c)).1) x (-((gf x c).fdiv (common (gf s c) (gf x c)).1)) s)
def LayOk (z at_ : Nat) : List Nat → Sts → Row → Prop
  | [], _, x => Lim z x
  | c :: cs, S, x => Lim z x ∧ if gf x c = 0 then LayOk z at_ cs S x else match S.st c with
    | none => True
    | some s => MetOk z S c s x ∧ LayOk z at_ cs (S.met c s x).1 (S.met c s x).2
def TidyOk (z : Nat) : List Nat → Sts → Prop
  | [], _ => True
  | c :: cs, S => match S.st c with
    | none => TidyOk z cs S
    | some s => FoldOk z (S.cols (c + 1) ++ S.idle) s ∧ TidyOk z cs (S.put c (S.tidied s (c + 1)))
def TurnOk (z : Nat) (S : Sts) (at_ : Nat) (row : Row) : Prop :=
  LayOk z at_ (List.range S.w) S (row ++ unit at_ S.m) ∧ TidyOk z (List.range S.w) (Sts.lay at_ (List.range S.w) S (row ++ unit at_ S.m))
def AllOk (z : Nat) : List Row → Nat → Sts → Prop
  | [], _, _ => True
  | r :: rs, at_, S => TurnOk z S at_ r ∧ AllOk z rs (at_ + 1) (S.turn at_ r)

theorem ediv_abs (a b : Int) (h : 0 < b) : (a / b).natAbs ≤ a.natAbs := by
  rcases Int.lt_or_le a 0 with q | q
  · have h1 : a ≤ a / b := by
      have e := Int.emod_add_mul_ediv a b
      have e2 := Int.emod_lt_of_pos a h
      rcases Int.lt_or_le (a / b) a with z | z
      · exfalso
        have : b * (a / b) ≤ b * (a - 1) := Int.mul_le_mul_of_nonneg_left (by omega) (by omega)
        have : b * (a - 1) ≤ a - b := by
          have h3 : 0 ≤ (b - 1) * (-a) := Int.mul_nonneg (by omega) (by omega)
          have : (b - 1) * (-a) = - (b * a) + a := by grind
          have : b * (a - 1) = b * a - b := by grind
          omega
        omega
      · exact z
    have h2 : a / b < 0 := Int.ediv_neg_of_neg_of_pos q h
    omega
  · have h1 : 0 ≤ a / b := Int.ediv_nonneg q (by omega)
    have h2 : a / b ≤ a := Int.ediv_le_self b q
    omega
/-- the growth of a reduction at some places -/
theorem red_grow {x : Vec} {q : Nat × Vec} {p N G : Nat} (hp : 0 < q.2 q.1) (h1 : (x q.1).natAbs ≤ N) (h2 : (x p).natAbs ≤ N) (h3 : (q.2 p).natAbs ≤ G) : (red x q p).natAbs ≤ N * (1 + G) := by
  unfold red
  have a := ediv_abs (x q.1) (q.2 q.1) hp
  have b : (x q.1 / q.2 q.1 * q.2 p).natAbs ≤ N * G := by
    rw [Int.natAbs_mul]
    exact Nat.mul_le_mul (Nat.le_trans a h1) h3
  have c := Int.natAbs_sub_le (x p) (x q.1 / q.2 q.1 * q.2 p)
  rw [Nat.mul_add]
  omega
/-- a fold of reductions: a property of vectors that is kept, and bounds at the pivots -/
theorem foldOk_of {z n G : Nat} {P : Vec → Prop} {C : Nat → Prop} (hP : ∀ (x y : Vec) (k : Int), P x → P y → P fun j => x j + k * y j)
    (hz : ∀ N x, P x → (∀ p, C p → (x p).natAbs ≤ N) → N ≤ n → ∀ j, (x j).natAbs ≤ z) :
    ∀ (L : List (Nat × Row)) (x : Row) (N : Nat) (len : Nat), x.length = len → (∀ q ∈ L, q.2.length = len ∧ 0 < gf q.2 q.1 ∧ C q.1 ∧ P (gf q.2) ∧ Lim z q.2 ∧ ∀ p, C p → (gf q.2 p).natAbs ≤ G) → P (gf x) →
      (∀ p, C p → (gf x p).natAbs ≤ N) → N * (1 + G) ^ L.length ≤ n → FoldOk z L x
  | [], x, N, len, hl, _, hx, hN, hn => hz N _ hx hN (by simpa using hn)
  | q :: L, x, N, len, hl, hq, hx, hN, hn => by
    obtain ⟨q1, q2, q3, q4, q5, q6⟩ := hq q List.mem_cons_self
    have e := gf_redR (x := x) (q := q) (by rw [hl, q1]) q2
    have hle : N ≤ N * (1 + G) ^ (q :: L).length := Nat.le_mul_of_pos_right _ (Nat.pow_pos (by omega))
    refine ⟨hz N _ hx hN (Nat.le_trans hle hn), q5, foldOk_of hP hz L (redR x q) (N * (1 + G)) len (by rw [redR_len (by rw [hl, q1]), hl]) (fun r hr => hq r (List.mem_cons_of_mem _ hr)) ?_ (fun p hp => ?_) ?_⟩
    · rw [e]
      have := hP (gf x) (gf q.2) (-(gf x q.1 / gf q.2 q.1)) hx q4
      have e2 : (fun j => gf x j + -(gf x q.1 / gf q.2 q.1) * gf q.2 j) = red (gf x) (q.1, gf q.2) := by
        funext j
        unfold red
        grind
      rw [e2] at this
      exact this
    · rw [e]
      exact red_grow (q := (q.1, gf q.2)) q2 (hN _ q3) (hN p hp) (q6 p hp)
    · rw [List.length_cons] at hn
      have : N * (1 + G) * (1 + G) ^ L.length = N * (1 + G) ^ (L.length + 1) := by rw [Nat.pow_succ]; grind
      rw [this]
      exact hn
/-! ### Euclid's numbers -/
theorem eu_le (a b : Int) : ∀ (n : Nat) (part times others rest rt ro : Int) (T O : Nat), rest.natAbs ≤ n → part ≠ 0 →
    rt.natAbs * part.natAbs + times.natAbs * rest.natAbs ≤ T → ro.natAbs * part.natAbs + others.natAbs * rest.natAbs ≤ O → (times.natAbs ≤ T) → others.natAbs ≤ O → (0 < part ∧ 0 < rest ∨ part < 0 ∧ rest < 0 ∨ rest = 0) →
    (eu part times others rest rt ro).2.1.natAbs ≤ T ∧ (eu part times others rest rt ro).2.2.natAbs ≤ O := by
  intro n
  induction n with
  | zero =>
    intro part times others rest rt ro T O hn _ _ _ ht ho _
    rw [eu, dif_pos (by omega)]
    split
    · exact ⟨by show (-times).natAbs ≤ T; rw [Int.natAbs_neg]; exact ht, by show (-others).natAbs ≤ O; rw [Int.natAbs_neg]; exact ho⟩
    · exact ⟨ht, ho⟩
  | succ n ih =>
    intro part times others rest rt ro T O hn hp hT hO ht ho sg
    by_cases hr : rest = 0
    · rw [eu, dif_pos hr]
      split
      · exact ⟨by show (-times).natAbs ≤ T; rw [Int.natAbs_neg]; exact ht, by show (-others).natAbs ≤ O; rw [Int.natAbs_neg]; exact ho⟩
      · exact ⟨ht, ho⟩
    · rw [eu, dif_neg hr]
      have em : part - part.fdiv rest * rest = part.fmod rest := by
        have := Int.fmod_add_mul_fdiv part rest
        rw [Int.mul_comm]
        omega
      have hlt := fmod_abs (a := part) hr
      -- the quotient is not below nought; the rest has the divisor's sign
      have ed := Int.fmod_add_mul_fdiv part rest
      have hq : 0 ≤ part.fdiv rest ∧ part.natAbs = (part.fmod rest).natAbs + (part.fdiv rest).natAbs * rest.natAbs ∧ (0 < rest ∧ 0 ≤ part.fmod rest ∨ rest < 0 ∧ part.fmod rest ≤ 0) := by
        rcases sg with ⟨a1, a2⟩ | ⟨a1, a2⟩ | a1
        · have h1 : 0 ≤ part.fdiv rest := Int.fdiv_nonneg (by omega) (by omega)
          have h2 : 0 ≤ part.fmod rest := Int.fmod_nonneg_of_pos part a2
          refine ⟨h1, ?_, .inl ⟨a2, h2⟩⟩
          have : (part.fdiv rest).natAbs * rest.natAbs = (rest * part.fdiv rest).natAbs := by rw [Int.natAbs_mul, Nat.mul_comm]
          rw [this]
          have h3 : 0 ≤ rest * part.fdiv rest := Int.mul_nonneg (by omega) h1
          omega
        · have h1 : 0 ≤ part.fdiv rest := by
            rw [← Int.neg_fdiv_neg]
            exact Int.fdiv_nonneg (by omega) (by omega)
          have h2 : part.fmod rest ≤ 0 := by
            have := Int.neg_fmod_neg (a := part) (b := rest)
            have h3 := Int.fmod_nonneg_of_pos (-part) (b := -rest) (by omega)
            omega
          refine ⟨h1, ?_, .inr ⟨a2, h2⟩⟩
          have : (part.fdiv rest).natAbs * rest.natAbs = (rest * part.fdiv rest).natAbs := by rw [Int.natAbs_mul, Nat.mul_comm]
          rw [this]
          have h3 : rest * part.fdiv rest ≤ 0 := by
            have := Int.mul_nonneg (a := -rest) (b := part.fdiv rest) (by omega) h1
            have : -rest * part.fdiv rest = -(rest * part.fdiv rest) := by grind
            omega
          omega
        · exact absurd a1 hr
      obtain ⟨q0, q1, q2⟩ := hq
      generalize part.fdiv rest = k at *
      rw [em]
      generalize part.fmod rest = f at *
      have grow : ∀ (u v : Int) (B : Nat), v.natAbs * part.natAbs + u.natAbs * rest.natAbs ≤ B → (u - k * v).natAbs * rest.natAbs + v.natAbs * f.natAbs ≤ B := fun u v B hB => by
        have h1 : (u - k * v).natAbs ≤ u.natAbs + k.natAbs * v.natAbs := by
          have hkv : (k * v).natAbs = k.natAbs * v.natAbs := Int.natAbs_mul k v
          have := Int.natAbs_sub_le u (k * v)
          omega
        have h2 := Nat.mul_le_mul_right rest.natAbs h1
        rw [q1] at hB
        have : (u.natAbs + k.natAbs * v.natAbs) * rest.natAbs + v.natAbs * f.natAbs = v.natAbs * (f.natAbs + k.natAbs * rest.natAbs) + u.natAbs * rest.natAbs := by grind
        omega
      have np : 0 < part.natAbs := by omega
      have nr : 0 < rest.natAbs := by omega
      have mono : ∀ (u v : Int) (B : Nat), v.natAbs * part.natAbs + u.natAbs * rest.natAbs ≤ B → v.natAbs ≤ B := fun u v B h => by
        have := Nat.le_mul_of_pos_right v.natAbs np
        omega
      exact ih rest rt ro f (times - k * rt) (others - k * ro) T O (by omega) hr (grow times rt T hT) (grow others ro O hO) (mono times rt T hT) (mono others ro O hO) (by omega)
theorem common_le {a b : Int} (ha : 0 < a) : (common a b).2.1.natAbs ≤ b.natAbs + 1 ∧ (common a b).2.2.natAbs ≤ a.natAbs + 2 * b.natAbs := by
  unfold common
  split
  · exact ⟨by show (1 : Int).natAbs ≤ _; simp, by show (0 : Int).natAbs ≤ _; simp⟩
  · rename_i hb
    have hb0 : b ≠ 0 := fun z => hb (by rw [z]; exact Int.zero_fmod a)
    -- the first turn by hand
    rw [eu, dif_neg hb0]
    have em : a - a.fdiv b * b = a.fmod b := by
      have := Int.fmod_add_mul_fdiv a b
      rw [Int.mul_comm]
      omega
    rw [em]
    have hlt := fmod_abs (a := a) hb0
    have hsg : (0 < b ∧ 0 ≤ a.fmod b) ∨ (b < 0 ∧ a.fmod b ≤ 0) := by
      rcases Int.lt_or_gt_of_ne hb0 with q | q
      · refine .inr ⟨q, ?_⟩
        have h1 := Int.neg_fmod_neg (a := a) (b := b)
        have h3 := Int.fmod_nonneg_of_pos (-a) (b := -b) (by omega)
        omega
      · exact .inl ⟨q, Int.fmod_nonneg_of_pos a q⟩
    have hk : (a.fdiv b).natAbs * b.natAbs ≤ a.natAbs + b.natAbs := by
      have ed := Int.fmod_add_mul_fdiv a b
      have : (a.fdiv b).natAbs * b.natAbs = (b * a.fdiv b).natAbs := by rw [Int.natAbs_mul, Nat.mul_comm]
      rw [this]
      omega
    have r := eu_le a b (a.fmod b).natAbs b 0 1 (a.fmod b) (1 - a.fdiv b * 0) (0 - a.fdiv b * 1) (b.natAbs + 1) (a.natAbs + 2 * b.natAbs) (Nat.le_refl _) hb0
      (by simp) (by
        have : (0 - a.fdiv b * 1).natAbs = (a.fdiv b).natAbs := by omega
        rw [this]
        show (a.fdiv b).natAbs * b.natAbs + (1 : Int).natAbs * (a.fmod b).natAbs ≤ _
        simp
        omega) (by simp) (by show (1 : Int).natAbs ≤ _; simp; omega) (by omega)
    exact r
end Sm
/-! # A8b -/
namespace Sm
/-- between two of Euclid's turns: T, O bound what is made of the first and of the second number -/
structure EuI (m T O : Nat) (part times others rest rt ro : Int) : Prop where
  p0 : part ≠ 0
  pm : part.natAbs ≤ m
  rm : rest.natAbs ≤ m
  sg : (0 ≤ part ∧ 0 ≤ rest) ∨ (part ≤ 0 ∧ rest ≤ 0)
  t : rt.natAbs * part.natAbs + times.natAbs * rest.natAbs ≤ T
  o : ro.natAbs * part.natAbs + others.natAbs * rest.natAbs ≤ O
theorem fdiv_le (a : Int) {b : Int} (h : b ≠ 0) : (a.fdiv b).natAbs ≤ a.natAbs := by
  have e := Int.fmod_add_mul_fdiv a b
  have hm := fmod_abs (a := a) h
  have hb : 1 ≤ b.natAbs := by omega
  have hk : (b * a.fdiv b).natAbs = b.natAbs * (a.fdiv b).natAbs := Int.natAbs_mul ..
  generalize a.fdiv b = k at *
  generalize a.fmod b = f at *
  by_cases hz : k.natAbs ≤ a.natAbs
  · exact hz
  · exfalso
    have h1 : b.natAbs * (a.natAbs + 1) ≤ b.natAbs * k.natAbs := Nat.mul_le_mul_left _ (by omega)
    have h2 : b.natAbs * k.natAbs ≤ a.natAbs + f.natAbs := by rw [← hk]; omega
    have h3 : b.natAbs * (a.natAbs + 1) = b.natAbs * a.natAbs + b.natAbs := by grind
    have h4 : 1 * a.natAbs ≤ b.natAbs * a.natAbs := Nat.mul_le_mul_right _ hb
    omega
theorem EuI.step {m T O : Nat} {part times others rest rt ro : Int} (I : EuI m T O part times others rest rt ro) (hr : rest ≠ 0) :
    EuI m T O rest rt ro (part - part.fdiv rest * rest) (times - part.fdiv rest * rt) (others - part.fdiv rest * ro) := by
  have em : part - part.fdiv rest * rest = part.fmod rest := by
    have := Int.fmod_add_mul_fdiv part rest
    rw [Int.mul_comm]
    omega
  have hlt := fmod_abs (a := part) hr
  have ed := Int.fmod_add_mul_fdiv part rest
  have sg2 : (0 < rest ∧ 0 ≤ part.fmod rest ∧ 0 ≤ part.fdiv rest ∧ 0 ≤ part) ∨ (rest < 0 ∧ part.fmod rest ≤ 0 ∧ 0 ≤ part.fdiv rest ∧ part ≤ 0) := by
    rcases I.sg with ⟨a1, a2⟩ | ⟨a1, a2⟩
    · exact .inl ⟨by omega, Int.fmod_nonneg_of_pos part (by omega), Int.fdiv_nonneg a1 a2, a1⟩
    · refine .inr ⟨by omega, ?_, ?_, a1⟩
      · have := Int.neg_fmod_neg (a := part) (b := rest)
        have h3 := Int.fmod_nonneg_of_pos (-part) (b := -rest) (by omega)
        omega
      · rw [← Int.neg_fdiv_neg]
        exact Int.fdiv_nonneg (by omega) (by omega)
  have q1 : part.natAbs = (part.fmod rest).natAbs + (part.fdiv rest).natAbs * rest.natAbs := by
    have e1 : (part.fdiv rest).natAbs * rest.natAbs = (rest * part.fdiv rest).natAbs := by rw [Int.natAbs_mul, Nat.mul_comm]
    rw [e1]
    rcases sg2 with ⟨b1, b2, b3, b4⟩ | ⟨b1, b2, b3, b4⟩
    · have h3 : 0 ≤ rest * part.fdiv rest := Int.mul_nonneg (by omega) b3
      omega
    · have h4 := Int.mul_nonneg (a := -rest) (b := part.fdiv rest) (by omega) b3
      have h5 : -rest * part.fdiv rest = -(rest * part.fdiv rest) := by grind
      omega
  rw [em]
  have rm := I.rm
  have pt := I.t
  have po := I.o
  generalize part.fdiv rest = k at *
  generalize part.fmod rest = f at *
  have grow : ∀ (u v : Int) (B : Nat), v.natAbs * part.natAbs + u.natAbs * rest.natAbs ≤ B → (u - k * v).natAbs * rest.natAbs + v.natAbs * f.natAbs ≤ B := fun u v B hB => by
    have h1 : (u - k * v).natAbs ≤ u.natAbs + k.natAbs * v.natAbs := by
      have hkv : (k * v).natAbs = k.natAbs * v.natAbs := Int.natAbs_mul k v
      have := Int.natAbs_sub_le u (k * v)
      omega
    have h2 := Nat.mul_le_mul_right rest.natAbs h1
    rw [q1] at hB
    have : (u.natAbs + k.natAbs * v.natAbs) * rest.natAbs + v.natAbs * f.natAbs = v.natAbs * (f.natAbs + k.natAbs * rest.natAbs) + u.natAbs * rest.natAbs := by grind
    omega
  exact ⟨hr, rm, by omega, by omega, grow times rt T pt, grow others ro O po⟩
/-- the first turn, of any signs -/
theorem eu_first {a b : Int} (ha : 0 < a) (hb : b ≠ 0) : EuI (a.natAbs + b.natAbs) (a.natAbs + 2 * b.natAbs) (a.natAbs + 2 * b.natAbs) b 0 1 (a - a.fdiv b * b) (1 - a.fdiv b * 0) (0 - a.fdiv b * 1) := by
  have em : a - a.fdiv b * b = a.fmod b := by
    have := Int.fmod_add_mul_fdiv a b
    rw [Int.mul_comm]
    omega
  have hlt := fmod_abs (a := a) hb
  have ed := Int.fmod_add_mul_fdiv a b
  have hk : (b * a.fdiv b).natAbs = b.natAbs * (a.fdiv b).natAbs := Int.natAbs_mul ..
  have sg : (0 < b → 0 ≤ a.fmod b) ∧ (b < 0 → a.fmod b ≤ 0) := ⟨fun h => Int.fmod_nonneg_of_pos a h, fun h => by
    have := Int.neg_fmod_neg (a := a) (b := b)
    have h3 := Int.fmod_nonneg_of_pos (-a) (b := -b) (by omega)
    omega⟩
  rw [em]
  generalize a.fdiv b = k at *
  generalize a.fmod b = f at *
  have hkk : (0 - k * 1).natAbs * b.natAbs = b.natAbs * k.natAbs := by
    have : (0 - k * 1).natAbs = k.natAbs := by omega
    rw [this, Nat.mul_comm]
  refine ⟨hb, by omega, by omega, ?_, ?_, ?_⟩
  · rcases Int.lt_or_gt_of_ne hb with h | h
    · exact .inr ⟨by omega, sg.2 h⟩
    · exact .inl ⟨by omega, sg.1 h⟩
  · have : (1 - k * 0).natAbs = 1 := by simp
    rw [this]
    simp
    omega
  · rw [hkk, ← hk]
    simp
    omega
theorem EuI.rt_le {m T O : Nat} {part times others rest rt ro : Int} (I : EuI m T O part times others rest rt ro) : rt.natAbs ≤ T ∧ ro.natAbs ≤ O := by
  have p0 := I.p0
  have h1 := Nat.le_mul_of_pos_right rt.natAbs (show 0 < part.natAbs by omega)
  have h2 := Nat.le_mul_of_pos_right ro.natAbs (show 0 < part.natAbs by omega)
  have := I.t
  have := I.o
  omega
end Sm
/-! # A9 -/
namespace Sm
/-- the product of the pivots of a list of rows -/
def pv : List (Nat × Row) → Int
  | [] => 1
  | q :: L => gf q.2 q.1 * pv L
theorem pv_append : ∀ {L M : List (Nat × Row)}, pv (L ++ M) = pv L * pv M
  | [], M => by simp [pv]
  | q :: L, M => by
    show gf q.2 q.1 * pv (L ++ M) = gf q.2 q.1 * pv L * pv M
    rw [pv_append, Int.mul_assoc]
theorem pv_pos : ∀ {L : List (Nat × Row)}, (∀ q ∈ L, 0 < gf q.2 q.1) → 0 < pv L
  | [], _ => by decide
  | q :: L, h => Int.mul_pos (h q List.mem_cons_self) (pv_pos fun p hp => h p (List.mem_cons_of_mem _ hp))
theorem pivs_vecs : ∀ {L : List (Nat × Row)}, pivs (vecs L) = pv L
  | [] => rfl
  | q :: L => by
    unfold pivs
    show prdI ((vecs L).length + 1) _ = gf q.2 q.1 * pv L
    rw [prdI_skip0, ← pivs_vecs (L := L)]
    rfl
theorem le_mul_pos {a b : Int} (ha : 0 ≤ a) (hb : 0 < b) : a ≤ a * b := by
  have : a * 1 ≤ a * b := Int.mul_le_mul_of_nonneg_left hb ha
  omega
theorem pv_mem : ∀ {L : List (Nat × Row)} {q : Nat × Row}, (∀ p ∈ L, 0 < gf p.2 p.1) → q ∈ L → gf q.2 q.1 ≤ pv L
  | p :: L, q, h, hq => by
    have hL := pv_pos fun p hp => h p (List.mem_cons_of_mem _ hp)
    have hp := h p List.mem_cons_self
    rcases List.mem_cons.mp hq with rfl | hq
    · exact le_mul_pos (by omega) hL
    · have := pv_mem (fun p hp => h p (List.mem_cons_of_mem _ hp)) hq
      have h2 := le_mul_pos (a := pv L) (b := gf p.2 p.1) (by omega) hp
      show _ ≤ gf p.2 p.1 * pv L
      rw [Int.mul_comm]
      omega
theorem fac_mono {a b : Nat} (h : a ≤ b) : fac a ≤ fac b := by
  induction h with
  | refl => exact Nat.le_refl _
  | step h ih => exact Nat.le_trans ih (Nat.le_mul_of_pos_left _ (by omega))
/-- the bound of determinants -/
def Dl (w m β : Nat) : Nat := fac m * β ^ w
theorem dl_pos {w m β : Nat} (h : 0 < β) : 0 < Dl w m β := Nat.mul_pos (fac_pos m) (Nat.pow_pos h)
theorem dl_le {w m β n l : Nat} (h : 0 < β) (hn : n ≤ m) (hl : l ≤ w) : fac n * β ^ l ≤ Dl w m β := Nat.mul_le_mul (fac_mono hn) (Nat.pow_le_pow_right h hl)
theorem dl_beta {w m β : Nat} (h : 0 < β) (hw : 0 < w) : β ≤ Dl w m β := by
  unfold Dl
  have h1 : β ^ 1 ≤ β ^ w := Nat.pow_le_pow_right h hw
  rw [Nat.pow_one] at h1
  have h2 := Nat.le_mul_of_pos_left (β ^ w) (fac_pos m)
  omega
section
variable {R : Nat → Vec} {k β : Nat} {S : Sts}
theorem Fin.pv_le (F : Fin R k S) (hk : k ≤ S.m) (hE : Ent S.w k β R) (hβ : 0 < β) : (pv S.gens).natAbs ≤ Dl S.w S.m β := by
  have h := (F.lat hk).piv_le hE
  rw [pivs_vecs] at h
  exact Nat.le_trans h (dl_le hβ hk (nLow_gens F.g))
theorem Fin.piv_le (F : Fin R k S) (hk : k ≤ S.m) (hE : Ent S.w k β R) (hβ : 0 < β) {q : Nat × Row} (hq : q ∈ S.gens) : (gf q.2 q.1).natAbs ≤ Dl S.w S.m β := by
  have h1 := pv_mem F.g.piv hq
  have h2 := F.g.piv q hq
  have h3 := F.pv_le hk hE hβ
  omega
theorem idT_small : ∀ {L : List (Nat × Row)} {q p : Nat × Row}, Ech (vecs L) → IdT L → q ∈ L → p ∈ L → (0 ≤ gf q.2 p.1 ∧ gf q.2 p.1 ≤ gf p.2 p.1)
  | r :: L, q, p, ⟨e1, e2, e3⟩, ⟨t1, t2⟩, hq, hp => by
    rcases List.mem_cons.mp hq with e | hq2
    · subst e
      rcases List.mem_cons.mp hp with e | hp
      · subst e
        exact ⟨Int.le_of_lt e1, Int.le_refl _⟩
      · have := t1 p hp
        exact ⟨this.1, Int.le_of_lt this.2⟩
    · rcases List.mem_cons.mp hp with e | hp
      · subst e
        have h0 : gf q.2 p.1 = 0 := e2 (q.1, gf q.2) (mem_vecs hq2)
        rw [h0]
        exact ⟨Int.le_refl _, Int.le_of_lt e1⟩
      · exact idT_small e3 t2 hq2 hp
/-- behind a whole turn each row is small at each pivot -/
theorem Fin.small (F : Fin R k S) {q p : Nat × Row} (hq : q ∈ S.gens) (hp : p ∈ S.gens) : 0 ≤ gf q.2 p.1 ∧ gf q.2 p.1 ≤ gf p.2 p.1 := by
  rcases mem_gens.mp hq with ⟨h1, h2⟩ | h1
  · rcases mem_gens.mp hp with ⟨h3, h4⟩ | h3
    · rcases Nat.lt_trichotomy p.1 q.1 with h | h | h
      · rw [F.g.sup _ _ h1 h2 _ h]
        exact ⟨Int.le_refl _, Int.le_of_lt (F.g.pos _ _ h3 h4)⟩
      · have : q.2 = p.2 := by rw [← h, h4] at h2; exact (Option.some.inj h2).symm
        rw [this]
        exact ⟨Int.le_of_lt (F.g.pos _ _ h3 h4), Int.le_refl _⟩
      · have := F.tdy _ _ h1 h2 p (List.mem_append.mpr (.inl (by obtain ⟨c, s⟩ := p; exact mem_cols.mpr ⟨h, h3, h4⟩)))
        exact ⟨this.1, Int.le_of_lt this.2⟩
    · have := F.tdy _ _ h1 h2 p (List.mem_append.mpr (.inr h3))
      exact ⟨this.1, Int.le_of_lt this.2⟩
  · rcases mem_gens.mp hp with ⟨h3, h4⟩ | h3
    · rw [(F.g.idw q h1).1 p.1 h3]
      exact ⟨Int.le_refl _, Int.le_of_lt (F.g.pos _ _ h3 h4)⟩
    · exact idT_small F.g.ide F.idt h1 h3
theorem Fin.ent_piv (F : Fin R k S) (hk : k ≤ S.m) (hE : Ent S.w k β R) (hβ : 0 < β) {q p : Nat × Row} (hq : q ∈ S.gens) (hp : p ∈ S.gens) : (gf q.2 p.1).natAbs ≤ Dl S.w S.m β := by
  have h1 := F.small hq hp
  have h2 := F.piv_le hk hE hβ hp
  omega
/-- the entries of long rows by what they are at the pivots -/
def Comb (R : Nat → Vec) (n : Nat) (S : Sts) (x : Vec) : Prop := Tru S.w S.m R x ∧ (∀ i, n ≤ i → x (S.w + i) = 0) ∧ ∀ j, S.w + S.m ≤ j → x j = 0
theorem Comb.add {n : Nat} {x y : Vec} (c : Int) (a : Comb R n S x) (b : Comb R n S y) : Comb R n S fun j => x j + c * y j :=
  ⟨tru_add _ _ _ a.1 b.1, fun i hi => by show _ + _ = _; rw [a.2.1 i hi, b.2.1 i hi]; simp, fun j hj => by show _ + _ = _; rw [a.2.2 j hj, b.2.2 j hj]; simp⟩
theorem Good.comb (G : Good R k S) {q : Nat × Row} (hq : q ∈ S.gens) : Comb R k S (gf q.2) := ⟨G.tru q hq, G.cof q hq, fun j hj => gens_out G hq hj⟩
def Bd (w m β N : Nat) : Nat := m * (Dl w m β * N * β)
theorem bd_mono {w m β N N' : Nat} (h : N ≤ N') : Bd w m β N ≤ Bd w m β N' := Nat.mul_le_mul_left _ (Nat.mul_le_mul_right _ (Nat.mul_le_mul_left _ h))
theorem lat_bd {n : Nat} {L : List (Nat × Vec)} (h : Lat S.w R n L) (hn : n ≤ S.m) (hl : nLow S.w L ≤ S.w) (hE : Ent S.w n β R) (hβ : 0 < β) {x : Vec} (hx : Comb R n S x) {N : Nat} (hN : ∀ q ∈ L, (x q.1).natAbs ≤ N) (j : Nat) :
    (x j).natAbs ≤ Bd S.w S.m β N := by
  refine Nat.le_trans (h.ent_le hE hβ (tru_sum hx.1 hn hx.2.1 hx.2.2) hN j) ?_
  refine Nat.mul_le_mul hn (Nat.mul_le_mul_right _ ?_)
  have := dl_le (w := S.w) (m := S.m) hβ hn hl
  calc fac n * N * β ^ nLow S.w L = fac n * β ^ nLow S.w L * N := by grind
    _ ≤ _ := Nat.mul_le_mul_right _ this
theorem Fin.ent_bd (F : Fin R k S) (hk : k ≤ S.m) (hE : Ent S.w k β R) (hβ : 0 < β) {x : Vec} (hx : Comb R k S x) {N : Nat} (hN : ∀ q ∈ S.gens, (x q.1).natAbs ≤ N) (j : Nat) : (x j).natAbs ≤ Bd S.w S.m β N :=
  lat_bd (F.lat hk) hk (nLow_gens F.g) hE hβ hx (fun p hp => by
    obtain ⟨q, hq, rfl⟩ := vecs_mem hp
    exact hN q hq) j
theorem Fin.ent_bd2 (F : Fin R k S) (hk : k < S.m) (hE : Ent S.w (k + 1) β R) (hβ : 0 < β) {x : Vec} (hx : Comb R (k + 1) S x) {N : Nat} (hN : ∀ q ∈ S.gens, (x q.1).natAbs ≤ N) (hN2 : (x (S.w + k)).natAbs ≤ N) (j : Nat) : (x j).natAbs ≤ Bd S.w S.m β N :=
  lat_bd (F.lat2 hk) (by omega) (by
    unfold nLow
    rw [List.filter_cons, if_neg (by simp)]
    exact nLow_gens F.g) hE hβ hx (fun p hp => by
    rcases List.mem_cons.mp hp with rfl | hp
    · exact hN2
    · obtain ⟨q, hq, rfl⟩ := vecs_mem hp
      exact hN q hq) j
end
/-- the greatest number on the way -/
def G1 (w m β : Nat) : Nat := 16 * m * β * Dl w m β * Dl w m β
def Zb (w m β : Nat) : Nat := Bd w m β (G1 w m β * (1 + G1 w m β) ^ m)
/-- sizes on the way of a row -/
structure MidZ (at_ c : Nat) (S0 S : Sts) (x : Row) (β : Nat) : Prop where
  idle : S.idle = S0.idle
  w : S.w = S0.w
  m : S.m = S0.m
  sam : ∀ d, (S.st d).isSome = (S0.st d).isSome
  late : ∀ d, c ≤ d → S.st d = S0.st d
  gb : ∀ q ∈ S.gens, (∀ p ∈ S0.gens, (gf q.2 p.1).natAbs ≤ Dl S0.w S0.m β) ∧ (gf q.2 (S0.w + at_)).natAbs ≤ 5 * Dl S0.w S0.m β
  xb : ∀ p ∈ S0.gens, (gf x p.1).natAbs ≤ Dl S0.w S0.m β + β
  rem : (gf x (S0.w + at_)).natAbs * (pv (S0.cols c)).natAbs ≤ Dl S0.w S0.m β
  red : ∀ d s, c ≤ d → d < S0.w → S0.st d = some s → (gf x d).natAbs * (gf x (S0.w + at_)).natAbs ≤ (gf s d).natAbs * (gf x (S0.w + at_)).natAbs + β
section
variable {R : Nat → Vec} {at_ β : Nat} {S0 : Sts}
theorem cols_at {S : Sts} {c : Nat} {s : Row} (h : S.st c = some s) (hc : c < S.w) : S.cols c = (c, s) :: S.cols (c + 1) := by
  show S.colsB c S.w = _
  rw [colsB_split (a := c) (b := c + 1) (by omega) (by omega), colsB_one h]
  rfl
theorem cols_none {S : Sts} {c : Nat} (h : S.st c = none) (hc : c < S.w) : S.cols c = S.cols (c + 1) := by
  show S.colsB c S.w = _
  rw [colsB_split (a := c) (b := c + 1) (by omega) (by omega), colsB_none h]
  rfl
theorem pv_cols_pos {k : Nat} (G : Good R k S0) (c : Nat) : 0 < pv (S0.cols c) := pv_pos fun q hq => G.piv q (G.part c q (List.mem_append.mpr (.inl hq)))
theorem pv_cols_le {k : Nat} (G : Good R k S0) : pv (S0.cols 0) ≤ pv S0.gens := by
  unfold Sts.gens
  rw [pv_append]
  exact le_mul_pos (Int.le_of_lt (pv_cols_pos G 0)) (pv_pos fun q hq => ech_ide G.ide q hq)
theorem midz_start {row : Row} (F : Fin R at_ S0) (hm : at_ < S0.m) (hl : row.length = S0.w) (hr : ∀ j, j < S0.w → gf row j = R at_ j) (hE : Ent S0.w (at_ + 1) β R) (hβ : 0 < β) : MidZ at_ 0 S0 S0 (row ++ unit at_ S0.m) β := by
  have hE0 : Ent S0.w at_ β R := fun i hi => hE i (by omega)
  have e : ∀ j, gf (row ++ unit at_ S0.m) j = unitV S0.w R at_ j := long_eq hl hm hr
  have u : unitV S0.w R at_ (S0.w + at_) = 1 := by
    unfold unitV
    rw [if_neg (by omega), if_pos rfl]
  have ub : ∀ j, (unitV S0.w R at_ j).natAbs ≤ β := fun j => by
    have := unitV_le hE (r := at_) (c := j) (by omega)
    rw [Nat.one_mul] at this
    refine Nat.le_trans this ?_
    unfold bcol
    split <;> omega
  have hpv := F.pv_le (by omega) hE0 hβ
  have h1 := pv_cols_le F.g
  have h2 := pv_cols_pos F.g 0
  refine ⟨rfl, rfl, rfl, fun _ => rfl, fun _ _ => rfl, fun q hq => ⟨fun p hp => F.ent_piv (by omega) hE0 hβ hq hp, ?_⟩, fun p hp => ?_, ?_, fun d s _ _ _ => ?_⟩
  · rw [F.g.cof q hq at_ (Nat.le_refl _)]
    simp
  · rw [e]
    have := ub p.1
    omega
  · rw [e, u]
    show 1 * _ ≤ _
    omega
  · rw [e, e, u]
    have := ub d
    show _ * 1 ≤ _ * 1 + _
    omega
theorem bd_le {w m β N N' z : Nat} (h : N ≤ N') (hz : Bd w m β N' ≤ z) : Bd w m β N ≤ z := Nat.le_trans (bd_mono h) hz
theorem one_le_pow {a n : Nat} : 1 ≤ (1 + a) ^ n := Nat.pow_pos (by omega)
theorem pow_len {G n m : Nat} (h : n ≤ m) : (1 + G) ^ n ≤ (1 + G) ^ m := Nat.pow_le_pow_right (by omega) h
/-- a step takes in what is on its way: all numbers stay small -/
theorem MidZ.met {c : Nat} {S : Sts} {s x : Row} (F : Fin R at_ S0) (Z : MidZ at_ c S0 S x β) (M : Mid R at_ c S x) (hE : Ent S0.w (at_ + 1) β R) (hβ : 0 < β) (hc : c < S.w) (hs : S.st c = some s) (hx : gf x c ≠ 0) {z : Nat} (hz : Zb S0.w S0.m β ≤ z) :
    MetOk z S c s x ∧ MidZ at_ (c + 1) S0 (S.met c s x).1 (S.met c s x).2 β := by
  have hw0 : c < S0.w := by rw [← Z.w]; exact hc
  have hm0 : at_ < S0.m := by rw [← Z.m]; exact M.am
  have hDβ : β ≤ Dl S0.w S0.m β := dl_beta hβ (by omega)
  have hD0 := dl_pos (w := S0.w) (m := S0.m) hβ
  have G := M.g
  have hsg : (c, s) ∈ S.gens := mem_gens.mpr (.inl ⟨hc, hs⟩)
  have hs0 : S0.st c = some s := by rw [← Z.late c (Nat.le_refl _)]; exact hs
  have hsg0 : (c, s) ∈ S0.gens := mem_gens.mpr (.inl ⟨hw0, hs0⟩)
  have sl : s.length = S.w + S.m := G.len _ hsg
  have sp := G.pos c s hc hs
  have el : x.length = s.length := by rw [M.xlen, sl]
  obtain ⟨k1, k2, k3, k4⟩ := common_ok (b := gf x c) sp
  obtain ⟨kt, ko⟩ := common_le (b := gf x c) sp
  unfold Sts.met MetOk
  dsimp only
  generalize common (gf s c) (gf x c) = K at *
  obtain ⟨p, t, o⟩ := K
  dsimp only at *
  obtain ⟨s1, es1⟩ := k3
  obtain ⟨x1, ex1⟩ := k4
  have f1 : (gf s c).fdiv p = s1 := by rw [es1, Int.fdiv_eq_ediv_of_nonneg _ (by omega)]; exact Int.mul_ediv_cancel_left _ (by omega)
  have f2 : (gf x c).fdiv p = x1 := by rw [ex1, Int.fdiv_eq_ediv_of_nonneg _ (by omega)]; exact Int.mul_ediv_cancel_left _ (by omega)
  have s1p : 0 < s1 := by
    rcases Int.lt_or_le 0 s1 with q | q
    · exact q
    · have := Int.mul_nonneg_of_nonpos_of_nonpos (a := s1) (b := -p) q (by omega)
      have : s1 * -p = - (p * s1) := by grind
      omega
  have s1le : s1.natAbs ≤ (gf s c).natAbs := by
    rw [es1, Int.natAbs_mul]
    exact Nat.le_mul_of_pos_left _ (by omega)
  have x1le : x1.natAbs ≤ (gf x c).natAbs := by
    rw [ex1, Int.natAbs_mul]
    exact Nat.le_mul_of_pos_left _ (by omega)
  have ple : p.natAbs ≤ (gf s c).natAbs := by
    rw [es1, Int.natAbs_mul]
    exact Nat.le_mul_of_pos_right _ (by omega)
  rw [f1, f2]
  -- bounds
  have gb := Z.gb
  have xb := Z.xb
  have rem0 := Z.rem
  generalize hDe : Dl S0.w S0.m β = D at *
  have sb : ∀ p, p ∈ S0.gens → (gf s p.1).natAbs ≤ D := fun p hp => (gb (c, s) hsg).1 p hp
  have sc : (gf s c).natAbs ≤ D := sb (c, s) hsg0
  have sat : gf s (S0.w + at_) = 0 := by
    have := M.new c s (Nat.le_refl _) hc hs
    rw [Z.w] at this
    exact this
  have xc : (gf x c).natAbs ≤ D + β := xb (c, s) hsg0
  have red0 := Z.red c s (Nat.le_refl _) hw0 hs0
  have xpos : 0 < gf x (S0.w + at_) := by
    have := M.xpos
    rw [Z.w] at this
    exact this
  rw [cols_at hs0 hw0] at rem0
  have pvp := pv_cols_pos F.g (c + 1)
  have rem1 : (gf x (S0.w + at_)).natAbs * ((gf s c).natAbs * (pv (S0.cols (c + 1))).natAbs) ≤ D := by
    have : (pv ((c, s) :: S0.cols (c + 1))).natAbs = (gf s c).natAbs * (pv (S0.cols (c + 1))).natAbs := Int.natAbs_mul _ _
    rw [← this]
    exact rem0
  have sτ : (gf s c).natAbs * (gf x (S0.w + at_)).natAbs ≤ D := by
    have h1 : (gf s c).natAbs ≤ (gf s c).natAbs * (pv (S0.cols (c + 1))).natAbs := Nat.le_mul_of_pos_right _ (by omega)
    have h2 := Nat.mul_le_mul_left (gf x (S0.w + at_)).natAbs h1
    rw [Nat.mul_comm]
    omega
  have τD : (gf x (S0.w + at_)).natAbs ≤ D := by
    have h1 := Nat.le_mul_of_pos_left (gf x (S0.w + at_)).natAbs (show 0 < (gf s c).natAbs by omega)
    omega
  have oτ : o.natAbs * (gf x (S0.w + at_)).natAbs ≤ 5 * D := by
    have h1 := Nat.mul_le_mul_right (gf x (S0.w + at_)).natAbs ko
    rw [Nat.add_mul, Nat.mul_assoc] at h1
    omega
  -- the property that is kept, the places
  have hCw : ∀ v, Comb R (at_ + 1) S v ↔ Comb R (at_ + 1) S0 v := fun v => by
    unfold Comb
    rw [Z.w, Z.m]
  have hent : ∀ N v, Comb R (at_ + 1) S0 v → (∀ p, (p = S0.w + at_ ∨ ∃ q ∈ S0.gens, q.1 = p) → (v p).natAbs ≤ N) → N ≤ G1 S0.w S0.m β * (1 + G1 S0.w S0.m β) ^ S0.m → ∀ j, (v j).natAbs ≤ z := fun N v hv hN hn j =>
    Nat.le_trans (F.ent_bd2 hm0 hE hβ hv (fun q hq => hN q.1 (.inr ⟨q, hq, rfl⟩)) (hN _ (.inl rfl)) j) (bd_le hn hz)
  have hm1 : 1 ≤ S0.m := by omega
  have G1D : 16 * D * D ≤ G1 S0.w S0.m β := by
    unfold G1
    rw [hDe]
    have : 16 ≤ 16 * S0.m * β := by
      have := Nat.mul_le_mul (show 16 * 1 ≤ 16 * S0.m by omega) hβ
      omega
    exact Nat.mul_le_mul_right _ (Nat.mul_le_mul_right _ this)
  have D1 : D ≤ D * D := Nat.le_mul_of_pos_right _ hD0
  have big : ∀ N l, N ≤ 16 * D * D → l ≤ S0.m → N * (1 + 5 * D) ^ l ≤ G1 S0.w S0.m β * (1 + G1 S0.w S0.m β) ^ S0.m := fun N l hN hl => by
    refine Nat.mul_le_mul (by omega) ?_
    refine Nat.le_trans (pow_len (m := S0.m) hl) (Nat.pow_le_pow_left ?_ _)
    have : 16 * D * D = 16 * (D * D) := Nat.mul_assoc _ _ _
    omega
  have big0 : ∀ N, N ≤ 16 * D * D → N ≤ G1 S0.w S0.m β * (1 + G1 S0.w S0.m β) ^ S0.m := fun N hN => by
    have := big N 0 hN (by omega)
    simpa using this
  have dd : 16 * D * D = 16 * (D * D) := Nat.mul_assoc _ _ _
  have limx : Lim z x := fun j => hent (2 * D) (gf x) ((hCw _).mp ⟨M.xtru, M.xcof, fun j hj => gf_out (by rw [M.xlen]; exact hj)⟩) (fun p hp => by
    rcases hp with rfl | ⟨q, hq, rfl⟩
    · omega
    · have := xb q hq
      omega) (big0 _ (by omega)) j
  have limg : ∀ q ∈ S.gens, Lim z q.2 := fun q hq j => hent (5 * D) (gf q.2) ((hCw _).mp (G.comb hq)) (fun p hp => by
    rcases hp with rfl | ⟨r, hr, rfl⟩
    · exact (gb q hq).2
    · have := (gb q hq).1 r hr
      omega) (big0 _ (by omega)) j
  -- the later rows
  have later0 : ∀ q ∈ S.cols (c + 1) ++ S.idle, q ∈ S0.gens := fun q hq => by
    obtain ⟨d, u⟩ := q
    rcases List.mem_append.mp hq with h | h
    · obtain ⟨h1, h2, h3⟩ := mem_cols.mp h
      rw [Z.late d (by omega)] at h3
      exact mem_gens.mpr (.inl ⟨by rw [← Z.w]; exact h2, h3⟩)
    · rw [Z.idle] at h
      exact mem_gens.mpr (.inr h)
  have lens : (S.cols (c + 1) ++ S.idle).length ≤ S0.m := by
    have e1 : S.cols (c + 1) = S0.cols (c + 1) := by
      show S.colsB (c + 1) S.w = S0.colsB (c + 1) S0.w
      rw [Z.w]
      exact colsB_congr fun d h1 _ => Z.late d (by omega)
    have e2 : S0.gens = S0.colsB 0 (c + 1) ++ (S0.cols (c + 1) ++ S0.idle) := by
      unfold Sts.gens
      have : S0.cols 0 = S0.colsB 0 (c + 1) ++ S0.cols (c + 1) := colsB_split (by omega) (by omega)
      rw [this, List.append_assoc]
    have e3 := F.cnt
    rw [e2, List.length_append] at e3
    rw [e1, Z.idle]
    omega
  have rows : ∀ q ∈ S.cols (c + 1) ++ S.idle, q.2.length = S.w + S.m ∧ 0 < gf q.2 q.1 ∧ (q.1 = S0.w + at_ ∨ ∃ r ∈ S0.gens, r.1 = q.1) ∧ Comb R (at_ + 1) S0 (gf q.2) ∧ Lim z q.2 ∧ ∀ p, (p = S0.w + at_ ∨ ∃ r ∈ S0.gens, r.1 = p) → (gf q.2 p).natAbs ≤ 5 * D := fun q hq => by
    have hg := G.part _ q hq
    refine ⟨G.len q hg, G.piv q hg, .inr ⟨q, later0 q hq, rfl⟩, (hCw _).mp (G.comb hg), limg q hg, fun p hp => ?_⟩
    rcases hp with rfl | ⟨r, hr, rfl⟩
    · exact (gb q hg).2
    · have := (gb q hg).1 r hr
      omega
  have cs := (hCw _).mp (G.comb hsg)
  have cx : Comb R (at_ + 1) S0 (gf x) := (hCw _).mp ⟨M.xtru, M.xcof, fun j hj => gf_out (by rw [M.xlen]; exact hj)⟩
  have comb2 : ∀ a b : Int, ∀ u v : Vec, Comb R (at_ + 1) S0 u → Comb R (at_ + 1) S0 v → Comb R (at_ + 1) S0 fun j => a * u j + b * v j := fun a b u v hu hv => by
    have h0 : Comb R (at_ + 1) S0 fun _ => 0 := ⟨tru_zero, fun _ _ => rfl, fun _ _ => rfl⟩
    have h1 := h0.add a hu
    have h2 := h1.add b hv
    have e : (fun j => (fun j => (fun _ => (0 : Int)) j + a * u j) j + b * v j) = fun j => a * u j + b * v j := by
      funext j
      dsimp only
      omega
    rw [e] at h2
    exact h2
  have gY : gf (mixed s1 x (-x1) s) = fun j => s1 * gf x j + -x1 * gf s j := by funext j; exact gf_mixed el j
  have gZ : gf (mixed t s o x) = fun j => t * gf s j + o * gf x j := by funext j; exact gf_mixed el.symm j
  have fold : ∀ v : Row, v.length = S.w + S.m → Comb R (at_ + 1) S0 (gf v) → (∀ p, (p = S0.w + at_ ∨ ∃ r ∈ S0.gens, r.1 = p) → (gf v p).natAbs ≤ 16 * D * D) → FoldOk z (S.cols (c + 1) ++ S.idle) v := fun v hl hv hN =>
    foldOk_of (P := Comb R (at_ + 1) S0) (C := fun p => p = S0.w + at_ ∨ ∃ r ∈ S0.gens, r.1 = p) (n := G1 S0.w S0.m β * (1 + G1 S0.w S0.m β) ^ S0.m) (G := 5 * D) (fun x y k hx hy => hx.add k hy) hent _ v (16 * D * D) (S.w + S.m) hl rows hv hN (big _ _ (Nat.le_refl _) lens)
  have ab : ∀ a b u v : Int, (a * u + b * v).natAbs ≤ a.natAbs * u.natAbs + b.natAbs * v.natAbs := fun a b u v => by
    have := Int.natAbs_add_le (a * u) (b * v)
    rw [Int.natAbs_mul, Int.natAbs_mul] at this
    exact this
  have xc2 : (gf x c).natAbs ≤ 2 * D := by omega
  have tD : t.natAbs ≤ 3 * D := by omega
  have oD : o.natAbs ≤ 5 * D := by omega
  have foldZ : FoldOk z (S.cols (c + 1) ++ S.idle) (mixed t s o x) := fold _ (by rw [mixed_len el.symm, sl]) (by rw [gZ]; exact comb2 _ _ _ _ cs cx) fun q hq => by
    rw [gZ]
    refine Nat.le_trans (ab _ _ _ _) ?_
    rcases hq with rfl | ⟨r, hr, rfl⟩
    · rw [sat]
      show t.natAbs * 0 + _ ≤ _
      omega
    · have h1 := Nat.mul_le_mul tD (sb r hr)
      have h2 := Nat.mul_le_mul oD (show (gf x r.1).natAbs ≤ 2 * D by have := xb r hr; omega)
      have e1 : 3 * D * D = 3 * (D * D) := Nat.mul_assoc _ _ _
      have e2 : 5 * D * (2 * D) = 10 * (D * D) := by grind
      omega
  have foldY : FoldOk z (S.cols (c + 1) ++ S.idle) (mixed s1 x (-x1) s) := fold _ (by rw [mixed_len el, M.xlen]) (by rw [gY]; exact comb2 _ _ _ _ cx cs) fun q hq => by
    rw [gY]
    refine Nat.le_trans (ab _ _ _ _) ?_
    rw [Int.natAbs_neg]
    rcases hq with rfl | ⟨r, hr, rfl⟩
    · rw [sat]
      have h1 := Nat.mul_le_mul_right (gf x (S0.w + at_)).natAbs s1le
      show _ + x1.natAbs * 0 ≤ _
      omega
    · have h1 := Nat.mul_le_mul (Nat.le_trans s1le sc) (show (gf x r.1).natAbs ≤ 2 * D by have := xb r hr; omega)
      have h2 := Nat.mul_le_mul (Nat.le_trans x1le xc2) (sb r hr)
      have e1 : D * (2 * D) = 2 * (D * D) := by grind
      have e2 : 2 * D * D = 2 * (D * D) := Nat.mul_assoc _ _ _
      omega
  have zD : 16 * D ≤ z := by
    have h1 : 16 * D ≤ G1 S0.w S0.m β := by omega
    have h2 : G1 S0.w S0.m β ≤ G1 S0.w S0.m β * (1 + G1 S0.w S0.m β) ^ S0.m := Nat.le_mul_of_pos_right _ one_le_pow
    have h3 : G1 S0.w S0.m β * (1 + G1 S0.w S0.m β) ^ S0.m ≤ Zb S0.w S0.m β := by
      unfold Zb Bd
      rw [hDe]
      have a1 : ∀ N, N ≤ S0.m * (D * N * β) := fun N => by
        have b1 : N ≤ D * N := Nat.le_mul_of_pos_left _ hD0
        have b2 : D * N ≤ D * N * β := Nat.le_mul_of_pos_right _ hβ
        have b3 : D * N * β ≤ S0.m * (D * N * β) := Nat.le_mul_of_pos_left _ hm1
        omega
      exact a1 _
    omega
  refine ⟨⟨limg _ hsg, limx, by omega, by omega, foldZ, foldY⟩, ?_⟩
  -- what holds behind it
  have TY := G.tid (x := mixed s1 x (-x1) s) (by rw [mixed_len el, M.xlen]) (a := c + 1) (by omega)
  have TZ := G.tid (x := mixed t s o x) (by rw [mixed_len el.symm, sl]) (a := c + 1) (by omega)
  have lat0 : ∀ q ∈ S.cols (c + 1) ++ S.idle, gf q.2 (S.w + at_) = 0 := fun q hq => by
    obtain ⟨d, u⟩ := q
    rcases List.mem_append.mp hq with h | h
    · obtain ⟨h1, h2, h3⟩ := mem_cols.mp h
      exact M.new d u (by omega) h2 h3
    · exact M.newI _ h
  have at_of : ∀ {v y : Row}, Tid S v y (c + 1) → gf y (S0.w + at_) = gf v (S0.w + at_) := fun {v y} T => by
    have e : (fun j => gf v j - gf y j) (S.w + at_) = 0 := InS.at_zero (fun p hp => by
      obtain ⟨r, hr, rfl⟩ := vecs_mem hp
      exact lat0 r hr) T.diff
    have e2 : gf v (S.w + at_) - gf y (S.w + at_) = 0 := e
    rw [Z.w] at e2
    omega
  -- a pivot of S0: of a step behind c, of an idle row, or of a step up to c
  have places : ∀ q ∈ S0.gens, (∃ r ∈ S.cols (c + 1) ++ S.idle, r.1 = q.1 ∧ gf r.2 r.1 = gf q.2 q.1) ∨ q.1 ≤ c := fun q hq => by
    obtain ⟨d, u⟩ := q
    rcases mem_gens.mp hq with ⟨h1, h2⟩ | h
    · by_cases e : d ≤ c
      · exact .inr e
      · refine .inl ⟨(d, u), List.mem_append.mpr (.inl (mem_cols.mpr ⟨by omega, by rw [Z.w]; exact h1, ?_⟩)), rfl, rfl⟩
        rw [Z.late d (by omega)]
        exact h2
    · exact .inl ⟨(d, u), List.mem_append.mpr (.inr (by rw [Z.idle]; exact h)), rfl, rfl⟩
  have pivD : ∀ q ∈ S0.gens, (gf q.2 q.1).natAbs ≤ D := fun q hq => by
    have := F.piv_le (by omega) (fun i hi => hE i (by omega)) hβ hq
    rw [hDe] at this
    exact this
  have tinyOf : ∀ {v y : Row}, Tid S v y (c + 1) → (∀ j, j ≤ c → (gf y j).natAbs ≤ D) → ∀ q ∈ S0.gens, (gf y q.1).natAbs ≤ D := fun {v y} T h0 q hq => by
    rcases places q hq with ⟨r, hr, e1, e2⟩ | h
    · have h1 := T.small r hr
      have h2 := pivD q hq
      rw [e1] at h1
      rw [e1] at e2
      omega
    · exact h0 _ h
  generalize hY : S.tidied (mixed s1 x (-x1) s) (c + 1) = Y at TY
  generalize hZ : S.tidied (mixed t s o x) (c + 1) = ZZ at TZ
  have Y0 : ∀ j, j ≤ c → gf Y j = 0 := fun j hj => by
    rw [TY.keep j (by omega), gY]
    show s1 * gf x j + -x1 * gf s j = 0
    by_cases q : j = c
    · rw [q, es1, ex1]
      grind
    · rw [M.xz j (by omega), G.sup c s hc hs j (by omega)]
      simp
  have Z0 : ∀ j, j ≤ c → (gf ZZ j).natAbs ≤ D := fun j hj => by
    rw [TZ.keep j (by omega), gZ]
    show (t * gf s j + o * gf x j).natAbs ≤ D
    by_cases q : j = c
    · rw [q, ← k2]
      omega
    · rw [M.xz j (by omega), G.sup c s hc hs j (by omega)]
      simp
  have Yat : gf Y (S0.w + at_) = s1 * gf x (S0.w + at_) := by
    rw [at_of TY, gY]
    show s1 * gf x (S0.w + at_) + -x1 * gf s (S0.w + at_) = _
    rw [sat]
    simp
  have Zat : gf ZZ (S0.w + at_) = o * gf x (S0.w + at_) := by
    rw [at_of TZ, gZ]
    show t * gf s (S0.w + at_) + o * gf x (S0.w + at_) = _
    rw [sat]
    simp
  have common_part : ∀ S' : Sts, S'.idle = S0.idle → S'.w = S0.w → S'.m = S0.m → (∀ d, (S'.st d).isSome = (S0.st d).isSome) → (∀ d, c + 1 ≤ d → S'.st d = S0.st d) →
      (∀ q ∈ S'.gens, (∀ p ∈ S0.gens, (gf q.2 p.1).natAbs ≤ D) ∧ (gf q.2 (S0.w + at_)).natAbs ≤ 5 * D) → MidZ at_ (c + 1) S0 S' Y β := fun S' a1 a2 a3 a4 a5 a6 => by
    refine ⟨a1, a2, a3, a4, a5, by rw [hDe]; exact a6, fun p hp => ?_, ?_, fun d u h1 h2 h3 => ?_⟩
    · have := tinyOf TY (fun j hj => by rw [Y0 j hj]; simp) p hp
      omega
    · rw [Yat, Int.natAbs_mul, hDe]
      refine Nat.le_trans ?_ rem1
      have := Nat.mul_le_mul_right ((gf x (S0.w + at_)).natAbs * (pv (S0.cols (c + 1))).natAbs) s1le
      calc s1.natAbs * (gf x (S0.w + at_)).natAbs * (pv (S0.cols (c + 1))).natAbs = s1.natAbs * ((gf x (S0.w + at_)).natAbs * (pv (S0.cols (c + 1))).natAbs) := Nat.mul_assoc _ _ _
        _ ≤ (gf s c).natAbs * ((gf x (S0.w + at_)).natAbs * (pv (S0.cols (c + 1))).natAbs) := this
        _ = _ := by grind
    · have hmem : (d, u) ∈ S.cols (c + 1) ++ S.idle := List.mem_append.mpr (.inl (mem_cols.mpr ⟨h1, by rw [Z.w]; exact h2, by rw [Z.late d (by omega)]; exact h3⟩))
      have h4 := TY.small (d, u) hmem
      have h5 : (gf Y d).natAbs ≤ (gf u d).natAbs := by
        have : 0 ≤ gf Y d ∧ gf Y d < gf u d := h4
        omega
      have h6 := Nat.mul_le_mul_right (gf Y (S0.w + at_)).natAbs h5
      omega
  by_cases ho : o = 0
  · rw [if_neg (by omega), hY]
    exact common_part S Z.idle Z.w Z.m Z.sam (fun d hd => Z.late d (by omega)) (fun q hq => gb q hq)
  · rw [if_pos ho, put_tidied (by omega), hY]
    refine common_part (S.put c ZZ) Z.idle Z.w Z.m (fun d => ?_) (fun d hd => ?_) fun q hq => ?_
    · rw [put_st]
      split
      · rename_i e
        rw [e, hs0]
        rfl
      · exact Z.sam d
    · rw [put_st, if_neg (by omega)]
      exact Z.late d (by omega)
    · rcases mem_put hq with rfl | ⟨h, _⟩
      · refine ⟨fun p hp => tinyOf TZ Z0 p hp, ?_⟩
        show (gf ZZ (S0.w + at_)).natAbs ≤ _
        rw [Zat, Int.natAbs_mul]
        exact oτ
      · exact gb q h
end
end Sm
/-! # A10 -/
namespace Sm
section
variable {R : Nat → Vec} {at_ β : Nat} {S0 : Sts}
theorem g1_ge {w m β : Nat} (hm : 1 ≤ m) (hβ : 0 < β) {N : Nat} (hN : N ≤ 16 * Dl w m β) : Bd w m β N ≤ G1 w m β := by
  unfold Bd G1
  have h1 : Dl w m β * N * β ≤ Dl w m β * (16 * Dl w m β) * β := Nat.mul_le_mul_right _ (Nat.mul_le_mul_left _ hN)
  have h2 := Nat.mul_le_mul_left m h1
  have e : m * (Dl w m β * (16 * Dl w m β) * β) = 16 * m * β * Dl w m β * Dl w m β := by grind
  omega
theorem zb_ge {w m β : Nat} (hm : 1 ≤ m) (hβ : 0 < β) {N : Nat} (hN : N ≤ G1 w m β) : N ≤ Zb w m β := by
  unfold Zb Bd
  have h0 := dl_pos (w := w) (m := m) hβ
  have h2 : G1 w m β ≤ G1 w m β * (1 + G1 w m β) ^ m := Nat.le_mul_of_pos_right _ one_le_pow
  have a1 : ∀ N, N ≤ m * (Dl w m β * N * β) := fun N => by
    have b1 : N ≤ Dl w m β * N := Nat.le_mul_of_pos_left _ h0
    have b2 : Dl w m β * N ≤ Dl w m β * N * β := Nat.le_mul_of_pos_right _ hβ
    have b3 : Dl w m β * N * β ≤ m * (Dl w m β * N * β) := Nat.le_mul_of_pos_left _ hm
    omega
  have := a1 (G1 w m β * (1 + G1 w m β) ^ m)
  omega
theorem MidZ.ents {c : Nat} {S : Sts} {x : Row} (F : Fin R at_ S0) (Z : MidZ at_ c S0 S x β) (M : Mid R at_ c S x) (hE : Ent S0.w (at_ + 1) β R) (hβ : 0 < β) (hD : β ≤ Dl S0.w S0.m β) :
    (∀ q ∈ S.gens, ∀ j, (gf q.2 j).natAbs ≤ G1 S0.w S0.m β) ∧ ∀ j, (gf x j).natAbs ≤ G1 S0.w S0.m β := by
  have hm0 : at_ < S0.m := by rw [← Z.m]; exact M.am
  have hCw : ∀ v, Comb R (at_ + 1) S v → Comb R (at_ + 1) S0 v := fun v h => by
    unfold Comb at h ⊢
    rw [Z.w, Z.m] at h
    exact h
  have τ : (gf x (S0.w + at_)).natAbs ≤ Dl S0.w S0.m β := by
    have h1 := Z.rem
    have h2 := pv_cols_pos F.g c
    have h3 := Nat.le_mul_of_pos_right (gf x (S0.w + at_)).natAbs (show 0 < (pv (S0.cols c)).natAbs by omega)
    omega
  refine ⟨fun q hq j => ?_, fun j => ?_⟩
  · refine Nat.le_trans (F.ent_bd2 hm0 hE hβ (hCw _ (M.g.comb hq)) (N := 5 * Dl S0.w S0.m β) (fun p hp => ?_) (Z.gb q hq).2 j) (g1_ge (by omega) hβ (by omega))
    have := (Z.gb q hq).1 p hp
    omega
  · refine Nat.le_trans (F.ent_bd2 hm0 hE hβ (hCw _ ⟨M.xtru, M.xcof, fun j hj => gf_out (by rw [M.xlen]; exact hj)⟩) (N := 2 * Dl S0.w S0.m β) (fun p hp => ?_) (by omega) j) (g1_ge (by omega) hβ (by omega))
    have := Z.xb p hp
    omega
theorem lay_sz : ∀ (n c : Nat) (S : Sts) (x : Row), c + n = S.w → Fin R at_ S0 → Mid R at_ c S x → MidZ at_ c S0 S x β → Ent S0.w (at_ + 1) β R → 0 < β → β ≤ Dl S0.w S0.m β → ∀ z, Zb S0.w S0.m β ≤ z →
    LayOk z at_ (List.range' c n) S x ∧ ∀ q ∈ (Sts.lay at_ (List.range' c n) S x).gens, ∀ j, (gf q.2 j).natAbs ≤ G1 S0.w S0.m β
  | 0, c, S, x, h, F, M, Z, hE, hβ, hD, z, hz => by
    have hm0 : at_ < S0.m := by rw [← Z.m]; exact M.am
    obtain ⟨e1, e2⟩ := Z.ents F M hE hβ hD
    have lx : Lim z x := fun j => Nat.le_trans (zb_ge (by omega) hβ (e2 j)) hz
    refine ⟨lx, fun q hq => ?_⟩
    have hq2 : q ∈ ({ S with idle := (S.w + at_, x) :: S.idle } : Sts).gens := hq
    rcases mem_gens.mp hq2 with h1 | h1
    · exact e1 q (mem_gens.mpr (.inl h1))
    · rcases List.mem_cons.mp h1 with h2 | h2
      · rw [h2]
        exact e2
      · exact e1 q (mem_gens.mpr (.inr h2))
  | n + 1, c, S, x, h, F, M, Z, hE, hβ, hD, z, hz => by
    have hm0 : at_ < S0.m := by rw [← Z.m]; exact M.am
    obtain ⟨e1, e2⟩ := Z.ents F M hE hβ hD
    have lx : Lim z x := fun j => Nat.le_trans (zb_ge (by omega) hβ (e2 j)) hz
    show LayOk z at_ (c :: List.range' (c + 1) n) S x ∧ ∀ q ∈ (Sts.lay at_ (c :: List.range' (c + 1) n) S x).gens, ∀ j, (gf q.2 j).natAbs ≤ G1 S0.w S0.m β
    unfold LayOk Sts.lay
    have step_up : MidZ at_ (c + 1) S0 S x β := ⟨Z.idle, Z.w, Z.m, Z.sam, fun d hd => Z.late d (by omega), Z.gb, Z.xb, by
      refine Nat.le_trans (Nat.mul_le_mul_left _ ?_) Z.rem
      have hc : c < S0.w := by rw [← Z.w]; omega
      cases e : S0.st c with
      | none =>
        rw [cols_none e hc]
        exact Nat.le_refl _
      | some u =>
        rw [cols_at e hc]
        have hp := F.g.pos c u hc e
        show _ ≤ (gf u c * pv (S0.cols (c + 1))).natAbs
        rw [Int.natAbs_mul]
        exact Nat.le_mul_of_pos_left _ (by omega), fun d s hd => Z.red d s (by omega)⟩
    by_cases q : gf x c = 0
    · rw [if_pos q, if_pos q]
      have xz2 : ∀ j, j < c + 1 → gf x j = 0 := fun j hj => by
        by_cases e : j = c
        · rw [e]
          exact q
        · exact M.xz j (by omega)
      obtain ⟨r1, r2⟩ := lay_sz n (c + 1) S x (by omega) F ⟨M.g, M.am, fun d s h1 => M.new d s (by omega), M.newI, M.xlen, M.xtru, M.xcof, M.xpos, xz2, M.xid⟩ step_up hE hβ hD z hz
      exact ⟨⟨lx, r1⟩, r2⟩
    · rw [if_neg q, if_neg q]
      cases e : S.st c with
      | none =>
        dsimp only
        refine ⟨⟨lx, trivial⟩, fun p hp => ?_⟩
        rcases mem_put hp with rfl | ⟨h1, _⟩
        · intro j
          have hs : gf (sgnR c x) j = (if 0 < gf x c then 1 else -1) * gf x j := gf_map (by split <;> rfl)
          show (gf (sgnR c x) j).natAbs ≤ _
          rw [hs]
          have := e2 j
          split <;> omega
        · exact e1 p h1
      | some s =>
        dsimp only
        have hc : c < S.w := by omega
        obtain ⟨m1, m2⟩ := Z.met F M hE hβ hc e q hz
        obtain ⟨M2, w2, _, _⟩ := M.met hc e q
        obtain ⟨r1, r2⟩ := lay_sz n (c + 1) (S.met c s x).1 (S.met c s x).2 (by rw [w2]; omega) F M2 m2 hE hβ hD z hz
        exact ⟨⟨lx, m1, r1⟩, r2⟩
theorem tidy_sz {k z : Nat} {T : Sts} (L : Lat T.w R k (vecs T.gens)) (G : Good R k T) (hk : k ≤ T.m) (hk1 : 1 ≤ k) (hE : Ent T.w k β R) (hβ : 0 < β) (hg : ∀ q ∈ T.gens, ∀ j, (gf q.2 j).natAbs ≤ G1 T.w T.m β) (hz : Zb T.w T.m β ≤ z) :
    ∀ (n c : Nat) (S : Sts), c + n = T.w → S.w = T.w → S.m = T.m → S.idle = T.idle → (∀ d, c ≤ d → S.st d = T.st d) → TidyOk z (List.range' c n) S
  | 0, c, S, _, _, _, _, _ => trivial
  | n + 1, c, S, h, h1, h2, h3, h4 => by
    show TidyOk z (c :: List.range' (c + 1) n) S
    unfold TidyOk
    split
    · exact tidy_sz L G hk hk1 hE hβ hg hz n (c + 1) S (by omega) h1 h2 h3 fun d hd => h4 d (by omega)
    · rename_i s e
      refine ⟨?_, tidy_sz L G hk hk1 hE hβ hg hz n (c + 1) (S.put c _) (by omega) h1 h2 h3 fun d hd => by
        rw [put_st, if_neg (by omega)]
        exact h4 d (by omega)⟩
      have hsT : (c, s) ∈ T.gens := mem_gens.mpr (.inl ⟨by omega, by rw [← h4 c (Nat.le_refl _)]; exact e⟩)
      have later : ∀ q ∈ S.cols (c + 1) ++ S.idle, q ∈ T.gens := fun q hq => by
        obtain ⟨d, u⟩ := q
        rcases List.mem_append.mp hq with h | h
        · obtain ⟨a1, a2, a3⟩ := mem_cols.mp h
          rw [h4 d (by omega)] at a3
          exact mem_gens.mpr (.inl ⟨by rw [← h1]; exact a2, a3⟩)
        · rw [h3] at h
          exact mem_gens.mpr (.inr h)
      have lens : (S.cols (c + 1) ++ S.idle).length ≤ T.m := by
        have e1 : S.cols (c + 1) = T.cols (c + 1) := by
          show S.colsB (c + 1) S.w = T.colsB (c + 1) T.w
          rw [h1]
          exact colsB_congr fun d hd _ => h4 d (by omega)
        have e2 : T.gens = T.colsB 0 (c + 1) ++ (T.cols (c + 1) ++ T.idle) := by
          unfold Sts.gens
          have : T.cols 0 = T.colsB 0 (c + 1) ++ T.cols (c + 1) := colsB_split (by omega) (by omega)
          rw [this, List.append_assoc]
        have e3 : T.gens.length = k := by
          have := L.len
          unfold vecs at this
          rw [List.length_map] at this
          exact this
        rw [e2, List.length_append] at e3
        rw [e1, h3]
        omega
      have gz : ∀ N, N ≤ G1 T.w T.m β → N ≤ z := fun N hN => Nat.le_trans (zb_ge (by omega) hβ hN) hz
      exact foldOk_of (P := Comb R k T) (C := fun p => ∃ r ∈ T.gens, r.1 = p) (n := G1 T.w T.m β * (1 + G1 T.w T.m β) ^ T.m) (G := G1 T.w T.m β) (fun x y k hx hy => hx.add k hy)
        (fun N v hv hN hn j => Nat.le_trans (lat_bd L hk (nLow_gens G) hE hβ hv (fun p hp => by
          obtain ⟨q, hq, rfl⟩ := vecs_mem hp
          exact hN q.1 ⟨q, hq, rfl⟩) j) (bd_le hn hz)) _ s (G1 T.w T.m β) (T.w + T.m) (G.len _ hsT)
        (fun q hq => by
          have hqT := later q hq
          exact ⟨G.len q hqT, G.piv q hqT, ⟨q, hqT, rfl⟩, G.comb hqT, fun j => gz _ (hg q hqT j), fun p _ => hg q hqT p⟩) (G.comb hsT) (fun p _ => hg _ hsT p) (Nat.mul_le_mul_left _ (pow_len lens))
theorem turn_sz {row : Row} (F : Fin R at_ S0) (hm : at_ < S0.m) (hl : row.length = S0.w) (hr : ∀ j, j < S0.w → gf row j = R at_ j) (hE : Ent S0.w (at_ + 1) β R) (hβ : 0 < β) (hD : β ≤ Dl S0.w S0.m β) {z : Nat} (hz : Zb S0.w S0.m β ≤ z) : TurnOk z S0 at_ row := by
  have M := mid_start F.g hm hl hr
  have Z := midz_start F hm hl hr hE hβ
  have er : List.range S0.w = List.range' 0 S0.w := List.range_eq_range'
  obtain ⟨l1, l2⟩ := lay_sz S0.w 0 S0 _ (by omega) F M Z hE hβ hD z hz
  have L := lay_ok S0.w 0 S0 _ (by omega) M
  unfold TurnOk
  rw [er]
  refine ⟨l1, ?_⟩
  generalize Sts.lay at_ (List.range' 0 S0.w) S0 (row ++ unit at_ S0.m) = T at *
  have hLat : Lat T.w R (at_ + 1) (vecs T.gens) := by
    refine ⟨L.g.ech (a := 0) (by omega), ?_, fun i hi => ?_, fun p hp j => ?_⟩
    · unfold vecs
      rw [List.length_map, L.cnt, F.cnt]
    · rw [L.w]
      refine L.span _ ?_
      by_cases e : i = at_
      · rw [e]
        exact (InS.mem (L := (0, gf (row ++ unit at_ S0.m)) :: vecs S0.gens) List.mem_cons_self).congr fun j => long_eq hl hm hr j
      · exact (F.span i (by omega)).sub_span fun q hq => InS.mem (List.mem_cons_of_mem _ hq)
    · obtain ⟨q, hq, rfl⟩ := vecs_mem hp
      exact L.g.back (by rw [L.m]; omega) hq j
  have := tidy_sz (z := z) hLat L.g (by rw [L.m]; omega) (by omega) (by rw [L.w]; exact hE) hβ (by rw [L.w, L.m]; exact l2) (by rw [L.w, L.m]; exact hz) T.w 0 T (by omega) rfl rfl rfl fun _ _ => rfl
  rw [L.w] at this
  exact this
theorem all_sz {z : Nat} : ∀ (rows : List Row) (at_ : Nat) (S : Sts), Fin R at_ S → at_ + rows.length = S.m → (∀ i (h : i < rows.length), rows[i].length = S.w ∧ ∀ j, j < S.w → gf rows[i] j = R (at_ + i) j) → Ent S.w S.m β R → 0 < β → β ≤ Dl S.w S.m β → Zb S.w S.m β ≤ z → AllOk z rows at_ S
  | [], at_, S, _, _, _, _, _, _, _ => trivial
  | r :: rs, at_, S, F, h, hr, hE, hβ, hD, hz => by
    have h0 := hr 0 (by simp)
    have hm : at_ < S.m := by simp at h; omega
    have t := turn_sz (z := z) (row := r) F hm h0.1 h0.2 (fun i hi => hE i (by omega)) hβ hD hz
    obtain ⟨F1, w1, m1⟩ := turn_ok (row := r) F hm h0.1 h0.2
    refine ⟨t, all_sz rs (at_ + 1) (S.turn at_ r) F1 (by rw [m1]; simp at h; omega) (fun i hi => ?_) (by rw [w1, m1]; exact hE) hβ (by rw [w1, m1]; exact hD) (by rw [w1, m1]; exact hz)⟩
    have := hr (i + 1) (by simp; omega)
    rw [w1]
    refine ⟨this.1, fun j hj => ?_⟩
    have := this.2 j hj
    rw [show at_ + 1 + i = at_ + (i + 1) by omega]
    exact this
end
theorem fin0 {w m : Nat} {R : Nat → Vec} : Fin R 0 ⟨w, m, fun _ => none, []⟩ := by
  have eg : (⟨w, m, fun _ => none, []⟩ : Sts).gens = [] := by
    unfold Sts.gens Sts.cols Sts.colsB
    have : ∀ l : List Nat, l.filterMap (fun c => Option.map (fun s => (c, s)) ((⟨w, m, fun _ => none, []⟩ : Sts).st c)) = [] := fun l => List.filterMap_eq_nil_iff.mpr fun _ _ => rfl
    rw [this]
    rfl
  have none_ : ∀ {P : Nat × Row → Prop}, ∀ q ∈ (⟨w, m, fun _ => none, []⟩ : Sts).gens, P q := fun {P} q hq => by
    rw [eg] at hq
    cases hq
  refine ⟨⟨none_, none_, none_, fun c s hc he => ?_, fun c s hc he => ?_, trivial, fun q hq => ?_⟩, fun i hi => by omega, by rw [eg]; rfl, fun d u hd he => ?_, trivial⟩
  · cases he
  · cases he
  · cases hq
  · cases he
theorem rowsR_at {rows : List Row} {i : Nat} (h : i < rows.length) : rowsR rows i = gf rows[i] := by
  unfold rowsR
  rw [List.getD_eq_getElem?_getD, List.getElem?_eq_getElem h]
  rfl
def Within (β : Nat) (rows : List Row) : Prop := ∀ r ∈ rows, ∀ j, (gf r j).natAbs ≤ β
/-- ALL NUMBERS of the making of stairs -/
theorem stairs_sz {w β z : Nat} {rows : List Row} (h : ∀ r ∈ rows, r.length = w) (hw : Within β rows) (hβ : 0 < β) (hD : β ≤ Dl w rows.length β) (hz : Zb w rows.length β ≤ z) : AllOk z rows 0 ⟨w, rows.length, fun _ => none, []⟩ :=
  all_sz (R := rowsR rows) (β := β) rows 0 ⟨w, rows.length, fun _ => none, []⟩ fin0 (by simp) (fun i hi => ⟨h _ (List.getElem_mem hi), fun j _ => by rw [Nat.zero_add, rowsR_at hi]⟩)
    (fun i hi c _ => by
      have hi2 : i < rows.length := hi
      rw [rowsR_at hi2]
      exact hw _ (List.getElem_mem hi2) c) hβ hD hz
/-- .. and of what is made -/
theorem stairs_ent {w β : Nat} {rows : List Row} (h : ∀ r ∈ rows, r.length = w) (hw : Within β rows) (hβ : 0 < β) {q : Nat × Row} (hq : q ∈ (stairs w rows).gens) (j : Nat) : (gf q.2 j).natAbs ≤ Bd w rows.length β (Dl w rows.length β) := by
  obtain ⟨F, w1, m1⟩ := stairs_ok h
  have hE : Ent (stairs w rows).w rows.length β (rowsR rows) := fun i hi c _ => by
    rw [rowsR_at hi]
    exact hw _ (List.getElem_mem hi) c
  have hk : rows.length ≤ (stairs w rows).m := by omega
  have := F.ent_bd hk hE hβ (F.g.comb hq) (N := Dl (stairs w rows).w (stairs w rows).m β) (fun p hp => F.ent_piv hk hE hβ hq hp) j
  rw [w1, m1] at this
  exact this
end Sm
/-! # A11 -/
namespace Sm
/-! ### what stairs tell, by their short rows -/
def cut (w : Nat) (v : Vec) : Vec := fun j => if j < w then v j else 0
theorem gf_take {w : Nat} {r : Row} : gf (r.take w) = cut w (gf r) := by
  funext j
  unfold gf cut
  dsimp only
  rw [List.getD_eq_getElem?_getD, List.getD_eq_getElem?_getD, List.getElem?_take]
  split <;> rfl
theorem gf_drop {w : Nat} {r : Row} (j : Nat) : gf (r.drop w) j = gf r (w + j) := by
  unfold gf
  rw [List.getD_eq_getElem?_getD, List.getD_eq_getElem?_getD, List.getElem?_drop]
def cutL (w : Nat) (L : List (Nat × Vec)) : List (Nat × Vec) := L.map fun q => (q.1, cut w q.2)
theorem cut_lin {w : Nat} {x y : Vec} {k : Int} : (cut w fun j => x j + k * y j) = fun j => cut w x j + k * cut w y j := by
  funext j
  unfold cut
  dsimp only
  split
  · rfl
  · simp
theorem InS.cut {w : Nat} : ∀ {L : List (Nat × Vec)} {x : Vec}, InS L x → InS (cutL w L) (cut w x)
  | [], x, h => fun j => by
    unfold Sm.cut
    split
    · exact h j
    · rfl
  | q :: L, x, ⟨k, h⟩ => by
    have ih := InS.cut (w := w) h
    refine ⟨k, ih.congr fun j => ?_⟩
    unfold Sm.cut
    dsimp only
    split
    · rfl
    · simp
theorem reds_cut {w : Nat} : ∀ {L : List (Nat × Vec)} {x : Vec}, (∀ q ∈ L, q.1 < w) → cut w (reds L x) = reds (cutL w L) (cut w x)
  | [], _, _ => rfl
  | q :: L, x, h => by
    have hq := h q List.mem_cons_self
    show cut w (reds L (red x q)) = reds (cutL w L) (red (cut w x) (q.1, cut w q.2))
    rw [reds_cut fun p hp => h p (List.mem_cons_of_mem _ hp)]
    congr 1
    funext j
    unfold red cut
    dsimp only
    rw [if_pos hq, if_pos hq]
    split
    · rfl
    · simp
theorem reds_null {w : Nat} : ∀ {L : List (Nat × Vec)} {x : Vec}, (∀ q ∈ L, ∀ j, j < w → q.2 j = 0) → cut w (reds L x) = cut w x
  | [], _, _ => rfl
  | q :: L, x, h => by
    show cut w (reds L (red x q)) = cut w x
    rw [reds_null fun p hp => h p (List.mem_cons_of_mem _ hp)]
    funext j
    unfold red cut
    split
    · rename_i hj
      dsimp only
      rw [h q List.mem_cons_self j hj]
      simp
    · rfl
theorem reds_append {L M : List (Nat × Vec)} {x : Vec} : reds (L ++ M) x = reds M (reds L x) := List.foldl_append
theorem ech_cut {w : Nat} : ∀ {L : List (Nat × Vec)}, Ech L → (∀ q ∈ L, q.1 < w) → Ech (cutL w L)
  | [], _, _ => trivial
  | q :: L, ⟨h1, h2, h3⟩, h => by
    have hq := h q List.mem_cons_self
    refine ⟨by show 0 < cut w q.2 q.1; unfold cut; rw [if_pos hq]; exact h1, fun p hp => ?_, ech_cut h3 fun p hp => h p (List.mem_cons_of_mem _ hp)⟩
    obtain ⟨r, hr, rfl⟩ := List.mem_map.mp hp
    show cut w r.2 q.1 = 0
    unfold cut
    rw [if_pos hq]
    exact h2 r hr
/-- the short steps -/
def Sts.sp (S : Sts) : List (Nat × Vec) := cutL S.w (vecs (S.cols 0))
/-- combined of the first m of some vectors -/
def Cmb (m : Nat) (R : Nat → Vec) (v : Vec) : Prop := ∃ z : Nat → Int, ∀ j, v j = sm m fun i => z i * R i j
theorem cols_lt {S : Sts} : ∀ q ∈ vecs (S.cols 0), q.1 < S.w := fun p hp => by
  obtain ⟨⟨c, s⟩, hq, rfl⟩ := vecs_mem hp
  exact (mem_cols.mp hq).2.1
section
variable {R : Nat → Vec} {S : Sts}
theorem Fin.sp_ech {k : Nat} (F : Fin R k S) : Ech S.sp := by
  have h := F.g.ech (a := 0) (by omega)
  rw [vecs_append] at h
  exact ech_cut (ech_append.mp h).1 cols_lt
theorem Fin.sp_mem {k : Nat} (F : Fin R k S) {v : Vec} (h : InS (vecs S.gens) v) : InS S.sp (cut S.w v) := by
  have h1 := InS.cut (w := S.w) h
  refine h1.sub_span fun p hp => ?_
  obtain ⟨r, hr, rfl⟩ := List.mem_map.mp hp
  obtain ⟨q, hq, rfl⟩ := vecs_mem hr
  rcases List.mem_append.mp hq with h2 | h2
  · exact InS.mem (List.mem_map.mpr ⟨(q.1, gf q.2), mem_vecs h2, rfl⟩)
  · refine (InS.zero (L := S.sp)).congr fun j => ?_
    show 0 = cut S.w (gf q.2) j
    unfold cut
    split
    · rename_i hj
      exact ((F.g.idw q h2).1 j hj).symm
    · rfl
/-- the steps span just what is combined of the rows -/
theorem Fin.sp_iff (F : Fin R S.m S) (hR : ∀ i, i < S.m → ∀ j, S.w ≤ j → R i j = 0) {v : Vec} : InS S.sp v ↔ Cmb S.m R v := by
  constructor
  · intro h
    refine InS.closed (P := Cmb S.m R) ⟨fun _ => 0, fun j => (sm_zero fun _ _ => by simp).symm⟩ (fun x y k ⟨a, ha⟩ ⟨b, hb⟩ => ⟨fun i => a i + k * b i, fun j => ?_⟩) (fun p hp => ?_) h
    · show x j + k * y j = _
      rw [ha j, hb j, ← sm_mul, ← sm_add]
      exact sm_congr fun i _ => by grind
    · obtain ⟨r, hr, rfl⟩ := List.mem_map.mp hp
      obtain ⟨q, hq, rfl⟩ := vecs_mem hr
      refine ⟨fun i => gf q.2 (S.w + i), fun j => ?_⟩
      show cut S.w (gf q.2) j = _
      unfold cut
      split
      · rename_i hj
        exact F.g.tru q (List.mem_append.mpr (.inl hq)) j hj
      · rename_i hj
        exact (sm_zero fun i hi => by rw [hR i hi j (by omega)]; simp).symm
  · rintro ⟨z, hz⟩
    have key : ∀ n, n ≤ S.m → InS S.sp fun j => sm n fun i => z i * R i j := by
      intro n
      induction n with
      | zero => exact fun _ => InS.zero
      | succ n ih =>
        intro hn
        have h1 := (F.sp_mem (F.span n (by omega))).mul (z n)
        refine ((ih (by omega)).add h1).congr fun j => ?_
        show _ + z n * cut S.w (unitV S.w R n) j = _ + z n * R n j
        congr 2
        unfold cut unitV
        split
        · rfl
        · rename_i hj
          exact (hR n (by omega) j (by omega)).symm
    exact (key S.m (Nat.le_refl _)).congr fun j => (hz j).symm
/-- a row less whole steps -/
def Sts.rest (S : Sts) (row : Row) : Row := (S.tidied (row ++ List.replicate S.m 0) 0).take S.w
theorem gf_pad {row : Row} {n : Nat} : gf (row ++ List.replicate n 0) = gf row := by
  funext j
  rw [gf_append]
  split
  · rfl
  · rename_i h
    rw [gf_out (r := row) (by omega)]
    unfold gf
    rw [List.getD_eq_getElem?_getD, List.getElem?_replicate]
    split <;> rfl
theorem Fin.tid0 {k : Nat} (F : Fin R k S) {row : Row} (h : row.length = S.w) : Tid S (row ++ List.replicate S.m 0) (S.tidied (row ++ List.replicate S.m 0) 0) 0 :=
  F.g.tid (by rw [List.length_append, List.length_replicate, h]) (by omega)
theorem Fin.gf_rest {k : Nat} (F : Fin R k S) {row : Row} (h : row.length = S.w) : gf (S.rest row) = reds S.sp (gf row) := by
  unfold Sts.rest
  rw [gf_take, (F.tid0 h).eq, vecs_append, reds_append, reds_null fun p hp j hj => by
    obtain ⟨q, hq, rfl⟩ := vecs_mem hp
    exact (F.g.idw q hq).1 j hj, reds_cut cols_lt, gf_pad]
  congr 1
  funext j
  unfold cut
  split
  · rfl
  · exact (gf_out (by omega)).symm
theorem Fin.rest_len {k : Nat} (F : Fin R k S) {row : Row} (h : row.length = S.w) : (S.rest row).length = S.w := by
  unfold Sts.rest
  rw [List.length_take, (F.tid0 h).len]
  omega
/-- nothing is left just of what is combined of the rows -/
theorem Fin.rest_zero (F : Fin R S.m S) (hR : ∀ i, i < S.m → ∀ j, S.w ≤ j → R i j = 0) {row : Row} (h : row.length = S.w) : (∀ j, gf (S.rest row) j = 0) ↔ Cmb S.m R (gf row) := by
  rw [F.gf_rest h, ← F.sp_iff hR]
  exact (reds_zero F.sp_ech).symm
theorem Fin.rest_diff {k : Nat} (F : Fin R k S) {row : Row} (h : row.length = S.w) : InS S.sp fun j => gf row j - gf (S.rest row) j := by
  rw [F.gf_rest h]
  exact reds_diff
/-- the times: less what stands behind -/
def Sts.timesOf (S : Sts) (row : Row) : Row := ((S.tidied (row ++ List.replicate S.m 0) 0).drop S.w).map fun n => -n
theorem Fin.times_ok (F : Fin R S.m S) {row : Row} (h : row.length = S.w) (hz : ∀ j, gf (S.rest row) j = 0) : (S.timesOf row).length = S.m ∧ ∀ c, c < S.w → gf row c = sm S.m fun i => gf (S.timesOf row) i * R i c := by
  have T := F.tid0 h
  refine ⟨?_, fun c hc => ?_⟩
  · unfold Sts.timesOf
    rw [List.length_map, List.length_drop, T.len]
    omega
  · -- the difference is true
    have d : Tru S.w S.m R fun j => gf (row ++ List.replicate S.m 0) j - gf (S.tidied (row ++ List.replicate S.m 0) 0) j := InS.closed (P := Tru S.w S.m R) tru_zero (fun _ _ _ => tru_add _ _ _) (fun p hp => by
      obtain ⟨q, hq, rfl⟩ := vecs_mem hp
      exact F.g.tru q hq) T.diff
    have e := d c hc
    rw [gf_pad] at e
    dsimp only at e
    have z0 : gf (S.tidied (row ++ List.replicate S.m 0) 0) c = 0 := by
      have := hz c
      unfold Sts.rest at this
      rw [gf_take] at this
      unfold cut at this
      rw [if_pos hc] at this
      exact this
    rw [z0] at e
    have e2 : gf row c = gf row c - 0 := by omega
    rw [e2, e]
    refine sm_congr fun i _ => ?_
    have h1 : gf row (S.w + i) = 0 := gf_out (by omega)
    have h2 : gf (S.timesOf row) i = - gf (S.tidied (row ++ List.replicate S.m 0) 0) (S.w + i) := by
      unfold Sts.timesOf
      rw [gf_map rfl, gf_drop]
    rw [h1, h2]
    simp
end
/-! ### the steps as a list of rows -/
theorem steps_len {S : Sts} : S.steps.length = (S.cols 0).length := by unfold Sts.steps; rw [List.length_map]
theorem sp_len {S : Sts} : S.sp.length = (S.cols 0).length := by unfold Sts.sp cutL vecs; rw [List.length_map, List.length_map]
theorem steps_at {S : Sts} {i : Nat} (h : i < (S.cols 0).length) : gf (S.steps.getD i []) = rowAt S.sp i := by
  unfold Sts.steps rowAt Sts.sp cutL vecs
  rw [List.getD_eq_getElem?_getD, List.getElem?_map, List.getElem?_map, List.getElem?_map, List.getElem?_eq_getElem h]
  exact gf_take
theorem steps_rows {S : Sts} {k : Nat} {R : Nat → Vec} (F : Fin R k S) : ∀ r ∈ S.steps, r.length = S.w := fun r hr => by
  obtain ⟨q, hq, rfl⟩ := List.mem_map.mp hr
  have := F.g.len q (List.mem_append.mpr (.inl hq))
  rw [List.length_take, this]
  omega
theorem rowsR_out {rows : List Row} {w : Nat} (h : ∀ r ∈ rows, r.length = w) : ∀ i, i < rows.length → ∀ j, w ≤ j → rowsR rows i j = 0 := fun i hi j hj => by
  rw [rowsR_at hi]
  exact gf_out (by rw [h _ (List.getElem_mem hi)]; exact hj)
/-- what is combined of the steps is combined of the rows -/
theorem cmb_steps {w : Nat} {rows : List Row} (h : ∀ r ∈ rows, r.length = w) {v : Vec} : Cmb (stairs w rows).steps.length (rowsR (stairs w rows).steps) v ↔ Cmb rows.length (rowsR rows) v := by
  obtain ⟨F, w1, m1⟩ := stairs_ok h
  have F' : Fin (rowsR rows) (stairs w rows).m (stairs w rows) := by rw [m1]; exact F
  have hR : ∀ i, i < (stairs w rows).m → ∀ j, (stairs w rows).w ≤ j → rowsR rows i j = 0 := by rw [m1, w1]; exact rowsR_out h
  have key := F'.sp_iff hR (v := v)
  rw [m1] at key
  rw [← key]
  constructor
  · rintro ⟨z, hz⟩
    have : ∀ n, n ≤ (stairs w rows).steps.length → InS (stairs w rows).sp fun j => sm n fun i => z i * rowsR (stairs w rows).steps i j := by
      intro n
      induction n with
      | zero => exact fun _ => InS.zero
      | succ n ih =>
        intro hn
        have hn2 : n < ((stairs w rows).cols 0).length := by rw [← steps_len]; omega
        have hn3 : n < (stairs w rows).sp.length := by rw [sp_len]; exact hn2
        have e : rowsR (stairs w rows).steps n = rowAt (stairs w rows).sp n := steps_at hn2
        have e2 : rowAt (stairs w rows).sp n = ((stairs w rows).sp[n]).2 := by unfold rowAt; rw [List.getElem?_eq_getElem hn3]
        have h1 := (InS.mem (List.getElem_mem hn3)).mul (z n)
        rw [← e2, ← e] at h1
        exact (ih (by omega)).add h1
    exact (this _ (Nat.le_refl _)).congr fun j => (hz j).symm
  · intro h1
    obtain ⟨y, hy⟩ := h1.coef
    refine ⟨y, fun j => ?_⟩
    rw [hy _ (by rw [sp_len, ← steps_len]; exact Nat.le_refl _) j]
    refine sm_congr fun i hi => ?_
    rw [show rowsR (stairs w rows).steps i = rowAt (stairs w rows).sp i from steps_at (by rw [← steps_len]; exact hi)]
end Sm
/-! # A12 -/
namespace Sm
/-! ### weights -/
def turned (rows : List Row) (w : Nat) : List Row := (List.range w).map fun a => rows.map fun row => row.getD a 0
def woven (t : Row) (W : List Row) (n : Nat) : Row := (t.zip W).foldl (fun tot p => mixed 1 tot p.1 p.2) (List.replicate n 0)
def dot (n : Nat) (f x : Vec) : Int := sm n fun l => f l * x l
theorem turned_len {rows : List Row} {w : Nat} : (turned rows w).length = w := by unfold turned; simp
theorem turned_rows {rows : List Row} {w : Nat} : ∀ r ∈ turned rows w, r.length = rows.length := fun r hr => by
  obtain ⟨a, _, rfl⟩ := List.mem_map.mp hr
  simp
theorem turned_at {rows : List Row} {w a : Nat} (h : a < w) (c : Nat) : rowsR (turned rows w) a c = rowsR rows c a := by
  have e : (turned rows w)[a]'(by rw [turned_len]; exact h) = rows.map fun row => row.getD a 0 := by
    unfold turned
    rw [List.getElem_map, List.getElem_range]
  rw [rowsR_at (by rw [turned_len]; exact h), e]
  unfold rowsR gf
  rw [List.getD_eq_getElem?_getD, List.getElem?_map, List.getD_eq_getElem?_getD (l := rows)]
  cases rows[c]? with
  | none => rfl
  | some r => rfl
theorem woven_go {n : Nat} : ∀ (t : Row) (W : List Row) (tot : Row), t.length = W.length → (∀ r ∈ W, r.length = n) → tot.length = n →
    ((t.zip W).foldl (fun tot p => mixed 1 tot p.1 p.2) tot).length = n ∧ ∀ j, gf ((t.zip W).foldl (fun tot p => mixed 1 tot p.1 p.2) tot) j = gf tot j + sm W.length fun i => gf t i * rowsR W i j
  | [], [], tot, _, _, h => ⟨h, fun j => by simp [sm]⟩
  | [], _ :: _, _, h, _, _ => by simp at h
  | _ :: _, [], _, h, _, _ => by simp at h
  | a :: t, r :: W, tot, h, hr, ht => by
    have hr0 := hr r List.mem_cons_self
    have ih := woven_go t W (mixed 1 tot a r) (by simpa using h) (fun q hq => hr q (List.mem_cons_of_mem _ hq)) (by rw [mixed_len (by rw [ht, hr0]), ht])
    refine ⟨ih.1, fun j => ?_⟩
    have := ih.2 j
    rw [List.zip_cons_cons, List.foldl_cons, this, gf_mixed (by rw [ht, hr0]), List.length_cons, sm_front]
    show 1 * gf tot j + a * gf r j + _ = gf tot j + (a * gf r j + _)
    have e : (sm W.length fun i => gf t i * rowsR W i j) = sm W.length fun i => gf (a :: t) (i + 1) * rowsR (r :: W) (i + 1) j := rfl
    rw [e]
    omega
theorem gf_zeros {n j : Nat} : gf (List.replicate n 0) j = 0 := by
  unfold gf
  rw [List.getD_eq_getElem?_getD, List.getElem?_replicate]
  split <;> rfl
theorem woven_len {t : Row} {W : List Row} {n : Nat} (h : t.length = W.length) (hr : ∀ r ∈ W, r.length = n) : (woven t W n).length = n := (woven_go t W _ h hr (by simp)).1
theorem gf_woven {t : Row} {W : List Row} {n : Nat} (h : t.length = W.length) (hr : ∀ r ∈ W, r.length = n) (j : Nat) : gf (woven t W n) j = sm W.length fun i => gf t i * rowsR W i j := by
  have := (woven_go t W (List.replicate n 0) h hr (by simp)).2 j
  rw [gf_zeros] at this
  unfold woven
  rw [this]
  omega
theorem dot_woven {t : Row} {W : List Row} {n : Nat} (h : t.length = W.length) (hr : ∀ r ∈ W, r.length = n) {x : Vec} : dot n (gf (woven t W n)) x = sm W.length fun i => gf t i * dot n (rowsR W i) x := by
  unfold dot
  have e : (sm n fun l => gf (woven t W n) l * x l) = sm n fun l => sm W.length fun i => gf t i * (rowsR W i l * x l) := sm_congr fun l _ => by
    rw [gf_woven h hr, ← sm_mulr]
    exact sm_congr fun i _ => by grind
  rw [e, sm_swap]
  exact sm_congr fun i _ => sm_mul
/-! ### independence -/
theorem InS.of_coef : ∀ (L : List (Nat × Vec)) (y : Nat → Int), InS L fun j => sm L.length fun i => y i * rowAt L i j
  | [], y => fun j => rfl
  | q :: L, y => by
    refine ⟨y 0, (InS.of_coef L fun i => y (i + 1)).congr fun j => ?_⟩
    dsimp only
    rw [List.length_cons, sm_front]
    show _ = y 0 * q.2 j + (sm L.length fun i => y (i + 1) * rowAt L i j) - y 0 * q.2 j
    omega
theorem ech_indep : ∀ {L : List (Nat × Vec)} {y : Nat → Int}, Ech L → (∀ j, (sm L.length fun i => y i * rowAt L i j) = 0) → ∀ i, i < L.length → y i = 0
  | [], _, _, _, i, h => by simp at h
  | q :: L, y, ⟨e1, e2, e3⟩, hz, i, hi => by
    have split : ∀ j, y 0 * q.2 j + (sm L.length fun i => y (i + 1) * rowAt L i j) = 0 := fun j => by
      have := hz j
      rw [List.length_cons, sm_front] at this
      exact this
    have h0 : y 0 = 0 := by
      have h1 := split q.1
      have h2 : (sm L.length fun i => y (i + 1) * rowAt L i q.1) = 0 := InS.at_zero e2 (InS.of_coef L fun i => y (i + 1))
      rw [h2] at h1
      have h3 : y 0 * q.2 q.1 = 0 := by omega
      rcases Int.mul_eq_zero.mp h3 with z | z
      · exact z
      · omega
    cases i with
    | zero => exact h0
    | succ i =>
      refine ech_indep (y := fun i => y (i + 1)) e3 (fun j => ?_) i (by simpa using hi)
      have := split j
      rw [h0] at this
      omega
/-! ### one round of levelling -/
def RS (rows : List Row) (n : Nat) (v : Vec) : Prop := ∃ z : Nat → Int, ∀ i, i < n → v i = sm rows.length fun j => z j * rowsR rows j i
theorem rs_cmb {rows : List Row} {n : Nat} (h : ∀ r ∈ rows, r.length = n) {v : Vec} : RS rows n v ↔ Cmb rows.length (rowsR rows) (cut n v) := by
  constructor
  · rintro ⟨z, hz⟩
    refine ⟨z, fun j => ?_⟩
    unfold cut
    split
    · rename_i hj
      exact hz j hj
    · rename_i hj
      exact (sm_zero fun i hi => by rw [rowsR_out h i hi j (by omega)]; simp).symm
  · rintro ⟨z, hz⟩
    refine ⟨z, fun i hi => ?_⟩
    have := hz i
    unfold cut at this
    rw [if_pos hi] at this
    exact this
def Mem (n : Nat) (W Fr rows : List Row) (x : Vec) : Prop := (∀ f ∈ Fr, dot n (gf f) x = 0) ∧ RS rows W.length fun i => dot n (rowsR W i) x
def lvRound (n : Nat) (W Fr rows : List Row) : List Row × List Row × List Row :=
  let up := stairs rows.length (turned rows W.length)
  let W' := up.stepTimes.map fun t => woven t W n
  (W', Fr ++ up.idleTimes.map (fun t => woven t W n), (stairs W'.length (turned up.steps rows.length)).steps)
section
variable {n : Nat} {W Fr rows : List Row}
abbrev Up (W rows : List Row) : Sts := stairs rows.length (turned rows W.length)
theorem up_fin : Fin (rowsR (turned rows W.length)) W.length (Up W rows) ∧ (Up W rows).w = rows.length ∧ (Up W rows).m = W.length := by
  have := stairs_ok (w := rows.length) (rows := turned rows W.length) turned_rows
  rw [turned_len] at this
  exact this
theorem up_len {q : Nat × Row} (hq : q ∈ (Up W rows).gens) : (q.2.drop rows.length).length = W.length := by
  obtain ⟨F, w1, m1⟩ := up_fin (W := W) (rows := rows)
  rw [List.length_drop, F.g.len q hq, w1, m1]
  omega
def tau (k : Nat) (W : List Row) (n : Nat) (x : Vec) (u : Vec) : Int := sm W.length fun i => u (k + i) * dot n (rowsR W i) x
theorem dot_times (hW : ∀ r ∈ W, r.length = n) {q : Nat × Row} (hq : q ∈ (Up W rows).gens) {x : Vec} : dot n (gf (woven (q.2.drop rows.length) W n)) x = tau rows.length W n x (gf q.2) := by
  rw [dot_woven (up_len hq) hW]
  exact sm_congr fun i _ => by rw [gf_drop]
theorem lv_W : (lvRound n W Fr rows).1 = ((Up W rows).cols 0).map fun q => woven (q.2.drop rows.length) W n := by
  have w1 := (up_fin (W := W) (rows := rows)).2.1
  show ((Up W rows).stepTimes.map fun t => woven t W n) = _
  unfold Sts.stepTimes
  rw [List.map_map, w1]
  rfl
theorem lv_F : (lvRound n W Fr rows).2.1 = Fr ++ (Up W rows).idle.map fun q => woven (q.2.drop rows.length) W n := by
  have w1 := (up_fin (W := W) (rows := rows)).2.1
  show Fr ++ ((Up W rows).idleTimes.map fun t => woven t W n) = _
  unfold Sts.idleTimes
  rw [List.map_map, w1]
  rfl
theorem lv_Wlen : (lvRound n W Fr rows).1.length = ((Up W rows).cols 0).length := by rw [lv_W, List.length_map]
theorem lv_rows : (lvRound n W Fr rows).2.2 = (stairs (lvRound n W Fr rows).1.length (turned (Up W rows).steps rows.length)).steps := rfl
theorem map_at {α : Type} {l : List α} {f : α → Row} {i : Nat} (h : i < l.length) : rowsR (l.map f) i = gf (f l[i]) := by
  rw [rowsR_at (by rw [List.length_map]; exact h), List.getElem_map]
theorem RS.congr {n : Nat} {u v : Vec} (h : ∀ i, i < n → u i = v i) : RS rows n u ↔ RS rows n v := by
  constructor
  · rintro ⟨z, hz⟩
    exact ⟨z, fun i hi => by rw [← h i hi]; exact hz i hi⟩
  · rintro ⟨z, hz⟩
    exact ⟨z, fun i hi => by rw [h i hi]; exact hz i hi⟩
/-- the round changes nothing of what is a member -/
theorem lv_mem (hW : ∀ r ∈ W, r.length = n) (hr : ∀ r ∈ rows, r.length = W.length) {x : Vec} : Mem n (lvRound n W Fr rows).1 (lvRound n W Fr rows).2.1 (lvRound n W Fr rows).2.2 x ↔ Mem n W Fr rows x := by
  obtain ⟨F, w1, m1⟩ := up_fin (W := W) (rows := rows)
  unfold Mem
  -- the second stairs: what is combined of the turned steps
  have hts : ∀ r ∈ turned (Up W rows).steps rows.length, r.length = (lvRound n W Fr rows).1.length := fun r hr => by
    rw [turned_rows r hr, steps_len, lv_Wlen]
  have e1 : RS (lvRound n W Fr rows).2.2 (lvRound n W Fr rows).1.length (fun i => dot n (rowsR (lvRound n W Fr rows).1 i) x) ↔ RS (turned (Up W rows).steps rows.length) (lvRound n W Fr rows).1.length (fun i => dot n (rowsR (lvRound n W Fr rows).1 i) x) := by
    rw [rs_cmb hts, rs_cmb (rows := (lvRound n W Fr rows).2.2) (fun r hr2 => by
      rw [lv_rows] at hr2
      have := steps_rows (stairs_ok hts).1 r hr2
      rw [this, (stairs_ok hts).2.1]), lv_rows]
    exact cmb_steps hts
  have e2 : RS (turned (Up W rows).steps rows.length) (lvRound n W Fr rows).1.length (fun i => dot n (rowsR (lvRound n W Fr rows).1 i) x) ↔ ∃ z : Nat → Int, ∀ q ∈ (Up W rows).cols 0, tau rows.length W n x (gf q.2) = sm rows.length fun c => z c * gf q.2 c := by
    have at_ : ∀ i (hi : i < ((Up W rows).cols 0).length) (z : Nat → Int), (dot n (rowsR (lvRound n W Fr rows).1 i) x = sm rows.length fun j => z j * rowsR (turned (Up W rows).steps rows.length) j i) ↔ tau rows.length W n x (gf ((Up W rows).cols 0)[i].2) = sm rows.length fun c => z c * gf ((Up W rows).cols 0)[i].2 c := fun i hi z => by
      have h1 : dot n (rowsR (lvRound n W Fr rows).1 i) x = tau rows.length W n x (gf ((Up W rows).cols 0)[i].2) := by
        rw [lv_W, map_at hi]
        exact dot_times hW (List.mem_append.mpr (.inl (List.getElem_mem hi)))
      have h2 : (sm rows.length fun j => z j * rowsR (turned (Up W rows).steps rows.length) j i) = sm rows.length fun c => z c * gf ((Up W rows).cols 0)[i].2 c := sm_congr fun c hc => by
        rw [turned_at hc]
        have h3 : rowsR (Up W rows).steps i = rowAt (Up W rows).sp i := steps_at hi
        have h4 : rowAt (Up W rows).sp i = cut (Up W rows).w (gf ((Up W rows).cols 0)[i].2) := by
          unfold rowAt Sts.sp cutL vecs
          rw [List.getElem?_map, List.getElem?_map, List.getElem?_eq_getElem hi]
          rfl
        rw [h3, h4]
        unfold cut
        rw [w1, if_pos hc]
      rw [h1, h2]
    unfold RS
    rw [turned_len]
    constructor
    · rintro ⟨z, hz⟩
      refine ⟨z, fun q hq => ?_⟩
      obtain ⟨i, hi, rfl⟩ := List.mem_iff_getElem.mp hq
      exact (at_ i hi z).mp (hz i (by rw [lv_Wlen]; exact hi))
    · rintro ⟨z, hz⟩
      refine ⟨z, fun i hi => ?_⟩
      rw [lv_Wlen] at hi
      exact (at_ i hi z).mpr (hz _ (List.getElem_mem hi))
  have idle0 : ∀ q ∈ (Up W rows).idle, ∀ z : Nat → Int, (sm rows.length fun c => z c * gf q.2 c) = 0 := fun q hq z => sm_zero fun c hc => by
    rw [(F.g.idw q hq).1 c (by rw [w1]; exact hc)]
    simp
  rw [e1, e2, lv_F]
  constructor
  · rintro ⟨h1, z, hz⟩
    refine ⟨fun f hf => h1 f (List.mem_append.mpr (.inl hf)), z, fun i hi => ?_⟩
    -- a linear form that is nothing at all rows is nothing at the i-th long row
    have P := InS.closed (P := fun u => tau rows.length W n x u - sm rows.length (fun c => z c * u c) = 0) (by
        show tau rows.length W n x (fun _ => 0) - sm rows.length (fun c => z c * 0) = 0
        unfold tau
        rw [sm_zero fun _ _ => by simp, sm_zero fun _ _ => by simp]
        rfl) (fun u v k hu hv => by
        show tau rows.length W n x (fun j => u j + k * v j) - sm rows.length (fun c => z c * (u c + k * v c)) = 0
        have a1 : tau rows.length W n x (fun j => u j + k * v j) = tau rows.length W n x u + k * tau rows.length W n x v := by
          unfold tau
          rw [← sm_mul, ← sm_add]
          exact sm_congr fun i _ => by grind
        have a2 : sm rows.length (fun c => z c * (u c + k * v c)) = sm rows.length (fun c => z c * u c) + k * sm rows.length (fun c => z c * v c) := by
          rw [← sm_mul, ← sm_add]
          exact sm_congr fun i _ => by grind
        have hu2 : tau rows.length W n x u - sm rows.length (fun c => z c * u c) = 0 := hu
        have hv2 : tau rows.length W n x v - sm rows.length (fun c => z c * v c) = 0 := hv
        rw [a1, a2]
        have : tau rows.length W n x v = sm rows.length fun c => z c * v c := by omega
        rw [this]
        omega) (fun p hp => by
        obtain ⟨q, hq, rfl⟩ := vecs_mem hp
        show tau rows.length W n x (gf q.2) - _ = 0
        rcases List.mem_append.mp hq with h2 | h2
        · rw [hz q h2]
          dsimp only
          omega
        · have h3 := h1 (woven (q.2.drop rows.length) W n) (List.mem_append.mpr (.inr (List.mem_map.mpr ⟨q, h2, rfl⟩)))
          rw [dot_times hW hq] at h3
          rw [h3, idle0 q h2 z]
          rfl) (F.span i hi)
    have a3 : tau rows.length W n x (unitV (Up W rows).w (rowsR (turned rows W.length)) i) = dot n (rowsR W i) x := by
      unfold tau
      rw [sm_one (f := fun l => unitV (Up W rows).w (rowsR (turned rows W.length)) i (rows.length + l) * dot n (rowsR W l) x) hi fun l _ ne => by
        have : unitV (Up W rows).w (rowsR (turned rows W.length)) i (rows.length + l) = 0 := by unfold unitV; rw [w1, if_neg (by omega), if_neg (by omega)]
        rw [this, Int.zero_mul]]
      have : unitV (Up W rows).w (rowsR (turned rows W.length)) i (rows.length + i) = 1 := by unfold unitV; rw [w1, if_neg (by omega), if_pos rfl]
      rw [this, Int.one_mul]
    have a4 : (sm rows.length fun c => z c * unitV (Up W rows).w (rowsR (turned rows W.length)) i c) = sm rows.length fun j => z j * rowsR rows j i := sm_congr fun c hc => by
      unfold unitV
      rw [w1, if_pos hc, turned_at hi]
    have P2 : tau rows.length W n x (unitV (Up W rows).w (rowsR (turned rows W.length)) i) - sm rows.length (fun c => z c * unitV (Up W rows).w (rowsR (turned rows W.length)) i c) = 0 := P
    rw [a3, a4] at P2
    show dot n (rowsR W i) x = _
    omega
  · rintro ⟨h1, z, hz⟩
    have key : ∀ q ∈ (Up W rows).gens, tau rows.length W n x (gf q.2) = sm rows.length fun c => z c * gf q.2 c := fun q hq => by
      unfold tau
      have b1 : (sm W.length fun i => gf q.2 (rows.length + i) * dot n (rowsR W i) x) = sm W.length fun i => sm rows.length fun c => z c * (gf q.2 (rows.length + i) * rowsR (turned rows W.length) i c) := sm_congr fun i hi => by
        have hz2 : dot n (rowsR W i) x = sm rows.length fun j => z j * rowsR rows j i := hz i hi
        rw [hz2, ← sm_mul]
        exact sm_congr fun c _ => by rw [turned_at hi]; grind
      rw [b1, sm_swap]
      refine sm_congr fun c hc => ?_
      rw [sm_mul]
      congr 1
      have := F.g.tru q hq c (by rw [w1]; exact hc)
      rw [w1, m1] at this
      exact this.symm
    refine ⟨fun f hf => ?_, z, fun q hq => key q (List.mem_append.mpr (.inl hq))⟩
    rcases List.mem_append.mp hf with h2 | h2
    · exact h1 f h2
    · obtain ⟨q, hq, rfl⟩ := List.mem_map.mp h2
      have hg : q ∈ (Up W rows).gens := List.mem_append.mpr (.inr hq)
      rw [dot_times hW hg, key q hg, idle0 q hq z]
/-- all weighs can be had -/
def Sur (n : Nat) (G : List Row) : Prop := ∀ u : Nat → Int, ∃ x : Vec, ∀ i, i < G.length → dot n (rowsR G i) x = u i
theorem rowsR_append {A B : List Row} {i : Nat} : rowsR (A ++ B) i = if i < A.length then rowsR A i else rowsR B (i - A.length) := by
  unfold rowsR
  rw [List.getD_eq_getElem?_getD, List.getD_eq_getElem?_getD, List.getD_eq_getElem?_getD, List.getElem?_append]
  split <;> rfl
theorem lv_sur (hW : ∀ r ∈ W, r.length = n) (hs : Sur n (W ++ Fr)) : Sur n ((lvRound n W Fr rows).1 ++ (lvRound n W Fr rows).2.1) := by
  obtain ⟨F, w1, m1⟩ := up_fin (W := W) (rows := rows)
  intro u
  have L := F.lat (by omega)
  have hlen : (vecs (Up W rows).gens).length = W.length := L.len
  -- the coefficients of the long rows
  have hy : ∀ i, ∃ y : Nat → Int, i < W.length → ∀ j, unitV (Up W rows).w (rowsR (turned rows W.length)) i j = sm W.length fun p => y p * rowAt (vecs (Up W rows).gens) p j := fun i => by
    by_cases hi : i < W.length
    · obtain ⟨y, h⟩ := (F.span i hi).coef
      exact ⟨y, fun _ j => h _ (by rw [hlen]; exact Nat.le_refl _) j⟩
    · exact ⟨fun _ => 0, fun h => absurd h hi⟩
  obtain ⟨Y, hY⟩ : ∃ Y : Nat → Nat → Int, ∀ i, i < W.length → ∀ j, unitV (Up W rows).w (rowsR (turned rows W.length)) i j = sm W.length fun p => Y i p * rowAt (vecs (Up W rows).gens) p j := ⟨fun i => Classical.choose (hy i), fun i => Classical.choose_spec (hy i)⟩
  let a := ((Up W rows).cols 0).length
  let tgt : Nat → Int := fun p => if p < a then u p else u (Fr.length + p)
  obtain ⟨x, hx⟩ := hs fun i => if i < W.length then sm W.length fun p => Y i p * tgt p else u (a + (i - W.length))
  have xW : ∀ i, i < W.length → dot n (rowsR W i) x = sm W.length fun p => Y i p * tgt p := fun i hi => by
    have := hx i (by rw [List.length_append]; omega)
    rw [rowsR_append, if_pos hi, if_pos hi] at this
    exact this
  have xF : ∀ i, i < Fr.length → dot n (rowsR Fr i) x = u (a + i) := fun i hi => by
    have := hx (W.length + i) (by rw [List.length_append]; omega)
    rw [rowsR_append, if_neg (by omega), if_neg (by omega), show W.length + i - W.length = i by omega] at this
    exact this
  have gl : (Up W rows).gens.length = W.length := F.cnt
  have xT : ∀ p (hp : p < (Up W rows).gens.length), tau rows.length W n x (gf (Up W rows).gens[p].2) = tgt p := fun p hp => by
    have rp : rowAt (vecs (Up W rows).gens) p = gf (Up W rows).gens[p].2 := by
      unfold rowAt vecs
      rw [List.getElem?_map, List.getElem?_eq_getElem hp]
      rfl
    have hgp : (Up W rows).gens[p] ∈ (Up W rows).gens := List.getElem_mem hp
    -- the coefficient of r in the row p
    have cf : ∀ r, r < W.length → (sm W.length fun i => gf (Up W rows).gens[p].2 (rows.length + i) * Y i r) = if r = p then 1 else 0 := by
      have ind := ech_indep (L := vecs (Up W rows).gens) (y := fun r => (sm W.length fun i => gf (Up W rows).gens[p].2 (rows.length + i) * Y i r) - if r = p then 1 else 0) L.ech (fun j => by
        rw [hlen]
        have b0 := F.g.back (by omega) hgp j
        rw [w1] at b0
        have b1 : gf (Up W rows).gens[p].2 j = sm W.length fun r => (sm W.length fun i => gf (Up W rows).gens[p].2 (rows.length + i) * Y i r) * rowAt (vecs (Up W rows).gens) r j := by
          rw [b0]
          have : (sm W.length fun i => gf (Up W rows).gens[p].2 (rows.length + i) * unitV rows.length (rowsR (turned rows W.length)) i j) = sm W.length fun i => sm W.length fun r => gf (Up W rows).gens[p].2 (rows.length + i) * Y i r * rowAt (vecs (Up W rows).gens) r j := sm_congr fun i hi => by
            have := hY i hi j
            rw [w1] at this
            rw [this, ← sm_mul]
            exact sm_congr fun r _ => by grind
          rw [this, sm_swap]
          exact sm_congr fun r _ => sm_mulr
        have b2 : (sm W.length fun r => (if r = p then (1 : Int) else 0) * rowAt (vecs (Up W rows).gens) r j) = gf (Up W rows).gens[p].2 j := by
          rw [sm_one (f := fun r => (if r = p then (1 : Int) else 0) * rowAt (vecs (Up W rows).gens) r j) (show p < W.length by omega) fun r _ ne => by rw [if_neg ne, Int.zero_mul]]
          rw [if_pos rfl, Int.one_mul, rp]
        have b3 : (sm W.length fun r => ((sm W.length fun i => gf (Up W rows).gens[p].2 (rows.length + i) * Y i r) - if r = p then 1 else 0) * rowAt (vecs (Up W rows).gens) r j) = (sm W.length fun r => (sm W.length fun i => gf (Up W rows).gens[p].2 (rows.length + i) * Y i r) * rowAt (vecs (Up W rows).gens) r j) - sm W.length fun r => (if r = p then (1 : Int) else 0) * rowAt (vecs (Up W rows).gens) r j := by
          rw [← sm_sub]
          exact sm_congr fun r _ => by grind
        rw [b3, ← b1, b2]
        omega)
      intro r hr
      have := ind r (by rw [hlen]; exact hr)
      omega
    unfold tau
    have b4 : (sm W.length fun i => gf (Up W rows).gens[p].2 (rows.length + i) * dot n (rowsR W i) x) = sm W.length fun i => sm W.length fun r => gf (Up W rows).gens[p].2 (rows.length + i) * Y i r * tgt r := sm_congr fun i hi => by
      rw [xW i hi, ← sm_mul]
      exact sm_congr fun r _ => by grind
    rw [b4, sm_swap]
    have b5 : (sm W.length fun r => sm W.length fun i => gf (Up W rows).gens[p].2 (rows.length + i) * Y i r * tgt r) = sm W.length fun r => (if r = p then 1 else 0) * tgt r := sm_congr fun r hr => by
      rw [sm_mulr, cf r hr]
    rw [b5, sm_one (f := fun r => (if r = p then (1 : Int) else 0) * tgt r) (show p < W.length by omega) fun r _ ne => by rw [if_neg ne, Int.zero_mul]]
    rw [if_pos rfl, Int.one_mul]
  have gap : ∀ p (hp : p < ((Up W rows).cols 0).length), (Up W rows).gens[p]'(by unfold Sts.gens; rw [List.length_append]; omega) = ((Up W rows).cols 0)[p] := fun p hp => List.getElem_append_left hp
  refine ⟨x, fun i hi => ?_⟩
  rw [lv_W, lv_F] at hi ⊢
  rw [List.length_append, List.length_append, List.length_map, List.length_map] at hi
  rw [rowsR_append, List.length_map]
  by_cases h1 : i < ((Up W rows).cols 0).length
  · rw [if_pos h1, map_at h1, dot_times hW (List.mem_append.mpr (.inl (List.getElem_mem h1)))]
    have h2 : i < (Up W rows).gens.length := by unfold Sts.gens; rw [List.length_append]; omega
    have := xT i h2
    rw [gap i h1] at this
    rw [this]
    show (if i < a then u i else _) = u i
    rw [if_pos h1]
  · rw [if_neg h1, rowsR_append]
    by_cases h3 : i - ((Up W rows).cols 0).length < Fr.length
    · rw [if_pos h3, xF _ h3]
      congr 1
      show ((Up W rows).cols 0).length + (i - ((Up W rows).cols 0).length) = i
      omega
    · rw [if_neg h3]
      have h4 : i - ((Up W rows).cols 0).length - Fr.length < (Up W rows).idle.length := by omega
      rw [map_at h4, dot_times hW (List.mem_append.mpr (.inr (List.getElem_mem h4)))]
      have h5 : i - Fr.length < (Up W rows).gens.length := by unfold Sts.gens; rw [List.length_append]; omega
      have h6 : (Up W rows).gens[i - Fr.length] = (Up W rows).idle[i - ((Up W rows).cols 0).length - Fr.length] := by
        have h7 : (Up W rows).gens[i - Fr.length]? = (Up W rows).idle[i - ((Up W rows).cols 0).length - Fr.length]? := by
          unfold Sts.gens
          rw [List.getElem?_append_right (by omega)]
          congr 1
          omega
        rw [List.getElem?_eq_getElem h5, List.getElem?_eq_getElem h4] at h7
        exact Option.some.inj h7
      have := xT (i - Fr.length) h5
      rw [h6] at this
      rw [this]
      show (if i - Fr.length < a then u _ else u (Fr.length + (i - Fr.length))) = u i
      rw [if_neg (by show ¬ i - Fr.length < ((Up W rows).cols 0).length; omega)]
      congr 1
      omega
end
end Sm
/-! # A13 -/
namespace Sm
theorem det_low : ∀ {n : Nat} {A : Nat → Nat → Int}, (∀ r c, r < c → c < n → A r c = 0) → det n A = prdI n fun i => A i i
  | 0, _, _ => rfl
  | n + 1, A, h => by
    have e : det (n + 1) A = sgn 0 * A 0 0 * det n (fun r c => A (r + 1) (skip 0 c)) := sm_one (f := fun j => sgn j * A 0 j * det n fun r c => A (r + 1) (skip j c)) (by omega) fun j hj ne => by
      rw [h 0 j (by omega) hj]
      simp
    have e2 : det n (fun r c => A (r + 1) (skip 0 c)) = prdI n fun i => A (i + 1) (i + 1) := by
      have : (fun r c => A (r + 1) (skip 0 c)) = fun r c => A (r + 1) (c + 1) := by
        funext r c
        unfold skip
        rw [if_neg (by omega)]
      rw [this]
      exact det_low fun r c hc hr => h (r + 1) (c + 1) (by omega) (by omega)
    rw [e, e2, prdI_skip0]
    show (if 0 % 2 = 0 then (1 : Int) else -1) * _ * _ = _
    rw [if_pos rfl, Int.one_mul]
theorem prdI_ne {f : Nat → Int} : ∀ {n : Nat}, (∀ i, i < n → f i ≠ 0) → prdI n f ≠ 0
  | 0, _ => by simp [prdI]
  | n + 1, h => Int.mul_ne_zero (prdI_ne fun i hi => h i (by omega)) (h n (by omega))
/-- as many steps as columns -/
def Full (S : Sts) : Prop := (S.cols 0).length = S.w
def piv (S : Sts) (c : Nat) : Int := rowAt S.sp c c
section
variable {R : Nat → Vec} {S : Sts} {k : Nat}
theorem full_at (h : Full S) {c : Nat} (hc : c < S.w) : ∃ s, S.st c = some s ∧ (S.cols 0)[c]? = some (c, s) := by
  unfold Full at h
  cases e : S.st c with
  | none =>
    exfalso
    have h1 : S.cols 0 = S.colsB 0 c ++ S.colsB (c + 1) S.w := by
      show S.colsB 0 S.w = _
      rw [colsB_split (b := c) (by omega) (by omega), colsB_split (a := c) (b := c + 1) (by omega) (by omega), colsB_none e]
      rfl
    rw [h1, List.length_append] at h
    have h2 := colsB_len (S := S) (a := 0) (b := c)
    have h3 := colsB_len (S := S) (a := c + 1) (b := S.w)
    omega
  | some s =>
    refine ⟨s, rfl, ?_⟩
    have h1 : S.cols 0 = S.colsB 0 c ++ (c, s) :: S.colsB (c + 1) S.w := colsB_at e hc
    have h2 := colsB_len (S := S) (a := 0) (b := c)
    have h3 := colsB_len (S := S) (a := c + 1) (b := S.w)
    rw [h1, List.length_append, List.length_cons] at h
    have h4 : (S.colsB 0 c).length = c := by omega
    rw [h1, List.getElem?_append_right (by omega), h4, Nat.sub_self]
    rfl
theorem full_row (h : Full S) {c : Nat} (hc : c < S.w) : ∃ s, S.st c = some s ∧ rowAt S.sp c = cut S.w (gf s) ∧ colAt S.sp c = c := by
  obtain ⟨s, h1, h2⟩ := full_at h hc
  refine ⟨s, h1, ?_, ?_⟩
  · unfold rowAt Sts.sp cutL vecs
    rw [List.getElem?_map, List.getElem?_map, h2]
    rfl
  · unfold colAt Sts.sp cutL vecs
    rw [List.getElem?_map, List.getElem?_map, h2]
    rfl
theorem full_tri (F : Fin R k S) (h : Full S) {r c : Nat} (hr : r < S.w) (hc : c < r) : rowAt S.sp r c = 0 := by
  obtain ⟨s, h1, h2, _⟩ := full_row h hr
  rw [h2]
  unfold cut
  rw [if_pos (by omega)]
  exact F.g.sup r s hr h1 c hc
theorem full_pos (F : Fin R k S) (h : Full S) {c : Nat} (hc : c < S.w) : 0 < piv S c := by
  obtain ⟨s, h1, h2, _⟩ := full_row h hc
  unfold piv
  rw [h2]
  unfold cut
  rw [if_pos hc]
  exact F.g.pos c s hc h1
theorem full_red (F : Fin R k S) (h : Full S) {r c : Nat} (hr : r < c) (hc : c < S.w) : 0 ≤ rowAt S.sp r c ∧ rowAt S.sp r c < piv S c := by
  obtain ⟨s, h1, h2, _⟩ := full_row h (show r < S.w by omega)
  obtain ⟨u, h3, h4, _⟩ := full_row h hc
  unfold piv
  rw [h2, h4]
  unfold cut
  rw [if_pos hc, if_pos hc]
  exact F.tdy r s (by omega) h1 (c, u) (List.mem_append.mpr (.inl (mem_cols.mpr ⟨hr, hc, h3⟩)))
theorem full_out (h : Full S) {r c : Nat} (hr : r < S.w) (hc : S.w ≤ c) : rowAt S.sp r c = 0 := by
  obtain ⟨s, _, h2, _⟩ := full_row h hr
  rw [h2]
  unfold cut
  rw [if_neg (by omega)]
theorem full_len (h : Full S) : S.sp.length = S.w := by rw [sp_len]; exact h
theorem full_mem (h : Full S) {c : Nat} (hc : c < S.w) : InS S.sp (rowAt S.sp c) := by
  have h1 : c < S.sp.length := by rw [full_len h]; exact hc
  have : rowAt S.sp c = (S.sp[c]).2 := by unfold rowAt; rw [List.getElem?_eq_getElem h1]
  rw [this]
  exact InS.mem (List.getElem_mem h1)
/-- the rows are spanned -/
theorem Fin.row_in (F : Fin R S.m S) (hR : ∀ i, i < S.m → ∀ j, S.w ≤ j → R i j = 0) {i : Nat} (hi : i < S.m) : InS S.sp (R i) :=
  (F.sp_iff hR).mpr ⟨fun l => if l = i then 1 else 0, fun j => by
    rw [sm_one (f := fun l => (if l = i then (1 : Int) else 0) * R l j) hi fun l _ ne => by rw [if_neg ne, Int.zero_mul]]
    rw [if_pos rfl, Int.one_mul]⟩
theorem full_of (F : Fin R k S) {v : Nat → Vec} (hv : ∀ r, r < S.w → InS S.sp (v r)) (hl : ∀ r c, r < c → c < S.w → v r c = 0) (hd : ∀ r, r < S.w → v r r ≠ 0) : Full S := by
  unfold Full
  have h1 : (S.cols 0).length ≤ S.w := colsB_len (S := S) (a := 0) (b := S.w)
  rcases Nat.lt_or_ge (S.cols 0).length S.w with h | h
  · exfalso
    have z := det_more (L := S.sp) (n := S.w) (by rw [sp_len]; exact h) (v := v) (col := fun c => c) hv
    rw [det_low hl] at z
    exact prdI_ne hd z
  · omega
/-- the products of the first pivots go into those of what stands in stairs the other way -/
theorem full_dvd (F : Fin R k S) (h : Full S) {v : Nat → Vec} (hv : ∀ r, r < S.w → InS S.sp (v r)) (hl : ∀ r c, r < c → c < S.w → v r c = 0) {i : Nat} (hi : i ≤ S.w) : prdI i (piv S) ∣ prdI i fun r => v r r := by
  have hy : ∀ r, ∃ y : Nat → Int, r < S.w → ∀ j, v r j = sm S.w fun p => y p * rowAt S.sp p j := fun r => by
    by_cases hr : r < S.w
    · obtain ⟨y, hy⟩ := (hv r hr).coef
      exact ⟨y, fun _ j => hy _ (by rw [full_len h]; exact Nat.le_refl _) j⟩
    · exact ⟨fun _ => 0, fun z => absurd z hr⟩
  obtain ⟨Y, hY⟩ : ∃ Y : Nat → Nat → Int, ∀ r, r < S.w → ∀ j, v r j = sm S.w fun p => Y r p * rowAt S.sp p j := ⟨fun r => Classical.choose (hy r), fun r => Classical.choose_spec (hy r)⟩
  have e1 : det i (fun r c => v r c) = prdI i fun r => v r r := det_low fun r c hrc hc => hl r c hrc (by omega)
  have e2 : det i (fun r c => v r c) = det i fun r c => sm i fun p => Y r p * rowAt S.sp p c := det_congr fun r c hr hc => by
    rw [hY r (by omega) c]
    have : ∀ d, i + d ≤ S.w → sm (i + d) (fun p => Y r p * rowAt S.sp p c) = sm i fun p => Y r p * rowAt S.sp p c := by
      intro d
      induction d with
      | zero => exact fun _ => rfl
      | succ d ih =>
        intro hd
        show sm (i + d) _ + Y r (i + d) * rowAt S.sp (i + d) c = _
        rw [ih (by omega), full_tri F h (by omega) (by omega)]
        simp
    have h2 := this (S.w - i) (by omega)
    rw [show i + (S.w - i) = S.w by omega] at h2
    exact h2
  have e3 : det i (fun r c => sm i fun p => Y r p * rowAt S.sp p c) = det i Y * det i fun r c => rowAt S.sp r c := det_prod (Y := Y) (E := rowAt S.sp) (col := fun c => c)
  have e4 : det i (fun r c => rowAt S.sp r c) = prdI i (piv S) := det_tri fun r c hc hr => full_tri F h (by omega) hc
  exact ⟨det i Y, by rw [← e1, e2, e3, e4, Int.mul_comm]⟩
/-- what is spanned and begins at r, is divided there -/
theorem full_lead (F : Fin R k S) (h : Full S) {x : Vec} (hx : InS S.sp x) {r : Nat} (hr : r < S.w) (hz : ∀ c, c < r → x c = 0) : piv S r ∣ x r := by
  obtain ⟨y, hy⟩ := hx.coef
  have hy := fun j => hy S.w (by rw [full_len h]; exact Nat.le_refl _) j
  have at_ : ∀ p, p < S.w → (∀ q, q < p → y q = 0) → x p = y p * piv S p := fun p hp hq => by
    rw [hy p]
    exact sm_one (f := fun i => y i * rowAt S.sp i p) hp fun i hi ne => by
      rcases Nat.lt_or_gt_of_ne ne with a | a
      · rw [hq i a, Int.zero_mul]
      · rw [full_tri F h hi a, Int.mul_zero]
  have zero : ∀ p, p < r → y p = 0 := by
    intro p
    induction p using Nat.strongRecOn with
    | _ p ih =>
      intro hp
      have h1 := at_ p (by omega) fun q hq => ih q hq (by omega)
      rw [hz p hp] at h1
      rcases Int.mul_eq_zero.mp h1.symm with z | z
      · exact z
      · have := full_pos F h (show p < S.w by omega)
        omega
  exact ⟨y r, by rw [at_ r hr zero, Int.mul_comm]⟩
theorem dvd_between {a b : Int} (h : a ∣ b) (h1 : 0 ≤ b) (h2 : b < a) : b = 0 := by
  rcases Int.lt_or_le 0 b with q | q
  · have := Int.le_of_dvd q h
    omega
  · omega
def dV (d : Int) (r : Nat) : Vec := fun j => if j = r then d else 0
/-- a place that stands alone -/
theorem full_iso (F : Fin R S.m S) (hR : ∀ i, i < S.m → ∀ j, S.w ≤ j → R i j = 0) (h : Full S) {r : Nat} {d : Int} (hr : r < S.w) (hd : 0 < d) (hin : InS S.sp (dV d r)) (hdv : ∀ i, i < S.m → d ∣ R i r) :
    rowAt S.sp r = dV d r ∧ ∀ l, l < S.w → l ≠ r → rowAt S.sp l r = 0 := by
  -- d goes into the place r of all that is spanned
  have all : ∀ x, InS S.sp x → d ∣ x r := fun x hx => by
    obtain ⟨z, hz⟩ := (F.sp_iff hR).mp hx
    rw [hz r]
    exact sm_dvd fun i hi => Int.dvd_trans (hdv i hi) (Int.dvd_mul_left _ _)
  have p1 : piv S r ∣ d := by
    have := full_lead F h hin hr fun c hc => by unfold dV; rw [if_neg (by omega)]
    have e : dV d r r = d := by unfold dV; rw [if_pos rfl]
    rw [e] at this
    exact this
  have p2 : d ∣ piv S r := all (rowAt S.sp r) (full_mem h hr)
  have pp := full_pos F h hr
  have pe : piv S r = d := by
    have h1 := Int.le_of_dvd hd p1
    have h2 := Int.le_of_dvd pp p2
    omega
  refine ⟨?_, fun l hl ne => ?_⟩
  · -- the difference is small everywhere
    have hs : ∀ j, rowAt S.sp r j - dV d r j = 0 := ((full_mem h hr).sub hin).small F.sp_ech fun q hq => by
      obtain ⟨i, hi, rfl⟩ := List.mem_iff_getElem.mp hq
      have hi2 : i < S.w := by rw [← full_len h]; exact hi
      obtain ⟨s, g1, g2, g3⟩ := full_row h hi2
      have c1 : (S.sp[i]).1 = i := by
        have : colAt S.sp i = (S.sp[i]).1 := by unfold colAt; rw [List.getElem?_eq_getElem hi]
        rw [← this]
        exact g3
      have c2 : (S.sp[i]).2 = rowAt S.sp i := by unfold rowAt; rw [List.getElem?_eq_getElem hi]
      rw [c2, c1]
      have hpos := full_pos F h hi2
      show 0 ≤ rowAt S.sp r i - dV d r i ∧ rowAt S.sp r i - dV d r i < rowAt S.sp i i
      unfold piv at hpos
      rcases Nat.lt_trichotomy i r with a | a | a
      · rw [full_tri F h hr a]
        unfold dV
        rw [if_neg (by omega)]
        omega
      · subst a
        unfold dV
        rw [if_pos rfl]
        unfold piv at pe
        omega
      · have := full_red F h a hi2
        unfold dV
        rw [if_neg (by omega)]
        unfold piv at this
        omega
    funext j
    have := hs j
    omega
  · rcases Nat.lt_or_gt_of_ne ne with a | a
    · have h1 := full_red F h a hr
      rw [pe] at h1
      exact dvd_between (all _ (full_mem h hl)) h1.1 h1.2
    · exact full_tri F h hl a
end
/-! ### square rows in stairs -/
structure Tri (k : Nat) (rows : List Row) (a : Nat → Int) : Prop where
  len : rows.length = k
  row : ∀ r ∈ rows, r.length = k
  low : ∀ r c, r < k → c < r → rowsR rows r c = 0
  pos : ∀ r, r < k → 0 < a r
  dia : ∀ r, r < k → rowsR rows r r = a r
  red : ∀ r c, r < c → c < k → 0 ≤ rowsR rows r c ∧ rowsR rows r c ≤ a c
/-- the row and the column r are d there and nothing else -/
def Isl (rows : List Row) (r : Nat) (d : Int) : Prop := (∀ c, rowsR rows r c = if c = r then d else 0) ∧ ∀ c, c ≠ r → rowsR rows c r = 0
abbrev Hf (rows : List Row) (k : Nat) : Sts := stairs k (turned rows k)
section
variable {k : Nat} {rows : List Row} {a : Nat → Int}
theorem rowsR_past {rows : List Row} {i c : Nat} (h : rows.length ≤ i) : rowsR rows i c = 0 := by
  unfold rowsR
  rw [List.getD_eq_getElem?_getD, List.getElem?_eq_none h]
  exact gf_out (by simp)
theorem Tri.out (T : Tri k rows a) {r c : Nat} (h : k ≤ c) : rowsR rows r c = 0 := by
  by_cases hr : r < rows.length
  · exact rowsR_out T.row r hr c h
  · exact rowsR_past (by omega)
theorem hf_fin (T : Tri k rows a) : Fin (rowsR (turned rows k)) (Hf rows k).m (Hf rows k) ∧ (Hf rows k).w = k ∧ (Hf rows k).m = k ∧ (∀ i, i < (Hf rows k).m → ∀ j, (Hf rows k).w ≤ j → rowsR (turned rows k) i j = 0) := by
  have hr : ∀ r ∈ turned rows k, r.length = k := fun r hr => by rw [turned_rows r hr, T.len]
  obtain ⟨F, w1, m1⟩ := stairs_ok (w := k) (rows := turned rows k) hr
  rw [turned_len] at F m1
  refine ⟨by rw [m1]; exact F, w1, m1, fun i hi j hj => rowsR_out hr i (by rw [turned_len]; have : i < (stairs k (turned rows k)).m := hi; omega) j (by have : (stairs k (turned rows k)).w ≤ j := hj; omega)⟩
theorem hf_row (T : Tri k rows a) {i : Nat} (hi : i < k) : InS (Hf rows k).sp (rowsR (turned rows k) i) := by
  obtain ⟨F, w1, m1, hR⟩ := hf_fin T
  exact F.row_in hR (by omega)
theorem hf_full (T : Tri k rows a) : Full (Hf rows k) := by
  obtain ⟨F, w1, m1, hR⟩ := hf_fin T
  refine full_of F (v := rowsR (turned rows k)) (fun r hr => hf_row T (by omega)) (fun r c hrc hc => ?_) fun r hr => ?_
  · rw [turned_at (by omega)]
    exact T.low c r (by omega) hrc
  · rw [turned_at (by omega), T.dia r (by omega)]
    have := T.pos r (by omega)
    omega
theorem hf_dvd (T : Tri k rows a) {i : Nat} (hi : i ≤ k) : prdI i (piv (Hf rows k)) ∣ prdI i a := by
  obtain ⟨F, w1, m1, hR⟩ := hf_fin T
  have h := full_dvd F (hf_full T) (v := rowsR (turned rows k)) (fun r hr => hf_row T (by omega)) (fun r c hrc hc => by
    rw [turned_at (by omega)]
    exact T.low c r (by omega) hrc) (i := i) (by omega)
  have e : (prdI i fun r => rowsR (turned rows k) r r) = prdI i a := prdI_congr fun r hr => by rw [turned_at (by omega), T.dia r (by omega)]
  rw [e] at h
  exact h
theorem hf_steps (T : Tri k rows a) {r : Nat} (hr : r < k) : rowsR (Hf rows k).steps r = rowAt (Hf rows k).sp r := by
  obtain ⟨F, w1, m1, hR⟩ := hf_fin T
  exact steps_at (by have := hf_full T; unfold Full at this; omega)
theorem hf_tri (T : Tri k rows a) : Tri k (Hf rows k).steps (piv (Hf rows k)) := by
  obtain ⟨F, w1, m1, hR⟩ := hf_fin T
  have fu := hf_full T
  refine ⟨by rw [steps_len]; have := fu; unfold Full at this; omega, fun r hr => by rw [steps_rows F r hr, w1], fun r c hr hc => ?_, fun r hr => full_pos F fu (by omega), fun r hr => ?_, fun r c hrc hc => ?_⟩
  · rw [hf_steps T hr]
    exact full_tri F fu (by omega) hc
  · rw [hf_steps T hr]
    rfl
  · rw [hf_steps T (by omega)]
    have := full_red F fu hrc (by omega)
    omega
/-- a place that stands alone in the given rows -/
theorem hf_iso (T : Tri k rows a) {r : Nat} {d : Int} (hr : r < k) (hd : 0 < d) (hin : InS (Hf rows k).sp (dV d r)) (hdv : ∀ i, i < k → d ∣ rowsR rows r i) : Isl (Hf rows k).steps r d ∧ piv (Hf rows k) r = d := by
  obtain ⟨F, w1, m1, hR⟩ := hf_fin T
  have fu := hf_full T
  obtain ⟨h1, h2⟩ := full_iso F hR fu (by omega) hd hin fun i hi => by
    rw [turned_at (by omega)]
    exact hdv i (by omega)
  refine ⟨⟨fun c => ?_, fun c ne => ?_⟩, ?_⟩
  · rw [hf_steps T hr, h1]
    rfl
  · by_cases hc : c < k
    · rw [hf_steps T hc]
      exact h2 c (by omega) ne
    · exact rowsR_past (by have := (hf_tri T).len; omega)
  · unfold piv
    rw [h1]
    unfold dV
    rw [if_pos rfl]
theorem hf_isl (T : Tri k rows a) {r : Nat} (hr : r < k) (h : Isl rows r (a r)) : Isl (Hf rows k).steps r (a r) ∧ piv (Hf rows k) r = a r := by
  refine hf_iso T hr (T.pos r hr) ((hf_row T hr).congr fun c => ?_) fun i hi => ?_
  · rw [turned_at hr]
    unfold dV
    by_cases e : c = r
    · rw [if_pos e, e, T.dia r hr]
    · rw [if_neg e]
      exact h.2 c e
  · rw [h.1 i]
    split
    · exact Int.dvd_refl _
    · exact Int.dvd_zero _
/-- the first place that does not stand alone: it does now, or its pivot is smaller -/
theorem hf_next (T : Tri k rows a) {p : Nat} (hp : p < k) (h : ∀ l, l < p → Isl rows l (a l)) : piv (Hf rows k) p = a p → Isl (Hf rows k).steps p (a p) := fun e => by
  obtain ⟨F, w1, m1, hR⟩ := hf_fin T
  have fu := hf_full T
  refine (hf_iso T hp (T.pos p hp) ((hf_row T hp).congr fun c => ?_) fun i hi => ?_).1
  · rw [turned_at hp]
    unfold dV
    rcases Nat.lt_trichotomy c p with q | q | q
    · rw [if_neg (by omega), (h c q).1 p, if_neg (by omega)]
    · rw [if_pos q, q, T.dia p hp]
    · rw [if_neg (by omega)]
      by_cases hc : c < k
      · exact T.low c p hc q
      · exact rowsR_past (by rw [T.len]; omega)
  · rcases Nat.lt_or_ge i p with q | q
    · rw [T.low p i hp q]
      exact Int.dvd_zero _
    · have := full_lead F fu (hf_row T hi) (r := p) (by omega) fun c hc => by
        rw [turned_at hi, (h c hc).1 i, if_neg (by omega)]
      rw [e, turned_at hi] at this
      exact this
end
/-- the measure: the product of the products of the first pivots -/
def Psi (k : Nat) (a : Nat → Int) : Nat := prd k fun i => (prdI (i + 1) a).natAbs
theorem prd_half {f g : Nat → Nat} : ∀ {n p : Nat}, p < n → (∀ i, i < n → f i ≤ g i) → 2 * f p ≤ g p → 2 * prd n f ≤ prd n g
  | 0, p, h, _, _ => by omega
  | n + 1, p, h, hle, hp => by
    show 2 * (prd n f * f n) ≤ prd n g * g n
    by_cases e : p = n
    · subst e
      have h1 : prd p f ≤ prd p g := prd_le fun i hi => hle i (by omega)
      calc 2 * (prd p f * f p) = prd p f * (2 * f p) := by grind
        _ ≤ prd p g * g p := Nat.mul_le_mul h1 hp
    · have h1 := prd_half (n := n) (p := p) (by omega) (fun i hi => hle i (by omega)) hp
      calc 2 * (prd n f * f n) = 2 * prd n f * f n := by grind
        _ ≤ prd n g * g n := Nat.mul_le_mul h1 (hle n (by omega))
section
variable {k : Nat} {rows : List Row} {a b c : Nat → Int}
theorem dvd_abs {x y : Int} (h : x ∣ y) (hy : 0 < y) : x.natAbs ≤ y.natAbs := Nat.le_of_dvd (by omega) (Int.natAbs_dvd_natAbs.mpr h)
theorem psi_le (ha : ∀ r, r < k → 0 < a r) (h : ∀ i, i ≤ k → prdI i b ∣ prdI i a) : Psi k b ≤ Psi k a := prd_le fun i hi => dvd_abs (h (i + 1) (by omega)) (prdI_pos fun r hr => ha r (by omega))
/-- a pivot has fallen at p, those ahead are as they were -/
theorem psi_half (ha : ∀ r, r < k → 0 < a r) (hb : ∀ r, r < k → 0 < b r) (h : ∀ i, i ≤ k → prdI i b ∣ prdI i a) {p : Nat} (hp : p < k) (same : ∀ l, l < p → b l = a l) (ne : b p ≠ a p) : 2 * Psi k b ≤ Psi k a := by
  refine prd_half hp (fun i hi => dvd_abs (h (i + 1) (by omega)) (prdI_pos fun r hr => ha r (by omega))) ?_
  have e : prdI p b = prdI p a := prdI_congr fun i hi => same i hi
  have pp : 0 < prdI p a := prdI_pos fun r hr => ha r (by omega)
  obtain ⟨q, hq⟩ := h (p + 1) (by omega)
  have hq2 : prdI p a * a p = prdI p b * b p * q := hq
  rw [e, Int.mul_assoc] at hq2
  have hq3 : a p = b p * q := Int.eq_of_mul_eq_mul_left (by omega) hq2
  have h1 := ha p hp
  have h2 := hb p hp
  have q2 : 2 ≤ q := by
    rcases Int.lt_or_le q 2 with z | z
    · exfalso
      have : q = 1 ∨ q ≤ 0 := by omega
      rcases this with z | z
      · rw [z] at hq3
        omega
      · have := Int.mul_nonneg (a := b p) (b := -q) (by omega) (by omega)
        have : b p * -q = -(b p * q) := by grind
        omega
    · exact z
  have h3 : 2 * b p ≤ a p := by
    rw [hq3, Int.mul_comm]
    exact Int.mul_le_mul_of_nonneg_left q2 (by omega)
  show 2 * (prdI p b * b p).natAbs ≤ (prdI p a * a p).natAbs
  rw [e, Int.natAbs_mul, Int.natAbs_mul]
  calc 2 * ((prdI p a).natAbs * (b p).natAbs) = (prdI p a).natAbs * (2 * (b p).natAbs) := by grind
    _ ≤ (prdI p a).natAbs * (a p).natAbs := Nat.mul_le_mul_left _ (by omega)
/-- a whole round over square rows -/
structure Rnd (k : Nat) (rows rows' : List Row) (a a' : Nat → Int) : Prop where
  tri : Tri k rows' a'
  dvd : ∀ i, i ≤ k → prdI i a' ∣ prdI i a
theorem rnd_of (T : Tri k rows a) : Rnd k rows (Hf (Hf rows k).steps k).steps a (piv (Hf (Hf rows k).steps k)) :=
  ⟨hf_tri (hf_tri T), fun i hi => Int.dvd_trans (hf_dvd (hf_tri T) hi) (hf_dvd T hi)⟩
theorem rnd_isl (T : Tri k rows a) {r : Nat} (hr : r < k) (h : Isl rows r (a r)) : Isl (Hf (Hf rows k).steps k).steps r (a r) ∧ piv (Hf (Hf rows k).steps k) r = a r := by
  obtain ⟨h1, h2⟩ := hf_isl T hr h
  have h3 := hf_isl (hf_tri T) hr (by rw [h2]; exact h1)
  rw [h2] at h3
  exact h3
/-- the first p places stand alone: one more does, or the measure is halved -/
theorem rnd_next (T : Tri k rows a) {p : Nat} (hp : p < k) (h : ∀ l, l < p → Isl rows l (a l)) :
    (∀ l, l < p → Isl (Hf (Hf rows k).steps k).steps l (piv (Hf (Hf rows k).steps k) l)) ∧
    (Isl (Hf (Hf rows k).steps k).steps p (piv (Hf (Hf rows k).steps k) p) ∨ 2 * Psi k (piv (Hf (Hf rows k).steps k)) ≤ Psi k a) := by
  refine ⟨fun l hl => ?_, ?_⟩
  · obtain ⟨h1, h2⟩ := rnd_isl T (by omega) (h l hl)
    rw [h2]
    exact h1
  · by_cases e : piv (Hf rows k) p = a p
    · left
      have h1 := hf_next T hp h e
      have h3 := hf_isl (hf_tri T) hp (by rw [e]; exact h1)
      rw [h3.2]
      exact h3.1
    · right
      have T1 := hf_tri T
      have T2 := hf_tri T1
      have h1 := psi_half T.pos T1.pos (fun i hi => hf_dvd T hi) hp (fun l hl => (hf_isl T (by omega) (h l hl)).2) e
      have h2 := psi_le T1.pos (fun i hi => hf_dvd T1 hi)
      omega
/-- two straight rows of which the first does not go into the second, the second put to the first -/
theorem rnd_mend {at_ : Nat} (T : Tri k rows a) (hk : at_ + 1 < k) (h : ∀ l, l < k → l ≠ at_ → l ≠ at_ + 1 → Isl rows l (a l)) (h1 : ∀ c, rowsR rows at_ c = if c = at_ then a at_ else if c = at_ + 1 then a (at_ + 1) else 0) (h2 : ∀ c, rowsR rows (at_ + 1) c = if c = at_ + 1 then a (at_ + 1) else 0)
    (ne : ¬ a at_ ∣ a (at_ + 1)) : (∀ l, l < k → Isl (Hf (Hf rows k).steps k).steps l (piv (Hf (Hf rows k).steps k) l)) ∧ 2 * Psi k (piv (Hf (Hf rows k).steps k)) ≤ Psi k a := by
  obtain ⟨F, w1, m1, hR⟩ := hf_fin T
  have fu := hf_full T
  have T1 := hf_tri T
  have T2 := hf_tri T1
  obtain ⟨F2, w2, m2, hR2⟩ := hf_fin T1
  -- the first half
  have u1 : piv (Hf rows k) at_ ∣ a (at_ + 1) := by
    have := full_lead F fu (hf_row T hk) (r := at_) (by omega) fun c hc => by
      rw [turned_at hk, (h c (by omega) (by omega) (by omega)).1 (at_ + 1), if_neg (by omega)]
    rw [turned_at hk, h1, if_neg (by omega), if_pos rfl] at this
    exact this
  have une : piv (Hf rows k) at_ ≠ a at_ := fun e => ne (by rw [← e]; exact u1)
  have same : ∀ l, l < at_ → piv (Hf rows k) l = a l := fun l hl => (hf_isl T (by omega) (h l (by omega) (by omega) (by omega))).2
  have half := psi_half T.pos T1.pos (fun i hi => hf_dvd T hi) (show at_ < k by omega) same une
  have le2 := psi_le T1.pos (fun i hi => hf_dvd T1 hi)
  have isl1 : ∀ l, l < k → l ≠ at_ → l ≠ at_ + 1 → Isl (Hf rows k).steps l (piv (Hf rows k) l) := fun l hl n1 n2 => by
    obtain ⟨g1, g2⟩ := hf_isl T hl (h l hl n1 n2)
    rw [g2]
    exact g1
  have y1 : piv (Hf rows k) at_ ∣ rowsR (Hf rows k).steps at_ (at_ + 1) := by
    refine Int.dvd_trans u1 ?_
    rw [hf_steps T (by omega)]
    obtain ⟨z, hz⟩ := (F.sp_iff hR).mp (full_mem fu (show at_ < (Hf rows k).w by omega))
    rw [hz]
    refine sm_dvd fun i hi => Int.dvd_trans ?_ (Int.dvd_mul_left _ _)
    rw [turned_at (by omega), h2]
    split
    · exact Int.dvd_refl _
    · exact Int.dvd_zero _
  -- the second half
  have r1 : rowsR (turned (Hf rows k).steps k) at_ = dV (piv (Hf rows k) at_) at_ := by
    funext c
    rw [turned_at (by omega)]
    unfold dV
    rcases Nat.lt_trichotomy c at_ with q | q | q
    · rw [if_neg (by omega), (isl1 c (by omega) (by omega) (by omega)).1 at_, if_neg (by omega)]
    · rw [if_pos q, q, T1.dia at_ (by omega)]
    · rw [if_neg (by omega)]
      by_cases hc : c < k
      · exact T1.low c at_ hc q
      · exact rowsR_past (by rw [T1.len]; omega)
  have i1 : Isl (Hf (Hf rows k).steps k).steps at_ (piv (Hf rows k) at_) ∧ piv (Hf (Hf rows k).steps k) at_ = piv (Hf rows k) at_ := hf_iso T1 (by omega) (T1.pos at_ (by omega)) (by
      rw [← r1]
      exact hf_row T1 (by omega)) fun i hi => by
    rcases Nat.lt_trichotomy i at_ with q | q | q
    · rw [T1.low at_ i (by omega) q]
      exact Int.dvd_zero _
    · rw [q, T1.dia at_ (by omega)]
      exact Int.dvd_refl _
    · by_cases q2 : i = at_ + 1
      · rw [q2]
        exact y1
      · rw [(isl1 i hi (by omega) q2).2 at_ (by omega)]
        exact Int.dvd_zero _
  have i2 : Isl (Hf (Hf rows k).steps k).steps (at_ + 1) (piv (Hf rows k) (at_ + 1)) ∧ piv (Hf (Hf rows k).steps k) (at_ + 1) = piv (Hf rows k) (at_ + 1) := hf_iso T1 hk (T1.pos _ hk) (by
      obtain ⟨y, hy⟩ := y1
      refine ((hf_row T1 hk).sub ((hf_row T1 (show at_ < k by omega)).mul y)).congr fun c => ?_
      rw [r1, turned_at hk]
      unfold dV
      rcases Nat.lt_trichotomy c at_ with q | q | q
      · rw [if_neg (by omega), if_neg (by omega), (isl1 c (by omega) (by omega) (by omega)).1 (at_ + 1), if_neg (by omega)]
        omega
      · rw [if_pos q, if_neg (by omega), q, hy]
        grind
      · rw [if_neg (by omega)]
        by_cases q2 : c = at_ + 1
        · rw [if_pos q2, q2, T1.dia _ hk]
          omega
        · rw [if_neg q2]
          by_cases hc : c < k
          · rw [T1.low c (at_ + 1) hc (by omega)]
            omega
          · rw [rowsR_past (by rw [T1.len]; omega)]
            omega) fun i hi => by
    rcases Nat.lt_trichotomy i (at_ + 1) with q | q | q
    · rw [T1.low (at_ + 1) i hk q]
      exact Int.dvd_zero _
    · rw [q, T1.dia _ hk]
      exact Int.dvd_refl _
    · rw [(isl1 i hi (by omega) (by omega)).2 (at_ + 1) (by omega)]
      exact Int.dvd_zero _
  refine ⟨fun l hl => ?_, by omega⟩
  by_cases q1 : l = at_
  · rw [q1, i1.2]
    exact i1.1
  · by_cases q2 : l = at_ + 1
    · rw [q2, i2.2]
      exact i2.1
    · obtain ⟨g1, g2⟩ := hf_isl T1 hl (isl1 l hl q1 q2)
      rw [g2]
      exact g1
end
end Sm
/-! # A14 -/
namespace Sm
/-! ### the loop of levelling -/
def isStraight (rows : List Row) : Bool := !((List.range rows.length).any fun a => ((rows.getD a []).drop (a + 1)).any fun n => n != 0)
def uneven (kinds : Row) : Option Nat := (List.range (kinds.length - 1)).find? fun a => (gf kinds (a + 1)).fmod (gf kinds a) != 0
def diag (rows : List Row) : Row := (List.range rows.length).map fun a => gf (rows.getD a []) a
abbrev LvS := List Row × List Row × List Row
/-- what follows a round: the end, or the next rows -/
def lvEnd (s : LvS) : (Row × List Row) ⊕ LvS :=
  if isStraight s.2.2 then match uneven (diag s.2.2) with
    | none => .inl (diag s.2.2 ++ List.replicate s.2.1.length 0, s.1 ++ s.2.1)
    | some a => .inr (s.1, s.2.1, s.2.2.set a (mixed 1 (s.2.2.getD a []) 1 (s.2.2.getD (a + 1) [])))
  else .inr s
def lv (n : Nat) : Nat → LvS → Option (Row × List Row)
  | 0, _ => none
  | f + 1, s => match lvEnd (lvRound n s.1 s.2.1 s.2.2) with
    | .inl r => some r
    | .inr t => lv n f t
/-- what is told of levelled steps: P, the members -/
structure LvOk (n : Nat) (P : Vec → Prop) (kinds : Row) (G : List Row) : Prop where
  kl : kinds.length = n
  gl : G.length = n
  gr : ∀ r ∈ G, r.length = n
  k : ∃ k, k ≤ n ∧ (∀ i, i < k → 0 < gf kinds i) ∧ (∀ i, k ≤ i → gf kinds i = 0) ∧ ∀ i, i + 1 < k → gf kinds i ∣ gf kinds (i + 1)
  mem : ∀ x, P x ↔ ∀ i, i < n → gf kinds i ∣ dot n (rowsR G i) x
  sur : Sur n G
section
variable {k n : Nat} {rows : List Row} {a : Nat → Int}
theorem straight_iff (T : Tri k rows a) : isStraight rows = true ↔ ∀ r c, r < c → rowsR rows r c = 0 := by
  unfold isStraight
  rw [Bool.not_eq_true', List.any_eq_false]
  constructor
  · intro h r c hrc
    by_cases hr : r < rows.length
    · have h1 := h r (List.mem_range.mpr hr)
      rw [List.any_eq_true] at h1
      by_cases z : rowsR rows r c = 0
      · exact z
      · exfalso
        refine h1 ⟨rowsR rows r c, ?_, by simpa using z⟩
        unfold rowsR gf at z ⊢
        by_cases hc : c < (rows.getD r []).length
        · rw [List.getD_eq_getElem?_getD (l := rows.getD r []), List.getElem?_eq_getElem hc]
          have : ((rows.getD r []).drop (r + 1))[c - (r + 1)]'(by rw [List.length_drop]; omega) = (rows.getD r [])[c] := by
            rw [List.getElem_drop]
            congr 1
            omega
          show (rows.getD r [])[c] ∈ _
          rw [← this]
          exact List.getElem_mem _
        · exfalso
          apply z
          rw [List.getD_eq_getElem?_getD (l := rows.getD r []), List.getElem?_eq_none (by omega)]
          rfl
    · exact rowsR_past (by omega)
  · intro h r hr
    rw [List.any_eq_true]
    rintro ⟨x, hx, nz⟩
    obtain ⟨i, hi, rfl⟩ := List.mem_iff_getElem.mp hx
    have := h r (r + 1 + i) (by omega)
    unfold rowsR at this
    rw [← gf_drop] at this
    unfold gf at this
    rw [List.getD_eq_getElem?_getD, List.getElem?_eq_getElem hi] at this
    have this2 : ((rows.getD r []).drop (r + 1))[i] = 0 := this
    rw [this2] at nz
    simp at nz
theorem isl_all (T : Tri k rows a) : (∀ l, l < k → Isl rows l (a l)) ↔ isStraight rows = true := by
  rw [straight_iff T]
  constructor
  · intro h r c hrc
    by_cases hr : r < k
    · rw [(h r hr).1 c, if_neg (by omega)]
    · exact rowsR_past (by rw [T.len]; omega)
  · intro h l hl
    refine ⟨fun c => ?_, fun c ne => ?_⟩
    · rcases Nat.lt_trichotomy c l with q | q | q
      · rw [T.low l c hl q, if_neg (by omega)]
      · rw [if_pos q, q, T.dia l hl]
      · rw [h l c q, if_neg (by omega)]
    · rcases Nat.lt_or_gt_of_ne ne with q | q
      · exact h c l q
      · by_cases hc : c < k
        · exact T.low c l hc q
        · exact rowsR_past (by rw [T.len]; omega)
theorem gf_diag {i : Nat} (hi : i < rows.length) : gf (diag rows) i = rowsR rows i i := by
  show (diag rows).getD i 0 = _
  unfold diag
  rw [List.getD_eq_getElem?_getD, List.getElem?_map, List.getElem?_range hi]
  rfl
theorem diag_len : (diag rows).length = rows.length := by unfold diag; simp
theorem uneven_none {kinds : Row} (h : uneven kinds = none) (hp : ∀ i, i < kinds.length → 0 < gf kinds i) : ∀ i, i + 1 < kinds.length → gf kinds i ∣ gf kinds (i + 1) := fun i hi => by
  unfold uneven at h
  have := List.find?_eq_none.mp h i (List.mem_range.mpr (by omega))
  exact Int.dvd_of_fmod_eq_zero (by simpa using this)
theorem uneven_some {kinds : Row} {at_ : Nat} (h : uneven kinds = some at_) : at_ + 1 < kinds.length ∧ ¬ gf kinds at_ ∣ gf kinds (at_ + 1) := by
  unfold uneven at h
  have h1 := List.mem_range.mp (List.mem_of_find?_eq_some h)
  have h2 := List.find?_some h
  refine ⟨by omega, fun hd => ?_⟩
  have := Int.fmod_eq_zero_of_dvd hd
  simp [this] at h2
/-- a straight row's members -/
theorem rs_straight (T : Tri k rows a) (h : ∀ l, l < k → Isl rows l (a l)) {v : Vec} : RS rows k v ↔ ∀ i, i < k → a i ∣ v i := by
  have e : ∀ (z : Nat → Int) i, i < k → (sm rows.length fun j => z j * rowsR rows j i) = z i * a i := fun z i hi => by
    rw [T.len, sm_one (f := fun j => z j * rowsR rows j i) hi fun j hj ne => by rw [(h i hi).2 j ne, Int.mul_zero]]
    rw [T.dia i hi]
  constructor
  · rintro ⟨z, hz⟩ i hi
    rw [hz i hi, e z i hi]
    exact Int.dvd_mul_left _ _
  · intro hd
    refine ⟨fun i => v i / a i, fun i hi => ?_⟩
    rw [e _ i hi]
    exact (Int.ediv_mul_cancel (hd i hi)).symm
/-- what stands between two rounds -/
structure LvI (n k : Nat) (P : Vec → Prop) (s : LvS) (a : Nat → Int) : Prop where
  wl : s.1.length = k
  wr : ∀ r ∈ s.1, r.length = n
  fr : ∀ r ∈ s.2.1, r.length = n
  cnt : k + s.2.1.length = n
  sur : Sur n (s.1 ++ s.2.1)
  tri : Tri k s.2.2 a
  mem : ∀ x, Mem n s.1 s.2.1 s.2.2 x ↔ P x
theorem up_hf {W rows : List Row} (h1 : W.length = k) (h2 : rows.length = k) : Up W rows = Hf rows k := by
  unfold Up Hf
  rw [h1, h2]
theorem hf_gens (T : Tri k rows a) : (Hf rows k).idle = [] := by
  obtain ⟨F, w1, m1, hR⟩ := hf_fin T
  have h1 := F.cnt
  have h2 := hf_full T
  unfold Full at h2
  unfold Sts.gens at h1
  rw [List.length_append] at h1
  exact List.eq_nil_of_length_eq_zero (by omega)
theorem lvI_round {P : Vec → Prop} {s : LvS} (I : LvI n k P s a) : LvI n k P (lvRound n s.1 s.2.1 s.2.2) (piv (Hf (Hf s.2.2 k).steps k)) ∧ (lvRound n s.1 s.2.1 s.2.2).2.2 = (Hf (Hf s.2.2 k).steps k).steps := by
  have T := I.tri
  have hu : Up s.1 s.2.2 = Hf s.2.2 k := up_hf I.wl T.len
  have fu := hf_full T
  have w1 := (hf_fin T).2.1
  have wl : (lvRound n s.1 s.2.1 s.2.2).1.length = k := by
    rw [lv_Wlen, hu]
    unfold Full at fu
    omega
  have er : (lvRound n s.1 s.2.1 s.2.2).2.2 = (Hf (Hf s.2.2 k).steps k).steps := by
    rw [lv_rows, wl, hu, T.len]
  have ef : (lvRound n s.1 s.2.1 s.2.2).2.1 = s.2.1 := by
    rw [lv_F, hu, hf_gens T]
    simp
  refine ⟨⟨wl, fun r hr => ?_, by rw [ef]; exact I.fr, by rw [ef]; exact I.cnt, lv_sur I.wr I.sur, by rw [er]; exact hf_tri (hf_tri T), fun x => ?_⟩, er⟩
  · rw [lv_W] at hr
    obtain ⟨q, hq, rfl⟩ := List.mem_map.mp hr
    exact woven_len (up_len (List.mem_append.mpr (.inl hq))) I.wr
  · rw [lv_mem I.wr (fun r hr => by rw [T.row r hr, I.wl]), I.mem]
/-- the end of the loop -/
theorem lv_done {P : Vec → Prop} {s : LvS} (I : LvI n k P s a) (hs : isStraight s.2.2 = true) (hu : uneven (diag s.2.2) = none) : LvOk n P (diag s.2.2 ++ List.replicate s.2.1.length 0) (s.1 ++ s.2.1) := by
  have T := I.tri
  have hi := (isl_all T).mpr hs
  have gk : ∀ i, i < k → gf (diag s.2.2) i = a i := fun i hi => by rw [gf_diag (by rw [T.len]; exact hi), T.dia i hi]
  have gk2 : ∀ i, gf (diag s.2.2 ++ List.replicate s.2.1.length 0) i = if i < k then a i else 0 := fun i => by
    rw [gf_pad]
    split
    · rename_i h
      exact gk i h
    · exact gf_out (by rw [diag_len, T.len]; omega)
  refine ⟨?_, ?_, fun r hr => ?_, ⟨k, by have := I.cnt; omega, fun i hi => ?_, fun i hi => ?_, fun i hi => ?_⟩, fun x => ?_, I.sur⟩
  · rw [List.length_append, List.length_replicate, diag_len, T.len]
    exact I.cnt
  · rw [List.length_append, I.wl]
    exact I.cnt
  · rcases List.mem_append.mp hr with h | h
    · exact I.wr r h
    · exact I.fr r h
  · rw [gk2, if_pos hi]
    exact T.pos i hi
  · rw [gk2, if_neg (by omega)]
  · rw [gk2, gk2, if_pos (by omega), if_pos hi]
    have := uneven_none hu (fun i hi => by rw [diag_len, T.len] at hi; rw [gk i hi]; exact T.pos i hi) i (by rw [diag_len, T.len]; exact hi)
    rw [gk i (by omega), gk (i + 1) hi] at this
    exact this
  · rw [← I.mem]
    unfold Mem
    have e := rs_straight T hi (v := fun i => dot n (rowsR s.1 i) x)
    rw [I.wl, e]
    have hc := I.cnt
    constructor
    · rintro ⟨h1, h2⟩ i hin
      rw [gk2, rowsR_append, I.wl]
      split
      · rename_i h
        exact h2 i h
      · rename_i h
        have h3 : i - k < s.2.1.length := by omega
        rw [rowsR_at h3, h1 _ (List.getElem_mem h3)]
        exact Int.dvd_refl _
    · intro h
      refine ⟨fun f hf => ?_, fun i hi => ?_⟩
      · obtain ⟨j, hj, rfl⟩ := List.mem_iff_getElem.mp hf
        have := h (k + j) (by omega)
        rw [gk2, if_neg (by omega), rowsR_append, I.wl, if_neg (by omega), show k + j - k = j by omega, rowsR_at hj] at this
        exact Int.zero_dvd.mp this
      · have := h i (by omega)
        rw [gk2, if_pos hi, rowsR_append, I.wl, if_pos hi] at this
        exact this
/-- a row put to the one ahead -/
theorem set_at {at_ : Nat} {r : Row} (h : at_ < rows.length) (i : Nat) : rowsR (rows.set at_ r) i = if i = at_ then gf r else rowsR rows i := by
  unfold rowsR
  rw [List.getD_eq_getElem?_getD, List.getD_eq_getElem?_getD, List.getElem?_set]
  by_cases e : at_ = i
  · rw [if_pos e, if_pos h, if_pos e.symm]
    rfl
  · rw [if_neg e, if_neg (fun z => e z.symm)]
structure Mend (k at_ : Nat) (rows : List Row) (a : Nat → Int) : Prop where
  tri : Tri k rows a
  lt : at_ + 1 < k
  isl : ∀ l, l < k → l ≠ at_ → l ≠ at_ + 1 → Isl rows l (a l)
  r1 : ∀ c, rowsR rows at_ c = if c = at_ then a at_ else if c = at_ + 1 then a (at_ + 1) else 0
  r2 : ∀ c, rowsR rows (at_ + 1) c = if c = at_ + 1 then a (at_ + 1) else 0
  ne : ¬ a at_ ∣ a (at_ + 1)
theorem lv_mend {P : Vec → Prop} {s : LvS} (I : LvI n k P s a) (hs : isStraight s.2.2 = true) {at_ : Nat} (hu : uneven (diag s.2.2) = some at_) :
    LvI n k P (s.1, s.2.1, s.2.2.set at_ (mixed 1 (s.2.2.getD at_ []) 1 (s.2.2.getD (at_ + 1) []))) a ∧ Mend k at_ (s.2.2.set at_ (mixed 1 (s.2.2.getD at_ []) 1 (s.2.2.getD (at_ + 1) []))) a := by
  have T := I.tri
  have hi := (isl_all T).mpr hs
  obtain ⟨u1, u2⟩ := uneven_some hu
  rw [diag_len, T.len] at u1
  have gk : ∀ i, i < k → gf (diag s.2.2) i = a i := fun i hi => by rw [gf_diag (by rw [T.len]; exact hi), T.dia i hi]
  rw [gk _ (by omega), gk _ u1] at u2
  have rl : ∀ i, i < k → (s.2.2.getD i []).length = k := fun i hi => by
    rw [List.getD_eq_getElem?_getD, List.getElem?_eq_getElem (by rw [T.len]; exact hi)]
    exact T.row _ (List.getElem_mem _)
  have gm : gf (mixed 1 (s.2.2.getD at_ []) 1 (s.2.2.getD (at_ + 1) [])) = fun c => rowsR s.2.2 at_ c + rowsR s.2.2 (at_ + 1) c := by
    funext c
    rw [gf_mixed (by rw [rl _ (by omega), rl _ u1])]
    show 1 * rowsR s.2.2 at_ c + 1 * rowsR s.2.2 (at_ + 1) c = _
    omega
  have hat : at_ < s.2.2.length := by rw [T.len]; omega
  have R := fun i => set_at (rows := s.2.2) (r := mixed 1 (s.2.2.getD at_ []) 1 (s.2.2.getD (at_ + 1) [])) hat i
  rw [gm] at R
  generalize hn : s.2.2.set at_ (mixed 1 (s.2.2.getD at_ []) 1 (s.2.2.getD (at_ + 1) [])) = nr at *
  have q1 : ∀ c, rowsR nr at_ c = if c = at_ then a at_ else if c = at_ + 1 then a (at_ + 1) else 0 := fun c => by
    rw [R, if_pos rfl, (hi at_ (by omega)).1, (hi (at_ + 1) u1).1]
    by_cases e1 : c = at_
    · rw [if_pos e1, if_pos e1, if_neg (by omega)]
      omega
    · rw [if_neg e1, if_neg e1]
      omega
  have q2 : ∀ c, rowsR nr (at_ + 1) c = if c = at_ + 1 then a (at_ + 1) else 0 := fun c => by
    rw [R, if_neg (by omega), (hi (at_ + 1) u1).1]
  have q3 : ∀ i, i ≠ at_ → rowsR nr i = rowsR s.2.2 i := fun i ne => by rw [R, if_neg ne]
  have nl : nr.length = k := by rw [← hn, List.length_set, T.len]
  have tri : Tri k nr a := by
    refine ⟨nl, fun r hr => ?_, fun r c hr hc => ?_, T.pos, fun r hr => ?_, fun r c hrc hc => ?_⟩
    · rw [← hn] at hr
      rcases List.mem_or_eq_of_mem_set hr with h | h
      · exact T.row r h
      · rw [h, mixed_len (by rw [rl _ (by omega), rl _ u1]), rl _ (by omega)]
    · by_cases e : r = at_
      · rw [e, q1, if_neg (by omega), if_neg (by omega)]
      · rw [q3 r e, T.low r c hr hc]
    · by_cases e : r = at_
      · rw [e, q1, if_pos rfl]
      · rw [q3 r e, T.dia r hr]
    · by_cases e : r = at_
      · rw [e, q1, if_neg (by omega)]
        have := T.pos c hc
        split
        · rename_i h
          rw [h]
          rw [h] at this
          omega
        · omega
      · rw [q3 r e]
        exact T.red r c hrc hc
  refine ⟨⟨I.wl, I.wr, I.fr, I.cnt, I.sur, tri, fun x => ?_⟩, ⟨tri, u1, fun l hl n1 n2 => ⟨fun c => ?_, fun c ne => ?_⟩, q1, q2, u2⟩⟩
  · rw [← I.mem]
    unfold Mem
    -- the same is spanned
    have e : RS nr s.1.length (fun i => dot n (rowsR s.1 i) x) ↔ RS s.2.2 s.1.length fun i => dot n (rowsR s.1 i) x := by
      rw [I.wl]
      have key : ∀ (z : Nat → Int) (i : Nat), (sm k fun j => z j * rowsR nr j i) = (sm k fun j => z j * rowsR s.2.2 j i) + z at_ * rowsR s.2.2 (at_ + 1) i := fun z i => by
        have h1 : (sm k fun j => z j * rowsR nr j i) = sm k fun j => z j * rowsR s.2.2 j i + (if j = at_ then z at_ * rowsR s.2.2 (at_ + 1) i else 0) := sm_congr fun j _ => by
          rw [R]
          split
          · rename_i h
            rw [h]
            grind
          · omega
        rw [h1, sm_add (g := fun j => if j = at_ then z at_ * rowsR s.2.2 (at_ + 1) i else 0), sm_one (f := fun j => if j = at_ then z at_ * rowsR s.2.2 (at_ + 1) i else 0) (show at_ < k by omega) fun j _ ne => if_neg ne, if_pos rfl]
      have key2 : ∀ (z : Nat → Int) (t : Int) (i : Nat), (sm k fun j => (z j + if j = at_ + 1 then t else 0) * rowsR s.2.2 j i) = (sm k fun j => z j * rowsR s.2.2 j i) + t * rowsR s.2.2 (at_ + 1) i := fun z t i => by
        have h1 : (sm k fun j => (z j + if j = at_ + 1 then t else 0) * rowsR s.2.2 j i) = sm k fun j => z j * rowsR s.2.2 j i + (if j = at_ + 1 then t * rowsR s.2.2 (at_ + 1) i else 0) := sm_congr fun j _ => by
          split
          · rename_i h
            rw [h]
            grind
          · simp
        rw [h1, sm_add (g := fun j => if j = at_ + 1 then t * rowsR s.2.2 (at_ + 1) i else 0), sm_one (f := fun j => if j = at_ + 1 then t * rowsR s.2.2 (at_ + 1) i else 0) u1 fun j _ ne => if_neg ne, if_pos rfl]
      unfold RS
      rw [nl, T.len]
      constructor
      · rintro ⟨z, hz⟩
        refine ⟨fun j => z j + if j = at_ + 1 then z at_ else 0, fun i hi => ?_⟩
        rw [hz i hi, key z i, key2]
      · rintro ⟨z, hz⟩
        refine ⟨fun j => z j + if j = at_ + 1 then - z at_ else 0, fun i hi => ?_⟩
        rw [hz i hi, key]
        rw [key2, if_neg (by omega)]
        grind
    rw [e]
  · rw [q3 l n1, (hi l hl).1]
  · by_cases e : c = at_
    · rw [e, q1, if_neg (by omega), if_neg (by omega)]
    · rw [q3 c e]
      exact (hi l hl).2 c ne
theorem psi_pos (T : Tri k rows a) : 0 < Psi k a := prd_pos fun i hi => by
  have := prdI_pos (n := i + 1) fun r hr => T.pos r (by omega)
  omega
/-- THE LOOP ENDS -/
theorem lv_ends {P : Vec → Prop} : ∀ f : Nat,
    (∀ e p (s : LvS) (a : Nat → Int), LvI n k P s a → (∀ l, l < p → Isl s.2.2 l (a l)) → p < k → Psi k a < 2 ^ e → e + (k - p) ≤ f → ∃ r, lv n f s = some r ∧ LvOk n P r.1 r.2) ∧
    (∀ e at_ (s : LvS) (a : Nat → Int), LvI n k P s a → Mend k at_ s.2.2 a → Psi k a < 2 ^ e → e ≤ f → ∃ r, lv n f s = some r ∧ LvOk n P r.1 r.2)
  | 0 => ⟨fun e p s a _ _ hp _ hf => by omega, fun e at_ s a I M hψ hf => by
      have e0 : e = 0 := by omega
      rw [e0] at hψ
      have := psi_pos I.tri
      omega⟩
  | f + 1 => by
    obtain ⟨ihA, ihB⟩ := lv_ends (P := P) f
    -- behind a round that left straight rows
    have str : ∀ e (s : LvS) (a : Nat → Int), LvI n k P s a → isStraight s.2.2 = true → Psi k a < 2 ^ e → e ≤ f → ∃ r, (match lvEnd s with | .inl r => some r | .inr t => lv n f t) = some r ∧ LvOk n P r.1 r.2 := fun e s a I hs hψ hf => by
      unfold lvEnd
      rw [if_pos hs]
      cases hu : uneven (diag s.2.2) with
      | none => exact ⟨_, rfl, lv_done I hs hu⟩
      | some at_ =>
        obtain ⟨I2, M⟩ := lv_mend I hs hu
        exact ihB e at_ _ a I2 M hψ hf
    refine ⟨fun e p s a I hp hpk hψ hf => ?_, fun e at_ s a I M hψ hf => ?_⟩
    · obtain ⟨I2, er⟩ := lvI_round I
      have nx := rnd_next I.tri hpk hp
      have le := psi_le I.tri.pos (rnd_of I.tri).dvd
      show ∃ r, (match lvEnd (lvRound n s.1 s.2.1 s.2.2) with | .inl r => some r | .inr t => lv n f t) = some r ∧ LvOk n P r.1 r.2
      by_cases hs : isStraight (lvRound n s.1 s.2.1 s.2.2).2.2 = true
      · exact str e _ _ I2 hs (by omega) (by omega)
      · unfold lvEnd
        rw [if_neg hs]
        rw [← er] at nx
        obtain ⟨n1, n2⟩ := nx
        rcases n2 with n2 | n2
        · have all : ∀ l, l < p + 1 → Isl (lvRound n s.1 s.2.1 s.2.2).2.2 l (piv (Hf (Hf s.2.2 k).steps k) l) := fun l hl => by
            by_cases e : l = p
            · rw [e]; exact n2
            · exact n1 l (by omega)
          have hp1 : p + 1 < k := by
            rcases Nat.lt_or_ge (p + 1) k with z | z
            · exact z
            · exfalso
              exact hs ((isl_all I2.tri).mp fun l hl => all l (by omega))
          exact ihA e (p + 1) _ _ I2 all hp1 (by omega) (by omega)
        · cases e with
          | zero =>
            have h1 := psi_pos I2.tri
            have : Psi k a < 1 := hψ
            omega
          | succ e => exact ihA e p _ _ I2 n1 hpk (by rw [Nat.pow_succ] at hψ; omega) (by omega)
    · obtain ⟨I2, er⟩ := lvI_round I
      obtain ⟨m1, m2⟩ := rnd_mend I.tri M.lt M.isl M.r1 M.r2 M.ne
      rw [← er] at m1
      have hs := (isl_all I2.tri).mp m1
      show ∃ r, (match lvEnd (lvRound n s.1 s.2.1 s.2.2) with | .inl r => some r | .inr t => lv n f t) = some r ∧ LvOk n P r.1 r.2
      cases e with
      | zero =>
        have h1 := psi_pos I2.tri
        have : Psi k a < 1 := hψ
        omega
      | succ e => exact str e _ _ I2 hs (by rw [Nat.pow_succ] at hψ; omega) (by omega)
end
end Sm
/-! # A15 -/
namespace Sm
def units (n : Nat) : List Row := (List.range n).map fun a => unit a n
theorem units_len {n : Nat} : (units n).length = n := by unfold units; simp
theorem units_rows {n : Nat} : ∀ r ∈ units n, r.length = n := fun r hr => by
  obtain ⟨a, _, rfl⟩ := List.mem_map.mp hr
  unfold unit
  simp
theorem units_at {n i : Nat} (h : i < n) (j : Nat) : rowsR (units n) i j = if j = i ∧ j < n then 1 else 0 := by
  rw [rowsR_at (by rw [units_len]; exact h)]
  unfold units
  rw [List.getElem_map, List.getElem_range, gf_unit]
theorem dot_unit {n i : Nat} (h : i < n) {x : Vec} : dot n (rowsR (units n) i) x = x i := by
  unfold dot
  rw [sm_one (f := fun l => rowsR (units n) i l * x l) h fun l hl ne => by rw [units_at h, if_neg (fun z => ne z.1), Int.zero_mul]]
  rw [units_at h, if_pos ⟨rfl, h⟩, Int.one_mul]
theorem full_tri_steps {R : Nat → Vec} {S : Sts} (F : Fin R S.m S) (h : Full S) : Tri S.w S.steps (piv S) := by
  have st : ∀ r, r < S.w → rowsR S.steps r = rowAt S.sp r := fun r hr => steps_at (by unfold Full at h; omega)
  refine ⟨by rw [steps_len]; exact h, fun r hr => steps_rows F r hr, fun r c hr hc => ?_, fun r hr => full_pos F h hr, fun r hr => ?_, fun r c hrc hc => ?_⟩
  · rw [st r hr]
    exact full_tri F h hr hc
  · rw [st r hr]
    rfl
  · rw [st r (by omega)]
    have := full_red F h hrc hc
    omega
section
variable {n : Nat} {R0 : Nat → Vec} {S0 : Sts} {k0 : Nat}
theorem sp_col_lt (i : Nat) (h : i < S0.sp.length) : colAt S0.sp i < S0.w := by
  unfold colAt
  rw [List.getElem?_eq_getElem h]
  have hm := List.getElem_mem h
  unfold Sts.sp cutL at hm ⊢
  obtain ⟨q, hq, e⟩ := List.mem_map.mp hm
  show ((List.map (fun q => (q.1, cut S0.w q.2)) (vecs (S0.cols 0)))[i]).1 < S0.w
  rw [← e]
  exact cols_lt q hq
/-- the first round: steps that start in any columns -/
theorem first_full (F : Fin R0 k0 S0) : Full (Up (units S0.w) S0.steps) ∧ ∀ i, i ≤ S0.steps.length → prdI i (piv (Up (units S0.w) S0.steps)) ∣ prdI i fun r => rowAt S0.sp r (colAt S0.sp r) := by
  obtain ⟨F1, w1, m1⟩ := up_fin (W := units S0.w) (rows := S0.steps)
  rw [units_len] at m1 F1
  have F1' : Fin (rowsR (turned S0.steps S0.w)) (Up (units S0.w) S0.steps).m (Up (units S0.w) S0.steps) := by rw [m1]; exact F1
  have hR : ∀ i, i < (Up (units S0.w) S0.steps).m → ∀ j, (Up (units S0.w) S0.steps).w ≤ j → rowsR (turned S0.steps S0.w) i j = 0 := fun i hi j hj => rowsR_out turned_rows i (by rw [turned_len]; omega) j (by omega)
  have hlen : S0.sp.length = S0.steps.length := by rw [sp_len, steps_len]
  have at_ : ∀ r, r < S0.steps.length → ∀ c, rowsR (turned S0.steps S0.w) (colAt S0.sp r) c = rowsR S0.steps c (colAt S0.sp r) := fun r hr c => turned_at (sp_col_lt r (by omega)) c
  have st : ∀ c, c < S0.steps.length → rowsR S0.steps c = rowAt S0.sp c := fun c hc => steps_at (by rw [← steps_len]; exact hc)
  have hv : ∀ r, r < (Up (units S0.w) S0.steps).w → InS (Up (units S0.w) S0.steps).sp (rowsR (turned S0.steps S0.w) (colAt S0.sp r)) := fun r hr => F1'.row_in hR (by
    have := sp_col_lt (S0 := S0) r (by omega)
    omega)
  have hl : ∀ r c, r < c → c < (Up (units S0.w) S0.steps).w → rowsR (turned S0.steps S0.w) (colAt S0.sp r) c = 0 := fun r c hrc hc => by
    rw [at_ r (by omega), st c (by omega)]
    exact ech_tri F.sp_ech c r hrc (by omega)
  have hd : ∀ r, r < (Up (units S0.w) S0.steps).w → rowsR (turned S0.steps S0.w) (colAt S0.sp r) r = rowAt S0.sp r (colAt S0.sp r) := fun r hr => by
    rw [at_ r (by omega), st r (by omega)]
  have fu : Full (Up (units S0.w) S0.steps) := full_of F1' hv hl fun r hr => by
    rw [hd r hr]
    have := ech_pos F.sp_ech r (by omega)
    omega
  refine ⟨fu, fun i hi => ?_⟩
  have h := full_dvd F1' fu hv hl (i := i) (by omega)
  have e : (prdI i fun r => rowsR (turned S0.steps S0.w) (colAt S0.sp r) r) = prdI i fun r => rowAt S0.sp r (colAt S0.sp r) := prdI_congr fun r hr => hd r (by omega)
  rw [e] at h
  exact h
theorem up_tri (F : Fin R0 k0 S0) : Tri S0.steps.length (Up (units S0.w) S0.steps).steps (piv (Up (units S0.w) S0.steps)) := by
  obtain ⟨F1, w1, m1⟩ := up_fin (W := units S0.w) (rows := S0.steps)
  have := full_tri_steps (by rw [m1]; exact F1) (first_full F).1
  rw [w1] at this
  exact this
/-- what stands behind the first round -/
theorem first_I (F : Fin R0 k0 S0) : LvI S0.w S0.steps.length (RS S0.steps S0.w) (lvRound S0.w (units S0.w) [] S0.steps) (piv (Hf (Up (units S0.w) S0.steps).steps S0.steps.length)) ∧
    (lvRound S0.w (units S0.w) [] S0.steps).2.2 = (Hf (Up (units S0.w) S0.steps).steps S0.steps.length).steps := by
  obtain ⟨F1, w1, m1⟩ := up_fin (W := units S0.w) (rows := S0.steps)
  have fu := (first_full F).1
  have U := up_tri F
  have wl : (lvRound S0.w (units S0.w) [] S0.steps).1.length = S0.steps.length := by
    rw [lv_Wlen]
    unfold Full at fu
    omega
  have er : (lvRound S0.w (units S0.w) [] S0.steps).2.2 = (Hf (Up (units S0.w) S0.steps).steps S0.steps.length).steps := by rw [lv_rows, wl]
  refine ⟨⟨wl, fun r hr => ?_, fun r hr => ?_, ?_, lv_sur units_rows fun u => ⟨u, fun i hi => ?_⟩, by rw [er]; exact hf_tri U, fun x => ?_⟩, er⟩
  · rw [lv_W] at hr
    obtain ⟨q, hq, rfl⟩ := List.mem_map.mp hr
    exact woven_len (up_len (List.mem_append.mpr (.inl hq))) units_rows
  · rw [lv_F, List.nil_append] at hr
    obtain ⟨q, hq, rfl⟩ := List.mem_map.mp hr
    exact woven_len (up_len (List.mem_append.mpr (.inr hq))) units_rows
  · rw [lv_F, List.nil_append, List.length_map]
    have h1 := F1.cnt
    unfold Sts.gens at h1
    rw [List.length_append, units_len] at h1
    unfold Full at fu
    omega
  · rw [List.append_nil, units_len] at hi
    rw [List.append_nil, dot_unit hi]
  · rw [lv_mem units_rows (fun r hr => by rw [steps_rows F r hr, units_len])]
    unfold Mem
    have e : RS S0.steps (units S0.w).length (fun i => dot S0.w (rowsR (units S0.w) i) x) ↔ RS S0.steps S0.w x := by
      rw [units_len]
      exact RS.congr fun i hi => dot_unit hi
    rw [e]
    exact ⟨fun h => h.2, fun h => ⟨fun f hf => (nomatch hf), h⟩⟩
theorem prdI_mono {a : Nat → Int} {k : Nat} (ha : ∀ r, r < k → 0 < a r) {i : Nat} (h : i ≤ k) : prdI i a ≤ prdI k a := by
  obtain ⟨d, rfl⟩ : ∃ d, k = i + d := ⟨k - i, by omega⟩
  induction d with
  | zero => exact Int.le_refl _
  | succ d ih =>
    have h1 := ih (fun r hr => ha r (by omega)) (by omega)
    have h2 : 0 < prdI (i + d) a := prdI_pos fun r hr => ha r (by omega)
    have h3 := le_mul_pos (a := prdI (i + d) a) (b := a (i + d)) (by omega) (ha _ (by omega))
    show prdI i a ≤ prdI (i + d) a * a (i + d)
    omega
theorem psi_pow {k d : Nat} {a : Nat → Int} (ha : ∀ r, r < k → 0 < a r) (h : prdI k a ≤ 2 ^ d) : Psi k a < 2 ^ (d * k + 1) := by
  unfold Psi
  have h1 : ∀ i, i < k → (prdI (i + 1) a).natAbs ≤ 2 ^ d := fun i hi => by
    have a1 := prdI_mono ha (i := i + 1) (by omega)
    have a2 : 0 < prdI (i + 1) a := prdI_pos fun r hr => ha r (by omega)
    have a3 : ((2 ^ d : Nat) : Int) = 2 ^ d := by simp
    omega
  have key : ∀ m, m ≤ k → prd m (fun i => (prdI (i + 1) a).natAbs) ≤ 2 ^ (d * m) := by
    intro m
    induction m with
    | zero => exact fun _ => Nat.le_refl _
    | succ m ih =>
      intro hm
      show prd m _ * _ ≤ _
      rw [Nat.mul_succ, Nat.pow_add]
      exact Nat.mul_le_mul (ih (by omega)) (h1 m (by omega))
  have := key k (Nat.le_refl _)
  rw [Nat.pow_succ]
  have : 0 < 2 ^ (d * k) := Nat.pow_pos (by decide)
  omega
theorem sp_prd : prdI S0.steps.length (fun r => rowAt S0.sp r (colAt S0.sp r)) = pivs S0.sp := by
  unfold pivs
  rw [sp_len, steps_len]
/-- the pivots behind the first round -/
theorem first_le (F : Fin R0 k0 S0) : prdI S0.steps.length (piv (Hf (Up (units S0.w) S0.steps).steps S0.steps.length)) ≤ pivs S0.sp := by
  have h1 := (first_full F).2 S0.steps.length (Nat.le_refl _)
  have h2 := hf_dvd (up_tri F) (Nat.le_refl S0.steps.length)
  rw [sp_prd] at h1
  exact Int.le_of_dvd (pivs_pos F.sp_ech) (Int.dvd_trans h2 h1)
/-- LEVELLED: told of the steps of stairs, whatever is enough turns -/
theorem levelled_ok (F : Fin R0 k0 S0) {d f : Nat} (hd : pivs S0.sp ≤ 2 ^ d) (hf : d * S0.steps.length + S0.steps.length + 2 ≤ f) :
    ∃ r, lv S0.w f (units S0.w, [], S0.steps) = some r ∧ LvOk S0.w (RS S0.steps S0.w) r.1 r.2 := by
  obtain ⟨f, rfl⟩ : ∃ g, f = g + 1 := ⟨f - 1, by omega⟩
  obtain ⟨I, er⟩ := first_I F
  have le := first_le F
  have ψ := psi_pow (d := d) I.tri.pos (by omega)
  show ∃ r, (match lvEnd (lvRound S0.w (units S0.w) [] S0.steps) with | .inl r => some r | .inr t => lv S0.w f t) = some r ∧ LvOk S0.w (RS S0.steps S0.w) r.1 r.2
  obtain ⟨eA, eB⟩ := lv_ends (n := S0.w) (k := S0.steps.length) (P := RS S0.steps S0.w) f
  by_cases hs : isStraight (lvRound S0.w (units S0.w) [] S0.steps).2.2 = true
  · unfold lvEnd
    rw [if_pos hs]
    cases hu : uneven (diag (lvRound S0.w (units S0.w) [] S0.steps).2.2) with
    | none => exact ⟨_, rfl, lv_done I hs hu⟩
    | some at_ =>
      obtain ⟨I2, M⟩ := lv_mend I hs hu
      exact eB _ at_ _ _ I2 M ψ (by omega)
  · unfold lvEnd
    rw [if_neg hs]
    have k0 : 0 < S0.steps.length := by
      rcases Nat.eq_zero_or_pos S0.steps.length with z | z
      · exfalso
        exact hs ((isl_all I.tri).mp fun l hl => by omega)
      · exact z
    exact eA _ 0 _ _ I (fun l hl => by omega) k0 ψ (by omega)
end

/-! ### sizes of levelling -/
def RoundSz (z n : Nat) (s : LvS) : Prop :=
  AllOk z (turned s.2.2 s.1.length) 0 ⟨s.2.2.length, (turned s.2.2 s.1.length).length, fun _ => none, []⟩ ∧
  (∃ T w, (∀ q ∈ (Up s.1 s.2.2).gens, Lim T (q.2.drop s.2.2.length)) ∧ Within w s.1 ∧ s.1.length * (T * w) ≤ z ∧ T ≤ z ∧ w ≤ z) ∧
  AllOk z (turned (Up s.1 s.2.2).steps s.2.2.length) 0 ⟨(lvRound n s.1 s.2.1 s.2.2).1.length, (turned (Up s.1 s.2.2).steps s.2.2.length).length, fun _ => none, []⟩ ∧
  Within z (lvRound n s.1 s.2.1 s.2.2).2.2
def LvSz (z n : Nat) : Nat → LvS → Prop
  | 0, _ => True
  | f + 1, s => RoundSz z n s ∧ match lvEnd (lvRound n s.1 s.2.1 s.2.2) with
    | .inl _ => True
    | .inr t => LvSz z n f t
section
variable {k n : Nat} {rows : List Row} {a : Nat → Int}
theorem Tri.within (T : Tri k rows a) {D : Nat} (h : ∀ c, c < k → a c ≤ D) : Within D rows := fun r hr j => by
  obtain ⟨i, hi, rfl⟩ := List.mem_iff_getElem.mp hr
  have e : gf rows[i] = rowsR rows i := (rowsR_at hi).symm
  rw [e]
  have hk : i < k := by rw [← T.len]; exact hi
  by_cases hj : j < k
  · rcases Nat.lt_trichotomy j i with q | q | q
    · rw [T.low i j hk q]; simp
    · rw [q, T.dia i hk]
      have := T.pos i hk
      have := h i hk
      omega
    · have := T.red i j q hj
      have := h j hj
      omega
  · rw [T.out (by omega)]; simp
/-- the last d of a sum -/
def tl (f : Nat → Nat) (n : Nat) : Nat → Nat
  | 0 => 0
  | d + 1 => tl f n d + f (n - d - 1)
theorem tl_grow {f : Nat → Nat} {n D : Nat} (h : ∀ d, d < n → f (n - d - 1) ≤ D + tl f n d) : ∀ d, d ≤ n → tl f n d ≤ (2 ^ d - 1) * D
  | 0, _ => Nat.zero_le _
  | d + 1, hd => by
    have ih := tl_grow h d (by omega)
    have h1 := h d (by omega)
    show tl f n d + f (n - d - 1) ≤ (2 ^ (d + 1) - 1) * D
    have h2 : 1 ≤ 2 ^ d := Nat.pow_pos (by decide)
    have e : (2 ^ (d + 1) - 1) * D = (2 ^ d - 1) * D + (2 ^ d - 1) * D + D := by
      rw [Nat.pow_succ]
      have : 2 ^ d * 2 - 1 = (2 ^ d - 1) + (2 ^ d - 1) + 1 := by omega
      rw [this, Nat.add_mul, Nat.add_mul, Nat.one_mul]
    omega
theorem sm_tail {f : Nat → Int} {g : Nat → Nat} {n : Nat} : ∀ {d : Nat}, d ≤ n → (∀ i, i < n → n - d ≤ i → (f i).natAbs ≤ g i) → (∀ i, i < n - d → f i = 0) → (sm n f).natAbs ≤ tl g n d := fun {d} hd h hz => by
  have key : ∀ e, e ≤ d → (sm (n - d + e) f).natAbs + tl g n (d - e) ≤ tl g n d := by
    intro e
    induction e with
    | zero =>
      intro _
      rw [Nat.add_zero, sm_zero (n := n - d) hz]
      simp
    | succ e ih =>
      intro he
      have h1 := ih (by omega)
      have h2 := h (n - d + e) (by omega) (by omega)
      have h3 : tl g n (d - e) = tl g n (d - (e + 1)) + g (n - (d - (e + 1)) - 1) := by
        have : d - e = (d - (e + 1)) + 1 := by omega
        rw [this]
        rfl
      have h4 : n - (d - (e + 1)) - 1 = n - d + e := by omega
      rw [h4] at h3
      have h5 := Int.natAbs_add_le (sm (n - d + e) f) (f (n - d + e))
      show (sm (n - d + e) f + f (n - d + e)).natAbs + tl g n (d - (e + 1)) ≤ tl g n d
      omega
  have := key d (Nat.le_refl _)
  rw [show n - d + d = n by omega, Nat.sub_self] at this
  show (sm n f).natAbs ≤ _
  have h0 : tl g n 0 = 0 := rfl
  omega
/-- how often each row is taken, of square rows -/
theorem times_le (T : Tri k rows a) {D : Nat} (hD : ∀ c, c < k → piv (Hf rows k) c ≤ D) {q : Nat × Row} (hq : q ∈ (Hf rows k).gens) (j : Nat) : (gf (q.2.drop k) j).natAbs ≤ 2 ^ k * D := by
  obtain ⟨F, w1, m1, hR⟩ := hf_fin T
  have fu := hf_full T
  rw [gf_drop]
  by_cases hj : j < k
  · -- the products of the times and the pivots
    have hent : ∀ c, c < k → (gf q.2 c).natAbs ≤ D := fun c hc => by
      obtain ⟨s, h1, h2, h3⟩ := full_row fu (show c < (Hf rows k).w by omega)
      have hm : (c, s) ∈ (Hf rows k).gens := mem_gens.mpr (.inl ⟨by omega, h1⟩)
      have := F.small hq hm
      have hp := hD c hc
      unfold piv at hp
      rw [h2] at hp
      unfold cut at hp
      rw [if_pos (by omega)] at hp
      have this2 : 0 ≤ gf q.2 c ∧ gf q.2 c ≤ gf s c := this
      omega
    have eq : ∀ c, c < k → gf q.2 c = sm k fun i => gf q.2 (k + i) * rowsR rows c i := fun c hc => by
      have := F.g.tru q hq c (by omega)
      rw [w1, m1] at this
      rw [this]
      exact sm_congr fun i hi => by rw [turned_at hi]
    have grow : ∀ d, d < k → (gf q.2 (k + (k - d - 1))).natAbs * (a (k - d - 1)).natAbs ≤ D + tl (fun c => (gf q.2 (k + c)).natAbs * (a c).natAbs) k d := fun d hd => by
      have e := eq (k - d - 1) (by omega)
      -- the term of the diagonal and the rest
      have sp : (sm k fun i => gf q.2 (k + i) * rowsR rows (k - d - 1) i) = gf q.2 (k + (k - d - 1)) * a (k - d - 1) + sm k fun i => if i = k - d - 1 then 0 else gf q.2 (k + i) * rowsR rows (k - d - 1) i := by
        have h1 : (sm k fun i => gf q.2 (k + i) * rowsR rows (k - d - 1) i) = sm k fun i => (if i = k - d - 1 then gf q.2 (k + i) * rowsR rows (k - d - 1) i else 0) + if i = k - d - 1 then 0 else gf q.2 (k + i) * rowsR rows (k - d - 1) i := sm_congr fun i _ => by split <;> omega
        rw [h1, sm_add, sm_one (f := fun i => if i = k - d - 1 then gf q.2 (k + i) * rowsR rows (k - d - 1) i else 0) (show k - d - 1 < k by omega) fun i _ ne => if_neg ne, if_pos rfl, T.dia _ (by omega)]
      have tb : (sm k fun i => if i = k - d - 1 then 0 else gf q.2 (k + i) * rowsR rows (k - d - 1) i).natAbs ≤ tl (fun c => (gf q.2 (k + c)).natAbs * (a c).natAbs) k d := sm_tail (by omega) (fun i hi hi2 => by
        rw [if_neg (by omega), Int.natAbs_mul]
        refine Nat.mul_le_mul_left _ ?_
        have := T.red (k - d - 1) i (by omega) hi
        have := T.pos i hi
        omega) fun i hi => by
        by_cases e : i = k - d - 1
        · rw [if_pos e]
        · rw [if_neg e, T.low (k - d - 1) i (by omega) (by omega), Int.mul_zero]
      have hb := hent (k - d - 1) (by omega)
      rw [← Int.natAbs_mul]
      rw [sp] at e
      generalize gf q.2 (k + (k - d - 1)) * a (k - d - 1) = u at *
      omega
    have := tl_grow (f := fun c => (gf q.2 (k + c)).natAbs * (a c).natAbs) grow (k - j) (by omega)
    have h1 := grow (k - j - 1) (by omega)
    have h2 : k - (k - j - 1) - 1 = j := by omega
    rw [h2] at h1
    have h3 : tl (fun c => (gf q.2 (k + c)).natAbs * (a c).natAbs) k (k - j - 1) ≤ (2 ^ (k - j - 1) - 1) * D := tl_grow (f := fun c => (gf q.2 (k + c)).natAbs * (a c).natAbs) grow (k - j - 1) (by omega)
    have h4 : (2 ^ (k - j - 1) - 1) * D + D ≤ 2 ^ k * D := by
      have p1 : 1 ≤ 2 ^ (k - j - 1) := Nat.pow_pos (by decide)
      have p2 : 2 ^ (k - j - 1) ≤ 2 ^ k := Nat.pow_le_pow_right (by decide) (by omega)
      have : (2 ^ (k - j - 1) - 1) * D + D = 2 ^ (k - j - 1) * D := by
        have : 2 ^ (k - j - 1) = (2 ^ (k - j - 1) - 1) + 1 := by omega
        conv => rhs; rw [this, Nat.add_mul, Nat.one_mul]
      rw [this]
      exact Nat.mul_le_mul_right _ p2
    have h5 := Nat.le_mul_of_pos_right (gf q.2 (k + j)).natAbs (show 0 < (a j).natAbs by have := T.pos j hj; omega)
    omega
  · have : gf q.2 (k + j) = 0 := gf_out (by rw [F.g.len q hq, w1, m1]; omega)
    rw [this]
    simp
theorem within_woven {t : Row} {W : List Row} {T w : Nat} (h : t.length = W.length) (hr : ∀ r ∈ W, r.length = n) (ht : Lim T t) (hw : Within w W) (j : Nat) : (gf (woven t W n) j).natAbs ≤ W.length * (T * w) := by
  rw [gf_woven h hr]
  refine sm_abs fun i hi => ?_
  rw [Int.natAbs_mul, rowsR_at hi]
  exact Nat.mul_le_mul (ht i) (hw _ (List.getElem_mem hi) j)
theorem piv_le_prd {b : Nat → Int} (hb : ∀ r, r < k → 0 < b r) {c : Nat} (hc : c < k) : b c ≤ prdI k b := by
  have h1 := prdI_mono hb (i := c + 1) (by omega)
  have h2 : 0 < prdI c b := prdI_pos fun r hr => hb r (by omega)
  have h3 := le_mul_pos (a := b c) (b := prdI c b) (by have := hb c hc; omega) h2
  have : prdI (c + 1) b = prdI c b * b c := rfl
  rw [this, Int.mul_comm] at h1
  omega
/-- a round over square rows: its numbers, and the weights behind it -/
theorem round_sz {P : Vec → Prop} {s : LvS} (I : LvI n k P s a) {D w z : Nat} (hk : 0 < k) (hD : prdI k a ≤ D) (hw : Within w s.1) (hw1 : 1 ≤ w) (hz : Zb k k D ≤ z) (hz2 : k * (2 ^ k * D * w) ≤ z) :
    RoundSz z n s ∧ Within (k * (2 ^ k * D * w)) (lvRound n s.1 s.2.1 s.2.2).1 := by
  have T := I.tri
  have T1 := hf_tri T
  have hu : Up s.1 s.2.2 = Hf s.2.2 k := up_hf I.wl T.len
  obtain ⟨I2, er⟩ := lvI_round I
  have Dpos : 0 < D := by
    have : 0 < prdI k a := prdI_pos fun r hr => T.pos r hr
    omega
  have d1 : ∀ c, c < k → a c ≤ D := fun c hc => by
    have := piv_le_prd T.pos hc
    omega
  have le1 : prdI k (piv (Hf s.2.2 k)) ≤ D := by
    have := Int.le_of_dvd (prdI_pos fun r hr => T.pos r hr) (hf_dvd T (Nat.le_refl k))
    omega
  have d2 : ∀ c, c < k → piv (Hf s.2.2 k) c ≤ D := fun c hc => by
    have := piv_le_prd T1.pos hc
    omega
  have le2 : prdI k (piv (Hf (Hf s.2.2 k).steps k)) ≤ D := by
    have := Int.le_of_dvd (prdI_pos fun r hr => T1.pos r hr) (hf_dvd T1 (Nat.le_refl k))
    omega
  have d3 : ∀ c, c < k → piv (Hf (Hf s.2.2 k).steps k) c ≤ D := fun c hc => by
    have := piv_le_prd (hf_tri T1).pos hc
    omega
  have wt : ∀ {rows : List Row} {w : Nat}, Within D rows → Within D (turned rows w) := fun {rows w} h r hr j => by
    obtain ⟨i, hi, rfl⟩ := List.mem_iff_getElem.mp hr
    have hi2 : i < w := by rw [turned_len] at hi; exact hi
    rw [← rowsR_at hi, turned_at hi2]
    by_cases hj : j < rows.length
    · rw [rowsR_at hj]
      exact h _ (List.getElem_mem hj) i
    · rw [rowsR_past (by omega)]
      simp
  have dk : 1 ≤ 2 ^ k * D := Nat.mul_pos (Nat.pow_pos (by decide)) Dpos
  have b0 : ∀ q ∈ (Up s.1 s.2.2).gens, Lim (2 ^ k * D) (q.2.drop s.2.2.length) := fun q hq j => by
    rw [hu] at hq
    rw [T.len]
    exact times_le T d2 hq j
  have Tz : 2 ^ k * D ≤ z := by
    have h1 : 2 ^ k * D ≤ 2 ^ k * D * w := Nat.le_mul_of_pos_right _ hw1
    have h2 : 2 ^ k * D * w ≤ k * (2 ^ k * D * w) := Nat.le_mul_of_pos_left _ hk
    omega
  have wz : w ≤ z := by
    have h1 : w ≤ 2 ^ k * D * w := Nat.le_mul_of_pos_left _ dk
    have h2 : 2 ^ k * D * w ≤ k * (2 ^ k * D * w) := Nat.le_mul_of_pos_left _ hk
    omega
  have Dz : D ≤ z := by
    have : D ≤ 2 ^ k * D := Nat.le_mul_of_pos_left _ (Nat.pow_pos (by decide))
    omega
  have sz : ∀ {rows : List Row}, rows.length = k → Within D rows → AllOk z (turned rows k) 0 ⟨k, (turned rows k).length, fun _ => none, []⟩ := fun {rows} hl h =>
    stairs_sz (β := D) (fun r hr => by rw [turned_rows r hr, hl]) (wt h) Dpos (by rw [turned_len]; exact dl_beta Dpos hk) (by rw [turned_len]; exact hz)
  refine ⟨⟨?_, ⟨2 ^ k * D, w, b0, hw, by rw [I.wl]; exact hz2, Tz, wz⟩, ?_, ?_⟩, ?_⟩
  · rw [I.wl, T.len]
    exact sz T.len (T.within d1)
  · rw [I2.wl, T.len, hu]
    exact sz T1.len (T1.within d2)
  · rw [er]
    exact fun r hr j => Nat.le_trans ((hf_tri T1).within d3 r hr j) Dz
  · intro r hr j
    rw [lv_W] at hr
    obtain ⟨q, hq, rfl⟩ := List.mem_map.mp hr
    have hg : q ∈ (Up s.1 s.2.2).gens := List.mem_append.mpr (.inl hq)
    have := within_woven (up_len hg) I.wr (b0 q hg) hw j
    rw [I.wl] at this
    exact this
/-- all further rounds -/
theorem lv_sz {P : Vec → Prop} : ∀ (f : Nat) (s : LvS) (a : Nat → Int) (D w z : Nat), LvI n k P s a → 0 < k → prdI k a ≤ D → Within w s.1 → 1 ≤ w → 0 < D → Zb k k D ≤ z → (k * (2 ^ k * D)) ^ f * w ≤ z →
    LvSz z n f s ∧ ∀ r, lv n f s = some r → Within ((k * (2 ^ k * D)) ^ f * w) (r.2.take k) ∧ r.2.drop k = s.2.1
  | 0, s, a, D, w, z, _, _, _, _, _, _, _, _ => ⟨trivial, fun r hr => nomatch hr⟩
  | f + 1, s, a, D, w, z, I, hk, hD, hw, hw1, hD0, hz, hzw => by
    have T := I.tri
    obtain ⟨I2, er⟩ := lvI_round I
    have Kp : 1 ≤ k * (2 ^ k * D) := Nat.mul_pos hk (Nat.mul_pos (Nat.pow_pos (by decide)) hD0)
    have ef : k * (2 ^ k * D * w) = k * (2 ^ k * D) * w := (Nat.mul_assoc _ _ _).symm
    have e1 : (k * (2 ^ k * D)) ^ (f + 1) * w = (k * (2 ^ k * D)) ^ f * (k * (2 ^ k * D) * w) := by rw [Nat.pow_succ]; grind
    have h1 : k * (2 ^ k * D) * w ≤ (k * (2 ^ k * D)) ^ f * (k * (2 ^ k * D) * w) := Nat.le_mul_of_pos_left _ (Nat.pow_pos Kp)
    obtain ⟨r1, r2⟩ := round_sz I hk hD hw hw1 hz (by omega)
    rw [ef] at r2
    have w2 : 1 ≤ k * (2 ^ k * D) * w := Nat.mul_pos Kp hw1
    have le2 : prdI k (piv (Hf (Hf s.2.2 k).steps k)) ≤ D := by
      have := Int.le_of_dvd (prdI_pos fun r hr => T.pos r hr) ((rnd_of T).dvd k (Nat.le_refl k))
      omega
    have ef2 : (lvRound n s.1 s.2.1 s.2.2).2.1 = s.2.1 := by
      rw [lv_F, up_hf I.wl T.len, hf_gens T]
      simp
    have next : ∀ t, lvEnd (lvRound n s.1 s.2.1 s.2.2) = .inr t → LvI n k P t (piv (Hf (Hf s.2.2 k).steps k)) ∧ t.1 = (lvRound n s.1 s.2.1 s.2.2).1 ∧ t.2.1 = s.2.1 := fun t ht => by
      unfold lvEnd at ht
      by_cases hs : isStraight (lvRound n s.1 s.2.1 s.2.2).2.2 = true
      · rw [if_pos hs] at ht
        cases hu : uneven (diag (lvRound n s.1 s.2.1 s.2.2).2.2) with
        | none =>
          rw [hu] at ht
          cases ht
        | some at_ =>
          rw [hu] at ht
          have ht2 := Sum.inr.inj ht
          rw [← ht2]
          exact ⟨(lv_mend I2 hs hu).1, rfl, ef2⟩
      · rw [if_neg hs] at ht
        have ht2 := Sum.inr.inj ht
        rw [← ht2]
        exact ⟨I2, rfl, ef2⟩
    cases he : lvEnd (lvRound n s.1 s.2.1 s.2.2) with
    | inl r =>
      refine ⟨⟨r1, by rw [he]; trivial⟩, fun r' hr' => ?_⟩
      have : lv n (f + 1) s = some r := by
        show (match lvEnd (lvRound n s.1 s.2.1 s.2.2) with | .inl r => some r | .inr t => lv n f t) = some r
        rw [he]
      rw [this] at hr'
      have hr2 := Option.some.inj hr'
      rw [← hr2]
      -- the weights told
      have eg : r.2 = (lvRound n s.1 s.2.1 s.2.2).1 ++ (lvRound n s.1 s.2.1 s.2.2).2.1 := by
        unfold lvEnd at he
        split at he
        · split at he
          · have := Sum.inl.inj he
            rw [← this]
          · cases he
        · cases he
      rw [eg, ef2]
      refine ⟨fun q hq j => ?_, ?_⟩
      · rw [List.take_left' I2.wl] at hq
        have := r2 q hq j
        omega
      · rw [List.drop_left' I2.wl]
    | inr t =>
      obtain ⟨I3, t1, t2⟩ := next t he
      have ih := lv_sz f t _ D (k * (2 ^ k * D) * w) z I3 hk le2 (by rw [t1]; exact r2) w2 hD0 hz (by omega)
      refine ⟨⟨r1, by rw [he]; exact ih.1⟩, fun r' hr' => ?_⟩
      have : lv n (f + 1) s = lv n f t := by
        show (match lvEnd (lvRound n s.1 s.2.1 s.2.2) with | .inl r => some r | .inr t => lv n f t) = _
        rw [he]
      rw [this] at hr'
      have := ih.2 r' hr'
      rw [t2] at this
      rw [e1]
      exact this
end
end Sm
/-! # A16 -/
namespace Sm
/-! ### sizes of the whole levelling -/
theorem within_turned {D w : Nat} {rows : List Row} (h : Within D rows) : Within D (turned rows w) := fun r hr j => by
  obtain ⟨i, hi, rfl⟩ := List.mem_iff_getElem.mp hr
  have hi2 : i < w := by rw [turned_len] at hi; exact hi
  rw [← rowsR_at hi, turned_at hi2]
  by_cases hj : j < rows.length
  · rw [rowsR_at hj]
    exact h _ (List.getElem_mem hj) i
  · rw [rowsR_past (by omega)]
    simp
theorem within_units {n : Nat} : Within 1 (units n) := fun r hr j => by
  obtain ⟨i, hi, rfl⟩ := List.mem_iff_getElem.mp hr
  rw [← rowsR_at hi, units_at (by rw [units_len] at hi; exact hi)]
  split <;> simp
section
variable {S0 : Sts} {R0 : Nat → Vec} {k0 : Nat}
theorem first_sz (F : Fin R0 k0 S0) {β D T z : Nat} (hβ : 0 < β) (hE : Within β (turned S0.steps S0.w)) (hb : β ≤ Dl S0.steps.length S0.w β) (hD : pivs S0.sp ≤ D)
    (hT : Bd S0.steps.length S0.w β (Dl S0.steps.length S0.w β) ≤ T) (hz0 : Zb S0.steps.length S0.w β ≤ z) (hz1 : Zb S0.steps.length S0.steps.length D ≤ z) (hDz : D ≤ z) (hTz : T ≤ z) (hz2 : S0.w * T ≤ z) (h1z : 1 ≤ z) :
    RoundSz z S0.w (units S0.w, [], S0.steps) ∧ Within (S0.w * T) (lvRound S0.w (units S0.w) [] S0.steps).1 ∧ Within (S0.w * T) (lvRound S0.w (units S0.w) [] S0.steps).2.1 := by
  obtain ⟨F1, w1, m1⟩ := up_fin (W := units S0.w) (rows := S0.steps)
  rw [units_len] at m1 F1
  obtain ⟨I, er⟩ := first_I F
  have U := up_tri F
  have le := first_le F
  have dpos : 0 < D := by
    have : 0 < pivs S0.sp := pivs_pos F.sp_ech
    omega
  have lim : ∀ q ∈ (Up (units S0.w) S0.steps).gens, Lim T (q.2.drop S0.steps.length) := fun q hq j => by
    rw [gf_drop]
    unfold Up at hq
    rw [units_len] at hq
    have := stairs_ent (w := S0.steps.length) (rows := turned S0.steps S0.w) turned_rows hE hβ hq (S0.steps.length + j)
    rw [turned_len] at this
    exact Nat.le_trans this hT
  have T1 := hf_tri U
  have dU : ∀ c, c < S0.steps.length → piv (Up (units S0.w) S0.steps) c ≤ D := fun c hc => by
    have h1 := piv_le_prd U.pos hc
    have h2 := (first_full F).2 S0.steps.length (Nat.le_refl _)
    rw [sp_prd] at h2
    have := Int.le_of_dvd (pivs_pos F.sp_ech) h2
    omega
  have d1 : ∀ c, c < S0.steps.length → piv (Hf (Up (units S0.w) S0.steps).steps S0.steps.length) c ≤ D := fun c hc => by
    have := piv_le_prd T1.pos hc
    omega
  have wv : ∀ q ∈ (Up (units S0.w) S0.steps).gens, ∀ j, (gf (woven (q.2.drop S0.steps.length) (units S0.w) S0.w) j).natAbs ≤ S0.w * T := fun q hq j => by
    have := within_woven (n := S0.w) (up_len hq) units_rows (lim q hq) within_units j
    rw [units_len, Nat.mul_one] at this
    exact this
  refine ⟨⟨?_, ⟨T, 1, lim, within_units, by show (units S0.w).length * (T * 1) ≤ z; rw [units_len, Nat.mul_one]; exact hz2, hTz, h1z⟩, ?_, ?_⟩, ?_, ?_⟩
  · show AllOk z (turned S0.steps (units S0.w).length) 0 ⟨S0.steps.length, (turned S0.steps (units S0.w).length).length, fun _ => none, []⟩
    rw [units_len]
    exact stairs_sz (β := β) turned_rows hE hβ (by rw [turned_len]; exact hb) (by rw [turned_len]; exact hz0)
  · show AllOk z (turned (Up (units S0.w) S0.steps).steps S0.steps.length) 0 ⟨(lvRound S0.w (units S0.w) [] S0.steps).1.length, (turned (Up (units S0.w) S0.steps).steps S0.steps.length).length, fun _ => none, []⟩
    rw [I.wl]
    rcases Nat.eq_zero_or_pos S0.steps.length with z0 | hk
    · rw [z0]
      exact trivial
    · exact stairs_sz (β := D) (fun r hr => by rw [turned_rows r hr, U.len]) (within_turned (U.within dU)) dpos (by rw [turned_len]; exact dl_beta dpos hk) (by rw [turned_len]; exact hz1)
  · show Within z (lvRound S0.w (units S0.w) [] S0.steps).2.2
    rw [er]
    exact fun r hr j => Nat.le_trans (T1.within d1 r hr j) hDz
  · intro r hr j
    rw [lv_W] at hr
    obtain ⟨q, hq, rfl⟩ := List.mem_map.mp hr
    exact wv q (List.mem_append.mpr (.inl hq)) j
  · intro r hr j
    rw [lv_F, List.nil_append] at hr
    obtain ⟨q, hq, rfl⟩ := List.mem_map.mp hr
    exact wv q (List.mem_append.mpr (.inr hq)) j
/-- all rounds: the numbers on the way, and the weights told -/
theorem lev_sz (F : Fin R0 k0 S0) {β D T z : Nat} (f : Nat) (hβ : 0 < β) (hE : Within β (turned S0.steps S0.w)) (hb : β ≤ Dl S0.steps.length S0.w β) (hD : pivs S0.sp ≤ D)
    (hT : Bd S0.steps.length S0.w β (Dl S0.steps.length S0.w β) ≤ T) (hz0 : Zb S0.steps.length S0.w β ≤ z) (hz1 : Zb S0.steps.length S0.steps.length D ≤ z) (hDz : D ≤ z) (hTz : T ≤ z) (hz2 : S0.w * T ≤ z) (h1z : 1 ≤ z)
    {v Wb : Nat} (hv : S0.w * T ≤ v) (hv1 : 1 ≤ v) (hW : (S0.steps.length * (2 ^ S0.steps.length * D)) ^ f * v ≤ Wb) (hvW : v ≤ Wb) (hWz : Wb ≤ z) :
    LvSz z S0.w (f + 1) (units S0.w, [], S0.steps) ∧ ∀ r, lv S0.w (f + 1) (units S0.w, [], S0.steps) = some r → Within Wb r.2 := by
  obtain ⟨r1, r2, r3⟩ := first_sz F hβ hE hb hD hT hz0 hz1 hDz hTz hz2 h1z
  obtain ⟨I, er⟩ := first_I F
  have le := first_le F
  have dpos : 0 < D := by
    have : 0 < pivs S0.sp := pivs_pos F.sp_ech
    omega
  have start : ∀ t, lvEnd (lvRound S0.w (units S0.w) [] S0.steps) = .inr t → LvI S0.w S0.steps.length (RS S0.steps S0.w) t (piv (Hf (Up (units S0.w) S0.steps).steps S0.steps.length)) ∧ t.1 = (lvRound S0.w (units S0.w) [] S0.steps).1 ∧ t.2.1 = (lvRound S0.w (units S0.w) [] S0.steps).2.1 ∧ 0 < S0.steps.length := fun t ht => by
    unfold lvEnd at ht
    by_cases hs : isStraight (lvRound S0.w (units S0.w) [] S0.steps).2.2 = true
    · rw [if_pos hs] at ht
      cases hu : uneven (diag (lvRound S0.w (units S0.w) [] S0.steps).2.2) with
      | none =>
        rw [hu] at ht
        cases ht
      | some at_ =>
        rw [hu] at ht
        have ht2 := Sum.inr.inj ht
        rw [← ht2]
        refine ⟨(lv_mend I hs hu).1, rfl, rfl, ?_⟩
        have := (uneven_some hu).1
        rw [diag_len] at this
        have l2 := I.tri.len
        omega
    · rw [if_neg hs] at ht
      have ht2 := Sum.inr.inj ht
      rw [← ht2]
      refine ⟨I, rfl, rfl, ?_⟩
      rcases Nat.eq_zero_or_pos S0.steps.length with z | z
      · exact absurd ((isl_all I.tri).mp fun l hl => by omega) hs
      · exact z
  cases he : lvEnd (lvRound S0.w (units S0.w) [] S0.steps) with
  | inl r =>
    refine ⟨⟨r1, by show (match lvEnd (lvRound S0.w (units S0.w) [] S0.steps) with | .inl _ => True | .inr t => LvSz z S0.w f t); rw [he]; trivial⟩, fun r' hr' => ?_⟩
    have : lv S0.w (f + 1) (units S0.w, [], S0.steps) = some r := by
      show (match lvEnd (lvRound S0.w (units S0.w) [] S0.steps) with | .inl r => some r | .inr t => lv S0.w f t) = some r
      rw [he]
    rw [this] at hr'
    have hr2 := Option.some.inj hr'
    rw [← hr2]
    have eg : r.2 = (lvRound S0.w (units S0.w) [] S0.steps).1 ++ (lvRound S0.w (units S0.w) [] S0.steps).2.1 := by
      unfold lvEnd at he
      split at he
      · split at he
        · have := Sum.inl.inj he
          rw [← this]
        · cases he
      · cases he
    rw [eg]
    intro q hq j
    rcases List.mem_append.mp hq with hq | hq
    · exact Nat.le_trans (r2 q hq j) (by omega)
    · exact Nat.le_trans (r3 q hq j) (by omega)
  | inr t =>
    obtain ⟨I3, t1, t2, hk⟩ := start t he
    have vw : Within v t.1 := fun q hq j => by
      rw [t1] at hq
      exact Nat.le_trans (r2 q hq j) hv
    have ih := lv_sz f t _ D v z I3 hk (by omega) vw hv1 dpos hz1 (by omega)
    refine ⟨⟨r1, by show (match lvEnd (lvRound S0.w (units S0.w) [] S0.steps) with | .inl _ => True | .inr t => LvSz z S0.w f t); rw [he]; exact ih.1⟩, fun r' hr' => ?_⟩
    have : lv S0.w (f + 1) (units S0.w, [], S0.steps) = lv S0.w f t := by
      show (match lvEnd (lvRound S0.w (units S0.w) [] S0.steps) with | .inl r => some r | .inr t => lv S0.w f t) = _
      rw [he]
    rw [this] at hr'
    obtain ⟨i1, i2⟩ := ih.2 r' hr'
    intro q hq j
    rw [← List.take_append_drop S0.steps.length r'.2] at hq
    rcases List.mem_append.mp hq with hq | hq
    · exact Nat.le_trans (i1 q hq j) hW
    · rw [i2, t2] at hq
      exact Nat.le_trans (r3 q hq j) (by omega)
end
/-! ### bits -/
theorem b_mul {x y a b : Nat} (h1 : x ≤ 2 ^ a) (h2 : y ≤ 2 ^ b) : x * y ≤ 2 ^ (a + b) := by rw [Nat.pow_add]; exact Nat.mul_le_mul h1 h2
theorem b_pow {x a n : Nat} (h : x ≤ 2 ^ a) : x ^ n ≤ 2 ^ (a * n) := by rw [Nat.pow_mul]; exact Nat.pow_le_pow_left h n
theorem b_up {x a b : Nat} (h : x ≤ 2 ^ a) (hab : a ≤ b) : x ≤ 2 ^ b := Nat.le_trans h (Nat.pow_le_pow_right (by decide) hab)
theorem b_suc {x a : Nat} (h : x ≤ 2 ^ a) : 1 + x ≤ 2 ^ (a + 1) := by
  have : 1 ≤ 2 ^ a := Nat.pow_pos (by decide)
  rw [Nat.pow_succ]
  omega
section
variable {w m β W M e l B : Nat}
theorem dl_b (hw : w ≤ W) (hm : m ≤ M) (he : fac M ≤ 2 ^ e) (hβ : β ≤ 2 ^ B) : Dl w m β ≤ 2 ^ (e + B * W) :=
  b_mul (Nat.le_trans (fac_mono hm) he) (b_up (b_pow hβ) (Nat.mul_le_mul_left _ hw))
theorem bd_b {N c : Nat} (hw : w ≤ W) (hm : m ≤ M) (he : fac M ≤ 2 ^ e) (hl : M ≤ 2 ^ l) (hβ : β ≤ 2 ^ B) (hN : N ≤ 2 ^ c) : Bd w m β N ≤ 2 ^ (l + (e + B * W + c + B)) :=
  b_mul (Nat.le_trans hm hl) (b_mul (b_mul (dl_b hw hm he hβ) hN) hβ)
theorem g1_b (hw : w ≤ W) (hm : m ≤ M) (he : fac M ≤ 2 ^ e) (hl : M ≤ 2 ^ l) (hβ : β ≤ 2 ^ B) : G1 w m β ≤ 2 ^ (4 + l + B + (e + B * W) + (e + B * W)) :=
  b_mul (b_mul (b_mul (b_mul (by decide) (Nat.le_trans hm hl)) hβ) (dl_b hw hm he hβ)) (dl_b hw hm he hβ)
theorem zb_b (hw : w ≤ W) (hm : m ≤ M) (he : fac M ≤ 2 ^ e) (hl : M ≤ 2 ^ l) (hβ : β ≤ 2 ^ B) :
    Zb w m β ≤ 2 ^ (l + (e + B * W + (4 + l + B + (e + B * W) + (e + B * W) + (4 + l + B + (e + B * W) + (e + B * W) + 1) * M) + B)) := by
  have g := g1_b hw hm he hl hβ
  exact bd_b hw hm he hl hβ (b_mul g (b_up (b_pow (b_suc g)) (Nat.mul_le_mul_left _ hm)))
end
/-! ### rows from outside, tidied -/
theorem foldOk_out {n G z : Nat} : ∀ (L : List (Nat × Row)) (x : Row) (N : Nat), x.length = n → (∀ q ∈ L, q.2.length = n ∧ 0 < gf q.2 q.1) → (∀ q ∈ L, Lim G q.2) → Lim N x → G ≤ z → N * (1 + G) ^ L.length ≤ z → FoldOk z L x ∧ Lim (N * (1 + G) ^ L.length) (L.foldl redR x)
  | [], x, N, _, _, _, hx, _, hz => by
    rw [List.length_nil, Nat.pow_zero, Nat.mul_one] at hz ⊢
    exact ⟨fun j => Nat.le_trans (hx j) hz, hx⟩
  | q :: L, x, N, hl, hq, hG, hx, hGz, hz => by
    have e : N * (1 + G) ^ (q :: L).length = N * (1 + G) * (1 + G) ^ L.length := by rw [List.length_cons, Nat.pow_succ]; grind
    rw [e] at hz ⊢
    have h0 := hq q List.mem_cons_self
    have step : Lim (N * (1 + G)) (redR x q) := fun j => by
      rw [gf_redR (by rw [hl, h0.1]) h0.2]
      exact red_grow h0.2 (hx _) (hx j) (hG q List.mem_cons_self j)
    obtain ⟨i1, i2⟩ := foldOk_out L (redR x q) (N * (1 + G)) (by rw [redR_len (by rw [hl, h0.1]), hl]) (fun p hp => hq p (List.mem_cons_of_mem _ hp)) (fun p hp => hG p (List.mem_cons_of_mem _ hp)) step hGz hz
    have one : 1 ≤ (1 + G) * (1 + G) ^ L.length := Nat.mul_pos (by omega) (Nat.pow_pos (by omega))
    refine ⟨⟨fun j => Nat.le_trans (hx j) ?_, fun j => Nat.le_trans (hG q List.mem_cons_self j) hGz, i1⟩, i2⟩
    have : N ≤ N * ((1 + G) * (1 + G) ^ L.length) := Nat.le_mul_of_pos_right _ one
    rw [← Nat.mul_assoc] at this
    omega
/-- one step tidied -/
theorem Good.tidy1 {R : Nat → Vec} {k : Nat} {S : Sts} (G : Good R k S) {c : Nat} {s : Row} (hc : c < S.w) (e : S.st c = some s) : Good R k (S.put c (S.tidied s (c + 1))) := by
  have sg : (c, s) ∈ S.gens := mem_gens.mpr (.inl ⟨hc, e⟩)
  have T := G.tid (G.len _ sg) (a := c + 1) (by omega)
  generalize hY : S.tidied s (c + 1) = Y at T
  have part := G.part (c + 1)
  have pY : gf Y c = gf s c := T.keep c (by omega)
  exact G.put hc T.len (T.pred tru_zero (fun _ _ _ => tru_add _ _ _) (G.tru _ sg) fun q hq => G.tru q (part q hq))
    (fun i hi => T.pred (P := fun v => v (S.w + i) = 0) rfl (fun _ _ _ => zero_at_add _ _ _) (G.cof _ sg i hi) fun q hq => G.cof q (part q hq) i hi)
    (by rw [pY]; exact G.pos c s hc e) (fun j hj => by rw [T.keep j (by omega)]; exact G.sup c s hc e j hj)
end Sm
/-! # A17 -/
namespace Sm
def dE (W e B : Nat) : Nat := e + B * W
def gE (W e l B : Nat) : Nat := 4 + l + B + dE W e B + dE W e B
def zE (W M e l B : Nat) : Nat := l + (dE W e B + (gE W e l B + (gE W e l B + 1) * M) + B)
def bE (W e l B : Nat) : Nat := l + (dE W e B + dE W e B + B)
theorem zb_bits {w m β W M e l B : Nat} (hw : w ≤ W) (hm : m ≤ M) (he : fac M ≤ 2 ^ e) (hl : M ≤ 2 ^ l) (hβ : β ≤ 2 ^ B) : Zb w m β ≤ 2 ^ zE W M e l B := zb_b hw hm he hl hβ
theorem bd_bits {w m β W M e l B : Nat} (hw : w ≤ W) (hm : m ≤ M) (he : fac M ≤ 2 ^ e) (hl : M ≤ 2 ^ l) (hβ : β ≤ 2 ^ B) : Bd w m β (Dl w m β) ≤ 2 ^ bE W e l B := bd_b hw hm he hl hβ (dl_b hw hm he hβ)
theorem one_b {B : Nat} : 1 ≤ 2 ^ B := Nat.pow_pos (by decide)
theorem within_nil {rows : List Row} {w β : Nat} (h : ∀ r ∈ rows, r.length = w) (h0 : w = 0) : Within β rows := fun r hr j => by
  rw [gf_out (by rw [h r hr, h0]; exact Nat.zero_le _)]
  exact Nat.zero_le _
/-- the making of stairs -/
theorem stairs_sz2 {w W M e l B z : Nat} {rows : List Row} (h : ∀ r ∈ rows, r.length = w) (hw : Within (2 ^ B) rows) (hW : w ≤ W) (hm : rows.length ≤ M) (he : fac M ≤ 2 ^ e) (hl : M ≤ 2 ^ l) (hz : 2 ^ zE W M e l B ≤ z) :
    AllOk z rows 0 ⟨w, rows.length, fun _ => none, []⟩ := by
  rcases Nat.eq_zero_or_pos w with z0 | hp
  · exact stairs_sz (β := 1) h (within_nil h z0) (by decide) (dl_pos (by decide)) (Nat.le_trans (zb_bits hW hm he hl one_b) hz)
  · exact stairs_sz (β := 2 ^ B) h hw (Nat.pow_pos (by decide)) (dl_beta (Nat.pow_pos (by decide)) hp) (Nat.le_trans (zb_bits hW hm he hl (Nat.le_refl _)) hz)
theorem stairs_ent2 {w W M e l B : Nat} {rows : List Row} (h : ∀ r ∈ rows, r.length = w) (hw : Within (2 ^ B) rows) (hW : w ≤ W) (hm : rows.length ≤ M) (he : fac M ≤ 2 ^ e) (hl : M ≤ 2 ^ l) : ∀ q ∈ (stairs w rows).gens, Lim (2 ^ bE W e l B) q.2 := fun q hq j =>
  Nat.le_trans (stairs_ent h hw (Nat.pow_pos (by decide)) hq j) (bd_bits hW hm he hl (Nat.le_refl _))
theorem pivs_cut {w : Nat} : ∀ {L : List (Nat × Vec)}, (∀ q ∈ L, q.1 < w) → pivs (cutL w L) = pivs L
  | [], _ => rfl
  | q :: L, h => by
    have ih := pivs_cut (w := w) (L := L) fun p hp => h p (List.mem_cons_of_mem _ hp)
    unfold pivs at ih ⊢
    have l1 : (cutL w (q :: L)).length = (cutL w L).length + 1 := by simp [cutL]
    have l2 : (q :: L).length = L.length + 1 := rfl
    rw [l1, l2, prdI_skip0, prdI_skip0]
    have e0 : rowAt (cutL w (q :: L)) 0 (colAt (cutL w (q :: L)) 0) = rowAt (q :: L) 0 (colAt (q :: L) 0) := by
      show cut w q.2 q.1 = q.2 q.1
      unfold cut
      rw [if_pos (h q List.mem_cons_self)]
    rw [e0]
    congr 1
theorem sp_pivs_le {w W M e B d : Nat} {rows : List Row} (h : ∀ r ∈ rows, r.length = w) (hw : Within (2 ^ B) rows) (hW : w ≤ W) (hm : rows.length ≤ M) (he : fac M ≤ 2 ^ e) : pivs (stairs w rows).sp ≤ (2 ^ dE W e B : Nat) := by
  obtain ⟨F, w1, m1⟩ := stairs_ok h
  have hE : Ent (stairs w rows).w rows.length (2 ^ B) (rowsR rows) := fun i hi c _ => by
    rw [rowsR_at hi]
    exact hw _ (List.getElem_mem hi) c
  have h1 := F.pv_le (by omega) hE (Nat.pow_pos (by decide))
  rw [w1, m1] at h1
  have h2 := pv_cols_le F.g
  have h3 : pivs (stairs w rows).sp = pv ((stairs w rows).cols 0) := by
    unfold Sts.sp
    rw [pivs_cut cols_lt, pivs_vecs]
  have h4 : 0 < pv ((stairs w rows).cols 0) := pv_cols_pos F.g 0
  have h5 := dl_b (w := w) (m := rows.length) hW hm he (Nat.le_refl (2 ^ B))
  rw [h3]
  show _ ≤ ((2 ^ (e + B * W) : Nat) : Int)
  omega
/-! ### the kinds are no greater than the pivots' product -/
theorem lv_kinD {n k : Nat} {P : Vec → Prop} {D : Nat} : ∀ (f : Nat) (s : LvS) (a : Nat → Int), LvI n k P s a → prdI k a ≤ D → ∀ r, (match lvEnd s with | .inl r => some r | .inr t => lv n f t) = some r → Lim D r.1 := fun f s a I hD r h => by
  have T := I.tri
  unfold lvEnd at h
  by_cases hs : isStraight s.2.2 = true
  · rw [if_pos hs] at h
    cases hu : uneven (diag s.2.2) with
    | none =>
      rw [hu] at h
      have h := Option.some.inj h
      subst h
      intro j
      show (gf (diag _ ++ List.replicate _ 0) j).natAbs ≤ D
      rw [gf_append]
      split
      · rename_i hj
        rw [diag_len] at hj
        rw [gf_diag hj]
        have hk : j < k := by rw [← T.len]; exact hj
        rw [T.dia j hk]
        have h1 := piv_le_prd T.pos hk
        have h2 := T.pos j hk
        omega
      · rw [gf_zeros]
        exact Nat.zero_le _
    | some at_ =>
      rw [hu] at h
      have I2 := (lv_mend I hs hu).1
      cases f with
      | zero => exact nomatch h
      | succ f =>
        refine lv_kinD f _ _ (lvI_round I2).1 ?_ r h
        have := Int.le_of_dvd (prdI_pos fun r hr => I2.tri.pos r hr) ((rnd_of I2.tri).dvd k (Nat.le_refl k))
        omega
  · rw [if_neg hs] at h
    cases f with
    | zero => exact nomatch h
    | succ f =>
      refine lv_kinD f _ _ (lvI_round I).1 ?_ r h
      have := Int.le_of_dvd (prdI_pos fun r hr => T.pos r hr) ((rnd_of T).dvd k (Nat.le_refl k))
      omega
theorem lev_kin {R0 : Nat → Vec} {k0 : Nat} {S0 : Sts} (F : Fin R0 k0 S0) {D f : Nat} (hd : pivs S0.sp ≤ D) {r : Row × List Row} (h : lv S0.w (f + 1) (units S0.w, [], S0.steps) = some r) : Lim D r.1 :=
  lv_kinD f _ _ (first_I F).1 (Int.le_trans (first_le F) hd) r h
/-- what is asked of the sizes of a plan: B bits of the rows, d of the pivots, Z of all -/
structure PlE (M e l B d Z : Nat) : Prop where
  he : fac M ≤ 2 ^ e
  hl : M ≤ 2 ^ l
  h1 : zE 6 M e l B ≤ Z
  h2 : zE 6 6 10 3 (bE 6 e l B) ≤ Z
  h3 : zE 6 6 10 3 d ≤ Z
  h4 : 3 + bE 6 10 3 (bE 6 e l B) ≤ Z
  h5 : (3 + (6 + d)) * (d * 6 + 7) + (3 + bE 6 10 3 (bE 6 e l B)) ≤ Z
  h7 : d ≤ 10000
  h6 : zE 6 6 10 3 ((3 + (6 + d)) * (d * 6 + 7) + (3 + bE 6 10 3 (bE 6 e l B))) ≤ Z
def fuel (d : Nat) : Nat := d * 6 + 7 + 1
def wE (e l B d : Nat) : Nat := (3 + (6 + d)) * (d * 6 + 7) + (3 + bE 6 10 3 (bE 6 e l B))
/-- the sizes of a plan, and the weights -/
structure PlSz (z n : Nat) (rows : List Row) (f : Nat) (r : Row × List Row) (Bs Bw : Nat) : Prop where
  all : AllOk z rows 0 ⟨n, rows.length, fun _ => none, []⟩
  ent : ∀ q ∈ (stairs n rows).gens, Lim (2 ^ Bs) q.2
  lv : LvSz z n f (units n, [], (stairs n rows).steps)
  tol : Sm.lv n f (units n, [], (stairs n rows).steps) = some r
  ok : LvOk n (RS (stairs n rows).steps n) r.1 r.2
  wei : Within (2 ^ Bw) r.2
  cor : AllOk z (turned r.2 n) 0 ⟨n, (turned r.2 n).length, fun _ => none, []⟩
  kin : Lim (2 ^ 10000) r.1
theorem plan_sz {n M e l B d Z z : Nat} {rows : List Row} (hn : n ≤ 6) (h : ∀ r ∈ rows, r.length = n) (hm : rows.length ≤ M) (hw : Within (2 ^ B) rows) (hd : pivs (stairs n rows).sp ≤ (2 ^ d : Nat)) (E : PlE M e l B d Z) (hz : 2 ^ Z ≤ z) :
    ∃ r, PlSz z n rows (fuel d) r (bE 6 e l B) (wE e l B d) := by
  have up : ∀ {x a : Nat}, x ≤ 2 ^ a → a ≤ Z → x ≤ z := fun h1 h2 => Nat.le_trans (b_up h1 h2) hz
  obtain ⟨F, w1, m1⟩ := stairs_ok h
  have ent := stairs_ent2 h hw hn hm E.he E.hl
  have kw : (stairs n rows).steps.length ≤ 6 := by
    rw [steps_len]
    have := colsB_len (S := stairs n rows) (a := 0) (b := (stairs n rows).w)
    unfold Sts.cols
    omega
  have e6 : fac 6 ≤ 2 ^ 10 := by decide
  have l6 : 6 ≤ 2 ^ 3 := by decide
  have srow : ∀ r ∈ (stairs n rows).steps, r.length = (stairs n rows).w := steps_rows F
  have sw : Within (2 ^ bE 6 e l B) (stairs n rows).steps := fun r hr j => by
    unfold Sts.steps at hr
    obtain ⟨q, hq, rfl⟩ := List.mem_map.mp hr
    rw [gf_take]
    unfold cut
    split
    · exact ent q (List.mem_append.mpr (.inl hq)) j
    · simp
  -- the levelling
  have hlv : LvSz z (stairs n rows).w (d * 6 + 7 + 1) (units (stairs n rows).w, [], (stairs n rows).steps) ∧ ∀ r, lv (stairs n rows).w (d * 6 + 7 + 1) (units (stairs n rows).w, [], (stairs n rows).steps) = some r → Within (2 ^ wE e l B d) r.2 := by
    have hβ : ∃ β, 0 < β ∧ β ≤ 2 ^ bE 6 e l B ∧ Within β (turned (stairs n rows).steps (stairs n rows).w) ∧ β ≤ Dl (stairs n rows).steps.length (stairs n rows).w β := by
      rcases Nat.eq_zero_or_pos (stairs n rows).steps.length with z0 | hp
      · exact ⟨1, by decide, one_b, within_nil turned_rows z0, dl_pos (by decide)⟩
      · exact ⟨2 ^ bE 6 e l B, Nat.pow_pos (by decide), Nat.le_refl _, within_turned sw, dl_beta (Nat.pow_pos (by decide)) hp⟩
    obtain ⟨β, b1, b2, b3, b4⟩ := hβ
    have tb : Bd (stairs n rows).steps.length (stairs n rows).w β (Dl (stairs n rows).steps.length (stairs n rows).w β) ≤ 2 ^ bE 6 10 3 (bE 6 e l B) := bd_bits kw (by omega) e6 l6 b2
    have n3 : (stairs n rows).w ≤ 2 ^ 3 := by omega
    have k3 : (stairs n rows).steps.length ≤ 2 ^ 3 := by omega
    refine lev_sz F (β := β) (D := 2 ^ d) (T := 2 ^ bE 6 10 3 (bE 6 e l B)) (v := 2 ^ (3 + bE 6 10 3 (bE 6 e l B))) (Wb := 2 ^ wE e l B d) (d * 6 + 7) b1 b3 b4 hd tb ?_ ?_ ?_ ?_ ?_ (up (a := 0) (Nat.le_refl 1) (Nat.zero_le _)) (b_mul n3 (Nat.le_refl _)) one_b ?_ ?_ ?_
    · exact up (zb_bits kw (by omega) e6 l6 b2) E.h2
    · exact up (zb_bits kw kw e6 l6 (Nat.le_refl _)) E.h3
    · refine up (Nat.le_refl _) ?_
      have := E.h3
      unfold zE at this
      omega
    · exact up (Nat.le_refl _) (by have := E.h4; omega)
    · exact up (b_mul n3 (Nat.le_refl _)) E.h4
    · exact b_mul (b_pow (b_mul k3 (b_mul (Nat.pow_le_pow_right (by decide) kw) (Nat.le_refl _)))) (Nat.le_refl _)
    · exact Nat.pow_le_pow_right (by decide) (by unfold wE; omega)
    · exact up (Nat.le_refl _) E.h5
  obtain ⟨r, r1, r2⟩ := levelled_ok F (d := d) (f := d * 6 + 7 + 1) (by have : ((2 ^ d : Nat) : Int) = (2 : Int) ^ d := Int.natCast_pow 2 d; omega) (by
    have : d * (stairs n rows).steps.length ≤ d * 6 := Nat.mul_le_mul_left _ kw
    omega)
  have kn := lev_kin F hd r1
  rw [w1] at hlv r1 r2
  have wei := hlv.2 r r1
  refine ⟨r, ⟨stairs_sz2 h hw hn hm E.he E.hl (Nat.le_trans (Nat.pow_le_pow_right (by decide) E.h1) hz), ent, hlv.1, r1, r2, wei, ?_, fun j => Nat.le_trans (kn j) (Nat.pow_le_pow_right (by decide) E.h7)⟩⟩
  exact stairs_sz2 (W := 6) (M := 6) (e := 10) (l := 3) (B := wE e l B d) (fun r' hr' => by rw [turned_rows r' hr', r2.gl]) (within_turned wei) hn (by rw [turned_len]; exact hn) e6 l6 (Nat.le_trans (Nat.pow_le_pow_right (by decide) E.h6) hz)
/-- a room's -/
theorem room_E : PlE 17 49 5 40 289 60000000 := ⟨by decide, by decide, by decide, by decide, by decide, by decide, by decide, by decide, by decide⟩
theorem room_sz {n z : Nat} {rows : List Row} (hn : n ≤ 6) (h : ∀ r ∈ rows, r.length = n) (hm : rows.length ≤ 17) (hw : ∀ r ∈ rows, ∀ x ∈ r, x.natAbs ≤ 1000000000000) (hz : 2 ^ 60000000 ≤ z) : ∃ r, PlSz z n rows (fuel 289) r 623 526943 := by
  have hW : Within (2 ^ 40) rows := fun r hr j => by
    by_cases hj : j < r.length
    · have e : gf r j = r[j] := by unfold gf; rw [List.getD_eq_getElem?_getD, List.getElem?_eq_getElem hj]; rfl
      rw [e]
      have := hw r hr _ (List.getElem_mem hj)
      omega
    · rw [gf_out (by omega)]
      exact Nat.zero_le _
  have := plan_sz (d := 289) hn h hm hW (sp_pivs_le (d := 0) h hW hn hm room_E.he) room_E hz
  have e1 : bE 6 49 5 40 = 623 := by decide
  have e2 : wE 49 5 40 289 = 526943 := by decide
  rw [e1, e2] at this
  exact this
end Sm
/-! # A18 -/
namespace Sm
/-! ### the sums that weigh 1 by one row of weights and 0 by each other one -/
def corners (n : Nat) (G : List Row) : List Row := (stairs n (turned G n)).stepTimes
theorem dot_comm {n : Nat} {f g : Vec} : dot n f g = dot n g f := sm_congr fun i _ => Int.mul_comm _ _
section
variable {n : Nat} {G : List Row}
theorem corner_st (gl : G.length = n) (gr : ∀ r ∈ G, r.length = n) (sur : Sur n G) :
    Full (stairs n (turned G n)) ∧ ∀ r, r < n → rowAt (stairs n (turned G n)).sp r = dV 1 r := by
  have tr : ∀ r ∈ turned G n, r.length = n := fun r hr => by rw [turned_rows r hr, gl]
  obtain ⟨F0, w1, m1⟩ := stairs_ok tr
  rw [turned_len] at m1
  rw [turned_len] at F0
  have F : Fin (rowsR (turned G n)) (stairs n (turned G n)).m (stairs n (turned G n)) := by rw [m1]; exact F0
  have hR : ∀ i, i < (stairs n (turned G n)).m → ∀ j, (stairs n (turned G n)).w ≤ j → rowsR (turned G n) i j = 0 := fun i hi j hj => rowsR_out tr i (by rw [turned_len]; omega) j (by omega)
  have hin : ∀ r, r < n → InS (stairs n (turned G n)).sp (dV 1 r) := fun r hr => by
    obtain ⟨x, hx⟩ := sur (dV 1 r)
    refine (F.sp_iff hR).mpr ⟨x, fun j => ?_⟩
    rw [m1]
    by_cases hj : j < n
    · have := hx j (by omega)
      rw [← this, dot_comm]
      exact sm_congr fun i hi => by rw [turned_at hi]
    · rw [sm_zero fun i hi => by rw [hR i (by omega) j (by omega), Int.mul_zero]]
      unfold dV
      rw [if_neg (by omega)]
  have fu : Full (stairs n (turned G n)) := full_of F (v := fun r => dV 1 r) (fun r hr => hin r (by omega)) (fun r c hrc hc => by unfold dV; rw [if_neg (by omega)]) fun r hr => by unfold dV; rw [if_pos rfl]; decide
  exact ⟨fu, fun r hr => (full_iso F hR fu (by omega) (by decide) (hin r hr) fun i _ => Int.one_dvd _).1⟩
theorem corners_len (gl : G.length = n) (gr : ∀ r ∈ G, r.length = n) (sur : Sur n G) : (corners n G).length = n ∧ ∀ r ∈ corners n G, r.length = n := by
  have tr : ∀ r ∈ turned G n, r.length = n := fun r hr => by rw [turned_rows r hr, gl]
  obtain ⟨F0, w1, m1⟩ := stairs_ok tr
  rw [turned_len] at m1
  have fu := (corner_st gl gr sur).1
  unfold Full at fu
  unfold corners Sts.stepTimes
  refine ⟨by rw [List.length_map]; omega, fun r hr => ?_⟩
  obtain ⟨q, hq, rfl⟩ := List.mem_map.mp hr
  rw [List.length_drop, F0.g.len q (List.mem_append.mpr (.inl hq))]
  omega
theorem corners_ok (gl : G.length = n) (gr : ∀ r ∈ G, r.length = n) (sur : Sur n G) {i j : Nat} (hi : i < n) (hj : j < n) : dot n (rowsR G j) (rowsR (corners n G) i) = if j = i then 1 else 0 := by
  have tr : ∀ r ∈ turned G n, r.length = n := fun r hr => by rw [turned_rows r hr, gl]
  obtain ⟨F0, w1, m1⟩ := stairs_ok tr
  rw [turned_len] at m1
  obtain ⟨fu, un⟩ := corner_st gl gr sur
  obtain ⟨s, h1, h2⟩ := full_at fu (c := i) (by omega)
  obtain ⟨s', h3, h4, _⟩ := full_row fu (c := i) (by omega)
  have hs : s' = s := by rw [h1] at h3; exact (Option.some.inj h3).symm
  subst hs
  have mem : (i, s') ∈ (stairs n (turned G n)).gens := mem_gens.mpr (.inl ⟨by show i < _; omega, h1⟩)
  have tru := F0.g.tru _ mem j (by omega)
  have e : rowsR (corners n G) i = fun l => gf s' (n + l) := by
    unfold rowsR corners Sts.stepTimes
    rw [List.getD_eq_getElem?_getD, List.getElem?_map, h2]
    funext l
    show gf (s'.drop _) l = _
    rw [gf_drop, w1]
  have e2 : gf s' j = dV 1 i j := by
    rw [← un i hi, h4]
    unfold cut
    rw [if_pos (by omega)]
  rw [e2, w1, m1] at tru
  rw [e, dot_comm]
  unfold dot
  have : (sm n fun l => gf s' (n + l) * rowsR G j l) = dV 1 i j := by
    rw [tru]
    exact sm_congr fun l hl => by rw [turned_at hl]
  rw [this]
  rfl
end
end Sm
/-! # A19 -/
namespace Sm
/-! ### a plan: what is needed of its numbers -/
abbrev Sts.long (S : Sts) (row : Row) : Row := row ++ List.replicate S.m 0
structure PlOk (z n : Nat) (rows : List Row) (r : Row × List Row) : Prop where
  n6 : n ≤ 6
  m17 : rows.length ≤ 17
  len : ∀ q ∈ rows, q.length = n
  all : AllOk z rows 0 ⟨n, rows.length, fun _ => none, []⟩
  ent : ∀ q ∈ (stairs n rows).gens, Lim (2 ^ 10000) q.2
  lvs : ∃ f, LvSz z n f (units n, [], (stairs n rows).steps) ∧ lv n f (units n, [], (stairs n rows).steps) = some r
  ok : LvOk n (RS (stairs n rows).steps n) r.1 r.2
  wei : Within z r.2
  kin : Lim z r.1
  cor : AllOk z (turned r.2 n) 0 ⟨n, (turned r.2 n).length, fun _ => none, []⟩
  cob : ∀ c ∈ corners n r.2, FoldOk z ((stairs n rows).cols 0 ++ (stairs n rows).idle) ((stairs n rows).long c) ∧ Lim (2 ^ 8000000) ((stairs n rows).rest c)
  z0 : 2 ^ 20000000 ≤ z
  wb : Within (2 ^ 540000) r.2
  kb : Lim (2 ^ 10000) r.1
theorem lv_kin {n z : Nat} : ∀ (f : Nat) (s : LvS) (r : Row × List Row), LvSz z n f s → lv n f s = some r → Lim z r.1
  | 0, _, _, _, h => nomatch h
  | f + 1, s, r, hs, h => by
    obtain ⟨⟨_, _, _, hw⟩, hn⟩ := hs
    have h : (match lvEnd (lvRound n s.1 s.2.1 s.2.2) with | .inl r => some r | .inr t => lv n f t) = some r := h
    cases he : lvEnd (lvRound n s.1 s.2.1 s.2.2) with
    | inr t =>
      rw [he] at h hn
      exact lv_kin f t r hn h
    | inl r' =>
      rw [he] at h
      have h := Option.some.inj h
      subst h
      unfold lvEnd at he
      split at he
      · split at he
        · have := Sum.inl.inj he
          rw [← this]
          intro j
          show (gf (diag _ ++ List.replicate _ 0) j).natAbs ≤ z
          rw [gf_append]
          split
          · rename_i hj
            rw [diag_len] at hj
            rw [gf_diag hj, rowsR_at hj]
            exact hw _ (List.getElem_mem hj) j
          · rw [gf_zeros]
            exact Nat.zero_le _
        · cases he
      · cases he
theorem lim_long {S : Sts} {row : Row} {N : Nat} (h : Lim N row) : Lim N (S.long row) := fun j => by
  unfold Sts.long
  rw [gf_pad]
  exact h j
theorem lim_cut {x : Row} {N w : Nat} (h : Lim N x) : Lim N (x.take w) := fun j => by
  rw [gf_take]
  unfold cut
  split
  · exact h j
  · exact Nat.zero_le _
/-- a row from outside: the numbers while it is tidied -/
theorem out_ok {n m c N z : Nat} {S : Sts} {R : Nat → Vec} {k : Nat} (F : Fin R k S) (hk : k ≤ 17) (he : ∀ q ∈ S.gens, Lim (2 ^ 10000) q.2) {row : Row} (hl : row.length = S.w) (hN : Lim (2 ^ c) row) (hz : 2 ^ (c + 10001 * 17) ≤ z) :
    FoldOk z (S.cols 0 ++ S.idle) (S.long row) ∧ Lim (2 ^ (c + 10001 * 17)) (S.rest row) := by
  have e : S.cols 0 ++ S.idle = S.gens := rfl
  have cn := F.cnt
  have b : 2 ^ c * (1 + 2 ^ 10000) ^ S.gens.length ≤ 2 ^ (c + 10001 * 17) := b_mul (Nat.le_refl _) (b_up (b_pow (b_suc (Nat.le_refl _))) (by rw [cn]; exact Nat.mul_le_mul_left _ hk))
  have g1 : 2 ^ 10000 ≤ 2 ^ (c + 10001 * 17) := Nat.pow_le_pow_right (by decide) (by omega)
  rw [e]
  obtain ⟨h1, h2⟩ := foldOk_out (n := S.w + S.m) (G := 2 ^ 10000) (z := z) S.gens (S.long row) (2 ^ c) (by simp [Sts.long, hl]) (fun q hq => ⟨F.g.len q hq, F.g.piv q hq⟩) he (lim_long hN) (Nat.le_trans g1 hz) (Nat.le_trans b hz)
  refine ⟨h1, lim_cut fun j => Nat.le_trans (h2 j) b⟩
theorem plan_ok {z n fl Bs Bw : Nat} {rows : List Row} {r : Row × List Row} (P : PlSz z n rows fl r Bs Bw) (hn : n ≤ 6) (hm : rows.length ≤ 17) (hl : ∀ q ∈ rows, q.length = n) (hB : Bs ≤ 10000) (hw : bE 6 10 3 Bw ≤ 7000000) (hz : 2 ^ 20000000 ≤ z) : PlOk z n rows r := by
  obtain ⟨F, w1, m1⟩ := stairs_ok hl
  have he : ∀ q ∈ (stairs n rows).gens, Lim (2 ^ 10000) q.2 := fun q hq j => Nat.le_trans (P.ent q hq j) (Nat.pow_le_pow_right (by decide) hB)
  obtain ⟨cl, cr⟩ := corners_len P.ok.gl P.ok.gr P.ok.sur
  have hBw : Bw ≤ 7000000 := by
    have : Bw ≤ bE 6 10 3 Bw := by unfold bE; omega
    omega
  refine ⟨hn, hm, hl, P.all, he, ⟨fl, P.lv, P.tol⟩, P.ok, fun q hq j => Nat.le_trans (P.wei q hq j) (Nat.le_trans (Nat.pow_le_pow_right (by decide) (by omega)) hz), lv_kin fl _ r P.lv P.tol, P.cor, fun c hc => ?_, hz, fun q hq j => Nat.le_trans (P.wei q hq j) (Nat.pow_le_pow_right (by decide) (by unfold bE dE at hw; omega)), P.kin⟩
  have tr : ∀ q ∈ turned r.2 n, q.length = n := fun q hq => by rw [turned_rows q hq, P.ok.gl]
  have ce : Lim (2 ^ 7000000) c := fun j => by
    unfold corners Sts.stepTimes at hc
    obtain ⟨q, hq, rfl⟩ := List.mem_map.mp hc
    rw [gf_drop]
    have := stairs_ent2 (W := 6) (M := 6) (e := 10) (l := 3) (B := Bw) tr (within_turned P.wei) hn (by rw [turned_len]; exact hn) (by decide) (by decide) q (List.mem_append.mpr (.inl hq)) ((stairs n (turned r.2 n)).w + j)
    exact Nat.le_trans this (Nat.pow_le_pow_right (by decide) hw)
  obtain ⟨h1, h2⟩ := out_ok (n := n) (m := 0) (N := 0) (c := 7000000) F hm he (by rw [cr c hc, w1]) ce (Nat.le_trans (Nat.pow_le_pow_right (by decide) (by decide)) hz)
  exact ⟨h1, fun j => Nat.le_trans (h2 j) (Nat.pow_le_pow_right (by decide) (by decide))⟩
/-- a room's plan -/
theorem room_ok {n : Nat} {rows : List Row} (hn : n ≤ 6) (h : ∀ r ∈ rows, r.length = n) (hm : rows.length ≤ 17) (hw : ∀ r ∈ rows, ∀ x ∈ r, x.natAbs ≤ 1000000000000) {z : Nat} (hz : 2 ^ 60000000 ≤ z) : ∃ r, PlOk z n rows r := by
  obtain ⟨r, P⟩ := room_sz hn h hm hw hz
  exact ⟨r, plan_ok P hn hm h (by decide) (by decide) (Nat.le_trans (Nat.pow_le_pow_right (by decide) (by decide)) hz)⟩
end Sm
/-! # B1 -/
namespace Sr
open PySem PySem.Spec PyProof.Rows L2
/-! ### a def that is called by its name -/
structure Df (P : Program) (w : World) (K : PySem.W.Frag) (mg : Str → Option Value) (base : Heap) (CX : CXT) (k : Nat) (x : Str) (ps : List Str) (sp : Sp) : Prop where
  ex : ∃ f fd, FnOk P w K mg base CX k f fd ps sp ∧ mg x = some (.ref f) ∧ PySem.W.keepIn K (.ref f) = true ∧ Binds K fd ps []
theorem pe_df {X : Cx} {k : Nat} {x : Str} {ps : List Str} {sp : Sp} {p pos : Pos} {e : Expr} {es : List Expr} {t : TA} (D : Df X.prog X.w X.K X.mg X.base CX0 k x ps sp) (hr : Room k X.A) (ha : PA X (e :: es) t) (hg : Gl X x := by rfl)
    (hdb : (x == ("__debug__" : Str)) = false := by decide) (he : starEach (e :: es) X.env = (false, eval e X.env) :: starEach es X.env := by rfl) (hpl : (backTo pos (starEach es X.env)).any (·.1) = false := by rfl) :
    PE X (.Call (.Name x p) (e :: es) [] pos) (tCall sp [] E0 t) := by
  obtain ⟨f, fd, F, hm, hk, hb⟩ := D.ex
  exact pe_call F hr hg hm hk hb .nil pass0 ha hdb he hpl
abbrev FnP (K : PySem.W.Frag) (x qual : Str) (st : Stmt) (f : Addr) (fd : FuncData) : Prop := FunD K x qual (defArgs st) (defBody st) (defScope st) [] [] f fd
/-- the built-ins that the text names -/
structure Bi (mg : Str → Option Value) : Prop where
  int_ : mg "int" = none
  bool_ : mg "bool" = none
  list_ : mg "list" = none
  str_ : mg "str" = none
  tuple_ : mg "tuple" = none
  type_ : mg "type" = none
  len_ : mg "len" = none
  range_ : mg "range" = none
  enumerate_ : mg "enumerate" = none
  zip_ : mg "zip" = none
  isinstance_ : mg "isinstance" = none
  all_ : mg "all" = none
  any_ : mg "any" = none
  sum_ : mg "sum" = none
theorem hu64 {A : Around} {k : Nat} (hr : Room k A) : A.units + 64 < cLine := by have := hr.un; omega
end Sr
/-! # B2 -/
namespace Sr
open PySem PySem.Spec PyProof.Rows L2
open Evl (Ex Ev EvL EvU EvT EvA RetL RetV)
/-! ### readings by what they give: G of the value and the heap behind it; the heap grows -/
def EvX (te : TE) (σ : L2.St) (H : Hp) (G : V → Hp → Prop) : Prop := ∀ H1, Ex H H1 → ∀ Q : VK, (∀ y H2, Ex H1 H2 → G y H2 → Q y H2) → te σ H1 Q
theorem EvX.mono {te : TE} {σ : L2.St} {H H' : Hp} {G : V → Hp → Prop} (e : Ex H H') (h : EvX te σ H G) : EvX te σ H' G := fun H1 a Q q => h H1 (e.trans a) Q q
theorem EvX.weak {te : TE} {σ : L2.St} {H : Hp} {G G' : V → Hp → Prop} (h : EvX te σ H G) (g : ∀ y H2, Ex H H2 → G y H2 → G' y H2) : EvX te σ H G' := fun H1 a Q q => h H1 a Q fun y H2 e2 gy => q y H2 e2 (g y H2 (a.trans e2) gy)
theorem EvX.of_ev {te : TE} {σ : L2.St} {H : Hp} {v : V} (h : Ev te σ H v) : EvX te σ H (fun y _ => y = v) := fun H1 a Q q => h H1 a Q fun H2 e2 => q v H2 e2 rfl
/-- a comprehension's list so far -/
def Cwx (H : Hp) (G : Nat → V → Prop) (Dl : Addr) (i : Nat) (H' : Hp) : Prop := H Dl = none ∧ Ex H H' ∧ ∃ ys, H' Dl = some (.lst ys) ∧ ys.length = i ∧ ∀ k y, ys[k]? = some y → G k y
theorem cwx_turn {te : TE} {H H' : Hp} {G : Nat → V → Prop} {Dl : Addr} {i : Nat} {σ2 : L2.St} (p : Cwx H G Dl i H') (hi : i < 50000) (he : EvX te σ2 H (fun y _ => G i y)) :
    tYes σ2 H' fun b H3 => if b = true then te σ2 H3 fun y H4 => ∃ acc, H4 Dl = some (.lst acc) ∧ acc.length < sizeLine ∧ Cwx H G Dl (i + 1) (upd H4 Dl (.lst (acc ++ [y]))) else Cwx H G Dl (i + 1) H3 := by
  obtain ⟨p1, p2, ys, p3, p4, p5⟩ := p
  show te σ2 H' fun y H4 => _
  refine he H' p2 _ fun y H4 e4 gy => ⟨ys, e4 Dl _ p3, Evl.sz_lt (by omega), p1, Evl.Ex.mut (p2.trans e4) p1, ys ++ [y], upd_same, by simp [p4], fun k z hz => ?_⟩
  by_cases hk : k < ys.length
  · rw [List.getElem?_append_left hk] at hz
    exact p5 k z hz
  · rw [List.getElem?_append_right (by omega)] at hz
    have : k = ys.length := by
      rcases Nat.lt_or_ge (k - ys.length) 1 with h | h
      · omega
      · rw [List.getElem?_eq_none (by simpa using h)] at hz
        cases hz
    subst this
    simp at hz
    rw [p4, ← hz]
    exact gy
theorem lcR {ta : TA} {te : TE} {σ : L2.St} {H : Hp} {j : Nat} {vs : List Nat} {n : Int} {m : Nat} (G : Nat → V → Prop) (h : EvA ta σ H [.int n]) (hm : n = (m : Int)) (hn : m ≤ 40000) (hw : ∀ x, wipe ((wipe σ vs).set j (some x)) vs = wipe σ vs)
    (he : ∀ (i : Nat) H1, Ex H H1 → i < m → EvX te ((wipe σ vs).set j (some (.int (i : Int)))) H1 (fun y _ => G i y)) :
    EvX (tLc (iRng1 ta) (gName j) tYes te vs) σ H (fun v H2 => ∃ p ys, v = .ref p ∧ H p = none ∧ H2 p = some (.lst ys) ∧ ys.length = m ∧ ∀ k y, ys[k]? = some y → G k y) := fun H0 e Q q => h H0 e _ fun H1 e1 => ⟨n, rfl, by omega, by omega, fun Dl hD =>
  lc_range (lo := 0) (n := n.toNat) (Cwx H1 G Dl) ⟨hD, Evl.Ex.new hD, [], upd_same, rfl, fun k y hk => by simp at hk⟩ (fun i H' hi p => by
    have e0 : (0 : Int) + (i : Int) = (i : Int) := Int.zero_add _
    show wipe ((wipe σ vs).set j (some (.int ((0 : Int) + (i : Int))))) vs = wipe σ vs ∧ tYes ((wipe σ vs).set j (some (.int ((0 : Int) + (i : Int))))) H' fun b H3 => if b = true then te ((wipe σ vs).set j (some (.int ((0 : Int) + (i : Int))))) H3 fun y H4 => ∃ acc, H4 Dl = some (.lst acc) ∧ acc.length < sizeLine ∧ Cwx H1 G Dl (i + 1) (upd H4 Dl (.lst (acc ++ [y]))) else Cwx H1 G Dl (i + 1) H3
    rw [e0]
    exact ⟨hw _, cwx_turn p (by omega) (he i H1 (e.trans e1) (by omega))⟩)
    (fun H' ⟨p1, p2, ys, p3, p4, p5⟩ => q (.ref Dl) H' (e1.trans p2) ⟨Dl, ys, rfl, Evl.fresh_back e (Evl.fresh_back e1 p1), p3, by omega, p5⟩)⟩
theorem lcL {a : Addr} {xs : List V} {tl te : TE} {σ : L2.St} {H : Hp} {K : PySem.W.Frag} {j : Nat} {vs : List Nat} (G : Nat → V → Prop) (h : Ev tl σ H (.ref a)) (hx : SqL K H a xs) (hz : xs.length ≤ 40000) (hw : ∀ x, wipe ((wipe σ vs).set j (some x)) vs = wipe σ vs)
    (he : ∀ (i : Nat) (x : V) H1, Ex H H1 → xs[i]? = some x → EvX te ((wipe σ vs).set j (some x)) H1 (fun y _ => G i y)) :
    EvX (tLc (iList K tl) (gName j) tYes te vs) σ H (fun v H2 => ∃ p ys, v = .ref p ∧ H p = none ∧ H2 p = some (.lst ys) ∧ ys.length = xs.length ∧ ∀ k y, ys[k]? = some y → G k y) := fun H0 e Q q => h H0 e _ fun H1 e1 => ⟨a, rfl, ⟨xs, Evl.ex_l (e.trans e1) hx⟩, fun Dl hD =>
  lc_list (xs := xs) (Cwx H1 G Dl) ⟨hD, Evl.Ex.new hD, [], upd_same, rfl, fun k y hk => by simp at hk⟩ (fun i H' _ p => Evl.ex_l ((e.trans e1).trans p.2.1) hx) (fun i x H' hi p => ⟨hw x, cwx_turn p (by have := (List.getElem?_eq_some_iff.mp hi).1; omega) (he i x H1 (e.trans e1) hi)⟩)
    (fun H' ⟨p1, p2, ys, p3, p4, p5⟩ => q (.ref Dl) H' (e1.trans p2) ⟨Dl, ys, rfl, Evl.fresh_back e (Evl.fresh_back e1 p1), p3, p4, p5⟩)⟩
/-- xs[i], xs a tracked list -/
def rIxH : R2 := fun x y H Q => ∃ p xs i v, x = .ref p ∧ y = .int i ∧ H p = some (.lst xs) ∧ atI xs i = some v ∧ Q v H
theorem ix_h {X : Cx} : IxR X rIxH := fun value slice pins s σ H x y v u Q I rx ry h e => by
  obtain ⟨p, xs, i, z, ex, ey, hl, ha, q⟩ := h
  exact ix_list value slice pins s σ H x y v u Q I rx ry ⟨p, xs, i, z, ex, ey, Evl.sq_of hl, ha, q⟩ e
theorem pick2 {α : Type} {a b : α} {i : Int} (h0 : 0 ≤ i) (h : i < 2) {R : α → Prop} (h1 : R a) (h2 : R b) : ∃ v, atI [a, b] i = some v ∧ R v := by
  rcases (by omega : i = 0 ∨ i = 1) with rfl | rfl
  · exact ⟨a, rfl, h1⟩
  · exact ⟨b, rfl, h2⟩
theorem pick_any {α : Type} {xs : List α} {i : Int} (h0 : 0 ≤ i) (h : i < xs.length) {R : α → Prop} (h1 : ∀ x ∈ xs, R x) : ∃ v, atI xs i = some v ∧ R v := by
  obtain ⟨k, rfl⟩ := Int.eq_ofNat_of_zero_le h0
  have hk : k < xs.length := by omega
  refine ⟨xs[k], ?_, h1 _ (List.getElem_mem hk)⟩
  unfold atI ixN
  rw [if_pos h0, if_pos h]
  simp [hk]
theorem ev_up {H : Hp} {p : Addr} {o : HO} (h : H p = none) : Ex H (upd H p o) := Evl.Ex.new h
theorem sizeLine_ge (n : Nat) (h : n ≤ 100000) : n ≤ sizeLine := Evl.sz_of h
end Sr
/-! # B3 -/
namespace Sr
open PySem PySem.Spec PyProof.Rows L2
open Evl (Ex Ev EvL EvU EvT EvA RetL RetV)
/-! ### rows of ints -/
def RowsL (H : Hp) : List Addr → List (List Int) → Prop
  | [], [] => True
  | r :: rs, ns :: nss => H r = some (.lst (ns.map V.int)) ∧ RowsL H rs nss
  | _, _ => False
theorem RowsL.ex {H H' : Hp} (e : Ex H H') : ∀ {rs : List Addr} {nss : List (List Int)}, RowsL H rs nss → RowsL H' rs nss
  | [], [], _ => trivial
  | _ :: _, _ :: _, h => ⟨e _ _ h.1, RowsL.ex e h.2⟩
  | [], _ :: _, h => h.elim
  | _ :: _, [], h => h.elim
theorem RowsL.len {H : Hp} : ∀ {rs : List Addr} {nss : List (List Int)}, RowsL H rs nss → rs.length = nss.length
  | [], [], _ => rfl
  | _ :: _, _ :: _, h => congrArg (· + 1) (RowsL.len h.2)
  | [], _ :: _, h => h.elim
  | _ :: _, [], h => h.elim
theorem RowsL.get {H : Hp} : ∀ {rs : List Addr} {nss : List (List Int)} {i : Nat} {r : Addr}, RowsL H rs nss → rs[i]? = some r → ∃ ns, nss[i]? = some ns ∧ H r = some (.lst (ns.map V.int))
  | _ :: _, _ :: _, 0, _, h, e => by
    cases e
    exact ⟨_, rfl, h.1⟩
  | _ :: _, _ :: _, i + 1, _, h, e => RowsL.get (i := i) h.2 e
  | [], _ :: _, _, _, h, _ => h.elim
  | _ :: _, [], _, _, h, _ => h.elim
  | [], [], _, _, _, e => by simp at e
theorem RowsL.app {H : Hp} {rs2 : List Addr} {nss2 : List (List Int)} (h2 : RowsL H rs2 nss2) : ∀ {rs : List Addr} {nss : List (List Int)}, RowsL H rs nss → RowsL H (rs ++ rs2) (nss ++ nss2)
  | [], [], _ => h2
  | _ :: _, _ :: _, h => ⟨h.1, RowsL.app h2 h.2⟩
  | [], _ :: _, h => h.elim
  | _ :: _, [], h => h.elim
def dRow (ns : List Int) : PyData := .list (ns.map PyData.int)
theorem dp_ints {K : PySem.W.Frag} {H : Hp} : ∀ ns : List Int, DpAll K H (ns.map V.int) (ns.map PyData.int)
  | [] => .nil
  | n :: ns => .cons (.int n) (dp_ints ns)
theorem RowsL.dp {K : PySem.W.Frag} {H : Hp} : ∀ {rs : List Addr} {nss : List (List Int)}, RowsL H rs nss → DpAll K H (rs.map V.ref) (nss.map dRow)
  | [], [], _ => .nil
  | _ :: _, ns :: _, h => .cons (.lst (Evl.sq_of h.1) (dp_ints ns)) (RowsL.dp h.2)
  | [], _ :: _, h => h.elim
  | _ :: _, [], h => h.elim
theorem lay_ints : ∀ ns : List Int, PyData.canLayAll0 (ns.map PyData.int) = true
  | [] => by simp [PyData.canLayAll0]
  | n :: ns => by simp [PyData.canLayAll0, PyData.canLay0, lay_ints ns]
theorem lay_rows : ∀ nss : List (List Int), PyData.canLayAll0 (nss.map dRow) = true
  | [] => by simp [PyData.canLayAll0]
  | n :: ns => by simp [PyData.canLayAll0, dRow, PyData.canLay0, lay_ints n]; exact lay_rows ns
theorem dep_ints : ∀ ns : List Int, PyData.depthAll (ns.map PyData.int) = 0
  | [] => by simp [PyData.depthAll]
  | n :: ns => by simp [PyData.depthAll, PyData.depth, dep_ints ns]
theorem dep_rows : ∀ nss : List (List Int), PyData.depthAll (nss.map dRow) ≤ 1
  | [] => by simp [PyData.depthAll]
  | n :: ns => by
    have := dep_rows ns
    simp [PyData.depthAll, dRow, PyData.depth, dep_ints n]
    omega
theorem sh_row (ns : List Int) : SeqAt.shaped (dRow ns) = true := by
  simp [SeqAt.shaped, dRow, PyData.canLay0, lay_ints, PyData.depth, dep_ints]
theorem sh_rows (nss : List (List Int)) : SeqAt.shaped (.list (nss.map dRow)) = true := by
  have := dep_rows nss
  simp [SeqAt.shaped, PyData.canLay0, lay_rows, PyData.depth]
  omega
theorem sh_nil : SeqAt.shaped (.list []) = true := by decide +kernel
theorem dp_nil {K : PySem.W.Frag} {H : Hp} {p : Addr} (h : H p = some (.lst [])) : Dp K H (.ref p) (.list []) := .lst (Evl.sq_of h) .nil
theorem dp_rows {K : PySem.W.Frag} {H : Hp} {a : Addr} {rs : List Addr} {nss : List (List Int)} (h : H a = some (.lst (rs.map V.ref))) (hr : RowsL H rs nss) : Dp K H (.ref a) (.list (nss.map dRow)) := .lst (Evl.sq_of h) hr.dp
theorem dp_row {K : PySem.W.Frag} {H : Hp} {a : Addr} {ns : List Int} (h : H a = some (.lst (ns.map V.int))) : Dp K H (.ref a) (dRow ns) := .lst (Evl.sq_of h) (dp_ints ns)
theorem eqv_nil_r (x : List PyData) : PyData.eqv (.list x) (.list []) = x.isEmpty := by
  cases x with
  | nil => simp [PyData.eqv, PyData.eqvAll]
  | cons a l => simp [PyData.eqv, PyData.eqvAll]
/-! ### [e for i, x in enumerate(xs)] -/
theorem lcE {a : Addr} {xs : List V} {ta : TA} {te : TE} {σ : L2.St} {H : Hp} {K : PySem.W.Frag} {j1 j2 : Nat} {vs : List Nat} (G : Nat → V → Prop) (h : EvA ta σ H [.ref a]) (hx : SqL K H a xs) (hz : xs.length ≤ 40000)
    (hw : ∀ x y, wipe (((wipe σ vs).set j1 (some x)).set j2 (some y)) vs = wipe σ vs)
    (he : ∀ (i : Nat) (x : V) H1, Ex H H1 → xs[i]? = some x → EvX te (((wipe σ vs).set j1 (some (.int (i : Int)))).set j2 (some x)) H1 (fun y _ => G i y)) :
    EvX (tLc (iEnum K ta) (gTup K 2 (gCons (gName j1) (gCons (gName j2) gNil))) tYes te vs) σ H (fun v H2 => ∃ p ys, v = .ref p ∧ H p = none ∧ H2 p = some (.lst ys) ∧ ys.length = xs.length ∧ ∀ k y, ys[k]? = some y → G k y) := fun H0 e Q q => h H0 e _ fun H1 e1 => ⟨a, xs, rfl, Evl.ex_l (e.trans e1) hx, fun Dl hD => by
  refine ⟨fun i m H' => m = xs.length - i ∧ i ≤ xs.length ∧ Cwx H1 G Dl i H', ⟨xs.length, by simp, Nat.zero_le _, hD, Evl.Ex.new hD, [], upd_same, rfl, fun k y hk => by simp at hk⟩, ?_⟩
  rintro i m H' ⟨rfl, hi, p⟩
  have hx' : SqL K H' a xs := Evl.ex_l ((e.trans e1).trans p.2.1) hx
  by_cases hlt : i < xs.length
  · refine Or.inr ⟨⟨xs, xs[i], hx', by simp [hlt]⟩, Cwx H1 G Dl (i + 1), fun H2 p2 => ⟨xs.length - (i + 1), by omega, rfl, by omega, p2⟩, ?_⟩
    rintro x H2 ⟨T, y, rfl, hT, rfl, hy⟩
    have hy' := hy xs hx'
    have eT : Ex H' (upd H' T (.tup [.int (i : Nat), y])) := Evl.Ex.new hT
    refine ⟨T, [.int (i : Nat), y], rfl, Evl.st_of upd_same, rfl, _, _, rfl, _, _, rfl, rfl, hw _ _, ?_⟩
    have p2 : Cwx H1 G Dl i (upd H' T (.tup [.int (i : Nat), y])) := by
      obtain ⟨q1, q2, ys, q3, q4, q5⟩ := p
      exact ⟨q1, q2.trans eT, ys, eT _ _ q3, q4, q5⟩
    exact cwx_turn p2 (by omega) (he i y H1 (e.trans e1) hy')
  · refine Or.inl ⟨⟨xs, hx', by omega⟩, ?_⟩
    obtain ⟨p1, p2, ys, p3, p4, p5⟩ := p
    exact q (.ref Dl) H' (e1.trans p2) ⟨Dl, ys, rfl, Evl.fresh_back e (Evl.fresh_back e1 p1), p3, by omega, p5⟩⟩
theorem ints_of {ys : List V} {P : Int → Prop} (h : ∀ (k : Nat) (y : V), ys[k]? = some y → ∃ z, y = V.int z ∧ P z) : ∃ ns : List Int, ys = ns.map V.int ∧ ∀ x ∈ ns, P x := by
  induction ys with
  | nil => exact ⟨[], rfl, fun x hx => by cases hx⟩
  | cons y ys ih =>
    obtain ⟨z, rfl, hz⟩ := h 0 y rfl
    obtain ⟨ns, rfl, hn⟩ := ih fun k y hk => h (k + 1) y hk
    refine ⟨z :: ns, rfl, fun x hx => ?_⟩
    rcases List.mem_cons.mp hx with rfl | hx
    · exact hz
    · exact hn x hx
def Near (ns : List Int) : Prop := ∀ x ∈ ns, -1000000000000 ≤ x ∧ x ≤ 1000000000000
theorem cxK {CX : CXT} {P : Program} {w : World} {K : PySem.W.Frag} {mg : Str → Option Value} {base : Heap} {N : List Str} {qual : Str} {scope : Scope} {f : Addr} {cd : Value} {A : Around} {outer : List Env} {s : Shared} {H : Hp} {E : XK} : (cxOf CX P w K mg base N qual scope f cd A outer s H E).K = K := rfl
theorem flat_rep {α : Type} (x : α) (n : Nat) : (List.replicate n [x]).flatten = List.replicate n x := by
  induction n with
  | zero => rfl
  | succ n ih => rw [List.replicate_succ, List.replicate_succ, List.flatten_cons, ih]; rfl
end Sr
/-! # B4 -/
namespace Sr
open PySem PySem.Spec PyProof.Rows L2
open Evl (Ex Ev EvL EvU EvT EvA RetL RetV)
/-! ### things handed in: of which kind they are -/
inductive Kd (H : Hp) : V → String → Prop
  | non : Kd H .non "NoneType"
  | bl (b : Bool) : Kd H (.bl b) "bool"
  | int (i : Int) : Kd H (.int i) "int"
  | str (x : Str) : Kd H (.str x) "str"
  | lst {a : Addr} {xs : List V} (h : H a = some (.lst xs)) : Kd H (.ref a) "list"
  | tup {a : Addr} {xs : List V} (h : H a = some (.tup xs)) : Kd H (.ref a) "tuple"
  | dK {a : Addr} (h : H a = some (.dK [])) : Kd H (.ref a) "dict"
theorem Kd.ex {H H' : Hp} {v : V} {T : String} (e : Ex H H') (k : Kd H v T) : Kd H' v T := by
  cases k with
  | non => exact .non
  | bl b => exact .bl b
  | int i => exact .int i
  | str x => exact .str x
  | lst h => exact .lst (e _ _ h)
  | tup h => exact .tup (e _ _ h)
  | dK h => exact .dK (e _ _ h)
theorem Kd.tyB {K : PySem.W.Frag} {H : Hp} {v : V} {T : String} (k : Kd H v T) : TyB K H v T := by
  cases k with
  | non => exact .non
  | bl b => exact .bl b
  | int i => exact .int i
  | str x => exact .str x
  | lst h => exact .lst (Evl.sq_of h)
  | tup h => exact .tup (Evl.st_of h)
  | dK h => exact .dK h
theorem Kd.tyX {K : PySem.W.Frag} {H : Hp} {v : V} {T : String} (k : Kd H v T) : TyX K H v (.type T) := by
  cases k with
  | non => exact .base .non
  | bl b => exact .base (.bl b)
  | int i => exact .base (.int i)
  | str x => exact .base (.str x)
  | lst h => exact .base (.lst h)
  | tup h => exact .base (.tup h)
  | dK h => exact .base (.dK h)
def D0 (H : Hp) (v : V) : Prop := ∃ T, Kd H v T
theorem D0.ex {H H' : Hp} {v : V} (e : Ex H H') (k : D0 H v) : D0 H' v := k.elim fun T h => ⟨T, h.ex e⟩
def lstOf (H : Hp) : V → Option (List V)
  | .ref a => match H a with
    | some (.lst xs) => some xs
    | _ => none
  | _ => none
theorem lstOf_of {H : Hp} {a : Addr} {xs : List V} (h : H a = some (.lst xs)) : lstOf H (.ref a) = some xs := by simp [lstOf, h]
theorem lstOf_some {H : Hp} {v : V} {xs : List V} (h : lstOf H v = some xs) : ∃ a, v = .ref a ∧ H a = some (.lst xs) := by
  unfold lstOf at h
  split at h
  · split at h
    · rename_i e
      cases h
      exact ⟨_, rfl, e⟩
    · cases h
  · cases h
theorem Kd.lst_ex {H H' : Hp} {v : V} {T : String} (k : Kd H v T) (e : Ex H H') : lstOf H' v = lstOf H v := by
  cases k with
  | lst h => simp [lstOf, h, e _ _ h]
  | tup h => simp [lstOf, h, e _ _ h]
  | dK h => simp [lstOf, h, e _ _ h]
  | _ => rfl
theorem Kd.isList {H : Hp} {v : V} {T : String} (k : Kd H v T) : decide (T = "list") = (lstOf H v).isSome := by
  cases k with
  | lst h => simp [lstOf, h]
  | tup h => simp [lstOf, h]
  | dK h => simp [lstOf, h]
  | _ => rfl
def isInt : V → Bool
  | .int _ => true
  | _ => false
theorem Kd.isInt_eq {H : Hp} {v : V} {T : String} (k : Kd H v T) : decide (T = "int") = isInt v := by cases k <;> rfl
def nearI : V → Bool
  | .int i => decide (-1000000000000 ≤ i) && decide (i ≤ 1000000000000)
  | _ => false
def intRow (H : Hp) (n : Int) (v : V) : Bool := match lstOf H v with
  | some xs => decide ((xs.length : Int) = n) && xs.all isInt
  | none => false
def nearRow (H : Hp) (n : Int) (v : V) : Bool := match lstOf H v with
  | some xs => (decide ((xs.length : Int) = n) && xs.all isInt) && xs.all nearI
  | none => false
def tblOk (H : Hp) (n : Int) (v : V) : Bool := match lstOf H v with
  | some xs => xs.all (nearRow H n)
  | none => false
def D1 (H : Hp) (v : V) : Prop := D0 H v ∧ ∀ xs, lstOf H v = some xs → xs.length ≤ 1000 ∧ ∀ x ∈ xs, D0 H x
def D2 (H : Hp) (v : V) : Prop := D0 H v ∧ ∀ xs, lstOf H v = some xs → xs.length ≤ 1000 ∧ ∀ x ∈ xs, D1 H x
theorem D0.lst_ex {H H' : Hp} {v : V} (k : D0 H v) (e : Ex H H') : lstOf H' v = lstOf H v := k.elim fun T h => h.lst_ex e
theorem D1.ex {H H' : Hp} {v : V} (e : Ex H H') (k : D1 H v) : D1 H' v := ⟨k.1.ex e, fun xs h => by
  rw [k.1.lst_ex e] at h
  exact ⟨(k.2 xs h).1, fun x hx => ((k.2 xs h).2 x hx).ex e⟩⟩
theorem D2.ex {H H' : Hp} {v : V} (e : Ex H H') (k : D2 H v) : D2 H' v := ⟨k.1.ex e, fun xs h => by
  rw [k.1.lst_ex e] at h
  exact ⟨(k.2 xs h).1, fun x hx => ((k.2 xs h).2 x hx).ex e⟩⟩
theorem nearRow_ex {H H' : Hp} {n : Int} {v : V} (k : D0 H v) (e : Ex H H') : nearRow H' n v = nearRow H n v := by
  unfold nearRow
  rw [k.lst_ex e]
theorem tblOk_ex {H H' : Hp} {n : Int} {v : V} (k : D2 H v) (e : Ex H H') : tblOk H' n v = tblOk H n v := by
  unfold tblOk
  rw [k.1.lst_ex e]
  cases h : lstOf H v with
  | none => rfl
  | some xs =>
    have q := (k.2 xs h).2
    clear h k
    show xs.all _ = xs.all _
    induction xs with
    | nil => rfl
    | cons x xs ih =>
      rw [List.all_cons, List.all_cons, nearRow_ex (q x (by simp)).1 e, ih fun y hy => q y (by simp [hy])]
theorem bools_of {g : V → Bool} : ∀ {xs ys : List V}, ys.length = xs.length → (∀ (k : Nat) (y : V), ys[k]? = some y → ∀ x, xs[k]? = some x → y = .bl (g x)) → ys = (xs.map g).map V.bl
  | [], [], _, _ => rfl
  | x :: xs, y :: ys, hl, h => by
    have e := h 0 y rfl x rfl
    have r := bools_of (g := g) (xs := xs) (ys := ys) (by simpa using hl) fun k y hy x hx => h (k + 1) y hy x hx
    rw [e, r]
    rfl
  | [], _ :: _, hl, _ => by simp at hl
  | _ :: _, [], hl, _ => by simp at hl
/-- all([g(x) for x in xs]) -/
theorem all_lc {a : Addr} {xs : List V} {tl te : TE} {σ : L2.St} {H : Hp} {K : PySem.W.Frag} {j : Nat} {vs : List Nat} (g : V → Bool) (h : Ev tl σ H (.ref a)) (hx : SqL K H a xs) (hz : xs.length ≤ 40000) (hw : ∀ x, wipe ((wipe σ vs).set j (some x)) vs = wipe σ vs)
    (he : ∀ (i : Nat) (x : V) H1, Ex H H1 → xs[i]? = some x → EvX te ((wipe σ vs).set j (some x)) H1 (fun y _ => y = .bl (g x))) {Q : VK} (q : ∀ H2, Ex H H2 → Q (.bl (xs.all g)) H2) :
    tLc (iList K tl) (gName j) tYes te vs σ H (fun x H1 => rAll K [x] H1 Q) := by
  refine lcL (fun i y => ∀ x, xs[i]? = some x → y = .bl (g x)) h hx hz hw (fun i x H1 e hi => (he i x H1 e hi).weak fun y H2 _ hy z hz => ?_) H (Ex.refl H) _ ?_
  · rw [hi] at hz
    cases hz
    exact hy
  · rintro _ H2 e2 ⟨p, ys, rfl, hp, hp2, hl, hys⟩
    have e := bools_of (g := g) hl hys
    subst e
    refine ⟨p, xs.map g, rfl, Evl.sq_of hp2, ?_⟩
    have e3 : (xs.map g).all id = xs.all g := by rw [List.all_map]; rfl
    rw [e3]
    exact q H2 e2
def rIsK : List V → Hp → VK → Prop := fun xs H Q => ∃ (x : V) (T U : String) (b : Bool), xs = [x, .ty U] ∧ Kd H x T ∧ kitB T U = some b ∧ Q (.bl b) H
theorem call_isK {X : Cx} : CallR X (.builtin "isinstance") rIsK := by
  intro pins s σ H vs us Q I r h
  obtain ⟨x, T, U, b, rfl, k, hb, q⟩ := h
  exact call_isi pins s σ H _ us Q I r ⟨x, .ty U, .type T, .type U, b, rfl, .ty U, k.tyX, kit_ty hb, q⟩
def rTyK : List V → Hp → VK → Prop := fun xs H Q => ∃ (x : V) (T : String), xs = [x] ∧ Kd H x T ∧ Q (.ty T) H
theorem call_tyK {X : Cx} : CallR X (.type "type") rTyK := by
  intro pins s σ H vs us Q I r h
  obtain ⟨x, T, rfl, k, q⟩ := h
  exact call_type1 pins s σ H _ us Q I r ⟨x, T, rfl, k.tyB, q⟩
theorem Kd.kInt {H : Hp} {v : V} {T : String} (k : Kd H v T) : ∃ b, kitB T "int" = some b ∧ (b = true → ∃ c, kitB T "bool" = some c ∧ (!c) = isInt v) ∧ (b = false → isInt v = false) := by
  cases k with
  | non => exact ⟨false, by decide +kernel, by simp, fun _ => rfl⟩
  | bl b => exact ⟨true, by decide +kernel, fun _ => ⟨true, by decide +kernel, rfl⟩, by simp⟩
  | int i => exact ⟨true, by decide +kernel, fun _ => ⟨false, by decide +kernel, rfl⟩, by simp⟩
  | str x => exact ⟨false, by decide +kernel, by simp, fun _ => rfl⟩
  | lst h => exact ⟨false, by decide +kernel, by simp, fun _ => rfl⟩
  | tup h => exact ⟨false, by decide +kernel, by simp, fun _ => rfl⟩
  | dK h => exact ⟨false, by decide +kernel, by simp, fun _ => rfl⟩
theorem Kd.kList {H : Hp} {v : V} {T : String} (k : Kd H v T) : kitB T "list" = some (lstOf H v).isSome := by
  cases k with
  | non => show kitB "NoneType" "list" = some false; decide +kernel
  | bl b => show kitB "bool" "list" = some false; decide +kernel
  | int i => show kitB "int" "list" = some false; decide +kernel
  | str x => show kitB "str" "list" = some false; decide +kernel
  | lst h => simp [lstOf, h]; decide +kernel
  | tup h => simp [lstOf, h]; decide +kernel
  | dK h => simp [lstOf, h]; decide +kernel
/-- a module's constant -/
def Ci (mg : Str → Option Value) (x : Str) (i : Int) : Prop := ∃ t, mg x = some (.int i t)
theorem pe_ci {X : Cx} {x : Str} {i : Int} {pos : Pos} (hg : Gl X x) (T : Ci X.mg x i) (hd : (x == ("__debug__" : Str)) = false := by decide) : PE X (.Name x pos) (tC (.int i)) := by
  obtain ⟨t, ht⟩ := T
  exact pe_glob hg ht ⟨t, rfl⟩ hd
end Sr
/-! # B5 -/
namespace Sr
open PySem PySem.Spec PyProof.Rows L2
open Evl (Ex Ev EvL EvU EvT EvA RetL RetV)
theorem RowsL.upd {H : Hp} {p : Addr} {o : HO} : ∀ {rs : List Addr} {nss : List (List Int)}, RowsL H rs nss → (∀ r ∈ rs, r ≠ p) → RowsL (upd H p o) rs nss
  | [], [], _, _ => trivial
  | r :: _, _ :: _, h, k => ⟨by rw [upd_ne (k r (by simp))]; exact h.1, RowsL.upd h.2 fun q hq => k q (by simp [hq])⟩
  | [], _ :: _, h, _ => h.elim
  | _ :: _, [], h, _ => h.elim
theorem RowsL.of {H H' : Hp} : ∀ {rs : List Addr} {nss : List (List Int)}, RowsL H rs nss → (∀ r ∈ rs, ∀ o, H r = some o → H' r = some o) → RowsL H' rs nss
  | [], [], _, _ => trivial
  | r :: _, _ :: _, h, k => ⟨k r (by simp) _ h.1, RowsL.of h.2 fun q hq => k q (by simp [hq])⟩
  | [], _ :: _, h, _ => h.elim
  | _ :: _, [], h, _ => h.elim
/-- copies of rows so far -/
def Cwr (H : Hp) (gs : List (List Int)) (Dl : Addr) (i : Nat) (H' : Hp) : Prop := H Dl = none ∧ Ex H H' ∧ ∃ qs, H' Dl = some (.lst (qs.map V.ref)) ∧ RowsL H' qs (gs.take i) ∧ ∀ q ∈ qs, H q = none ∧ q ≠ Dl
/-- [a copy of x for x in xs]: new rows -/
theorem lcRows {a : Addr} {xs : List V} {tl te : TE} {σ : L2.St} {H : Hp} {K : PySem.W.Frag} {j : Nat} {vs : List Nat} (gs : List (List Int)) (h : Ev tl σ H (.ref a)) (hx : SqL K H a xs) (hg : gs.length = xs.length) (hz : xs.length ≤ 40000) (hw : ∀ x, wipe ((wipe σ vs).set j (some x)) vs = wipe σ vs)
    (he : ∀ (i : Nat) (x : V) (ns : List Int) H1, Ex H H1 → xs[i]? = some x → gs[i]? = some ns → EvL te ((wipe σ vs).set j (some x)) H1 (ns.map V.int)) :
    EvX (tLc (iList K tl) (gName j) tYes te vs) σ H (fun v H2 => ∃ p qs, v = .ref p ∧ H p = none ∧ H2 p = some (.lst (qs.map V.ref)) ∧ RowsL H2 qs gs ∧ ∀ q ∈ qs, H q = none ∧ q ≠ p) := fun H0 e Q q => h H0 e _ fun H1 e1 => ⟨a, rfl, ⟨xs, Evl.ex_l (e.trans e1) hx⟩, fun Dl hD => by
  refine lc_list (xs := xs) (Cwr H1 gs Dl) ⟨hD, Evl.Ex.new hD, [], upd_same, trivial, fun q hq => by cases hq⟩ (fun i H' _ p => Evl.ex_l ((e.trans e1).trans p.2.1) hx) (fun i x H' hi p => ⟨hw x, ?_⟩) (fun H' ⟨p1, p2, qs, p3, p4, p5⟩ => ?_)
  · obtain ⟨p1, p2, qs, p3, p4, p5⟩ := p
    have hlt : i < xs.length := (List.getElem?_eq_some_iff.mp hi).1
    have hgi : gs[i]? = some gs[i] := List.getElem?_eq_getElem (by omega)
    show te _ H' fun y H4 => _
    refine he i x gs[i] H' ((e.trans e1).trans p2) hi hgi H' (Ex.refl H') _ fun r H4 hr e4 h4 => ?_
    have rD : r ≠ Dl := fun z => by
      rw [z, p3] at hr
      cases hr
    refine ⟨qs.map V.ref, e4 Dl _ p3, ?_, p1, Evl.Ex.mut (p2.trans e4) p1, qs ++ [r], ?_, ?_, ?_⟩
    · have := p4.len
      rw [List.length_map, this, List.length_take]
      exact Evl.sz_lt (by omega)
    · rw [upd_same, List.map_append]
      rfl
    · rw [List.take_succ, hgi]
      refine RowsL.app ?_ ?_
      · exact ⟨by rw [upd_ne rD]; exact h4, trivial⟩
      · exact (p4.ex e4).upd fun q hq => (p5 q hq).2
    · intro q hq
      rcases List.mem_append.mp hq with hq | hq
      · exact p5 q hq
      · rw [List.mem_singleton.mp hq]
        exact ⟨Evl.fresh_back p2 hr, rD⟩
  · rw [List.take_of_length_le (by omega)] at p4
    exact q (.ref Dl) H' (e1.trans p2) ⟨Dl, qs, rfl, Evl.fresh_back e (Evl.fresh_back e1 p1), p3, p4, fun r hr => ⟨Evl.fresh_back e (Evl.fresh_back e1 (p5 r hr).1), (p5 r hr).2⟩⟩⟩
theorem ints_near {n : Int} : ∀ {xs : List V}, ((xs.all isInt) && xs.all nearI) = true → ∃ ns : List Int, xs = ns.map V.int ∧ Near ns
  | [], _ => ⟨[], rfl, fun x hx => by cases hx⟩
  | x :: xs, h => by
    simp only [List.all_cons, Bool.and_eq_true] at h
    obtain ⟨⟨h1, h2⟩, h3, h4⟩ := h
    obtain ⟨ns, rfl, hn⟩ := ints_near (n := n) (xs := xs) (by rw [h2, h4]; rfl)
    cases x with
    | int z =>
      simp [nearI] at h3
      refine ⟨z :: ns, rfl, fun y hy => ?_⟩
      rcases List.mem_cons.mp hy with rfl | hy
      · exact h3
      · exact hn y hy
    | _ => cases h1
theorem near_row {H : Hp} {n : Int} {v : V} (h : nearRow H n v = true) : ∃ a ns, v = .ref a ∧ H a = some (.lst (ns.map V.int)) ∧ (ns.length : Int) = n ∧ Near ns := by
  unfold nearRow at h
  split at h
  · rename_i xs hl
    obtain ⟨a, rfl, ha⟩ := lstOf_some hl
    simp only [Bool.and_eq_true] at h
    obtain ⟨⟨h1, h2⟩, h3⟩ := h
    obtain ⟨ns, rfl, hn⟩ := ints_near (n := n) (xs := xs) (by rw [h2, h3]; rfl)
    exact ⟨a, ns, rfl, ha, by simpa using h1, hn⟩
  · cases h
theorem tbl_rows_all {H : Hp} {n : Int} : ∀ {xs : List V}, xs.all (nearRow H n) = true → ∃ rs nss, xs = rs.map V.ref ∧ RowsL H rs nss ∧ ∀ ns ∈ nss, (ns.length : Int) = n ∧ Near ns
  | [], _ => ⟨[], [], rfl, trivial, fun x hx => by cases hx⟩
  | x :: xs, h => by
    rw [List.all_cons, Bool.and_eq_true] at h
    obtain ⟨rs, nss, rfl, h1, h2⟩ := tbl_rows_all h.2
    obtain ⟨a, ns, rfl, ha, hl, hn⟩ := near_row h.1
    refine ⟨a :: rs, ns :: nss, rfl, ⟨ha, h1⟩, fun y hy => ?_⟩
    rcases List.mem_cons.mp hy with rfl | hy
    · exact ⟨hl, hn⟩
    · exact h2 y hy
theorem tbl_rows {H : Hp} {n : Int} {v : V} (h : tblOk H n v = true) : ∃ a rs nss, v = .ref a ∧ H a = some (.lst (rs.map V.ref)) ∧ RowsL H rs nss ∧ ∀ ns ∈ nss, (ns.length : Int) = n ∧ Near ns := by
  unfold tblOk at h
  split at h
  · rename_i xs hl
    obtain ⟨a, rfl, ha⟩ := lstOf_some hl
    obtain ⟨rs, nss, rfl, h1, h2⟩ := tbl_rows_all h
    exact ⟨a, rs, nss, rfl, ha, h1, h2⟩
  · cases h
/-- a room at x: its own list, its own rows -/
structure RoomAt (H : Hp) (C x : Addr) (n : Int) (ln : Addr) (rs : List Addr) (nss : List (List Int)) : Prop where
  obj : ∃ dx, H x = some (.ins C dx [("_letters", .int n), ("_nothings", .ref ln), ("_plan", .non)])
  lst : H ln = some (.lst (rs.map V.ref))
  rows : RowsL H rs nss
/-- new since H -/
def NewR (H : Hp) (ln : Addr) (rs : List Addr) : Prop := H ln = none ∧ ∀ r ∈ rs, H r = none
/-! ### own exceptions without an __init__ -/
structure Xc (K : PySem.W.Frag) (mg : Str → Option Value) (x : Str) (C : Addr) : Prop where
  g : mg x = some (.ref C)
  ex : PySem.W.excIn K C [.type "ValueError", .type "Exception", .type "BaseException", .type "object"] "ValueError.__new__" = true
  kp : PySem.W.keepIn K (.ref C) = true
  b : PySem.W.subIn K (.ref C) (.type "BaseException") = some true
  t : PySem.W.typeIn K (.ref C) = some (.type "type")
theorem funD_okX {P : Program} {w : World} {K : PySem.W.Frag} {mg : Str → Option Value} {base : Heap} {x qual : Str} {params : Arguments} {body : List Stmt} {scope : Scope} {dvs : List V} {kws : List (Str × V)} {f : Addr} {fd : FuncData} {N ps : List Str} {k : Nat} {sp : Sp}
    (F : FunD K x qual params body scope dvs kws f fd) (S : FnScope N ps scope) (len : ∀ vs H Q E, sp vs H Q E → vs.length = ps.length)
    (hb : ∀ (cdv : Value) (A : Around) (outer : List Env) (s : Shared) (H : Hp) (vs : List V) (Q : VK) (E : XK), Room k (A.deeper (envOfC qual scope s.heap.objs.size f cdv)) → sp vs H Q E →
      ∃ t, PSs (cxOf (L2.CX P w) P w K mg base N qual scope f cdv A outer s H E) body t ∧ t { nx := fun _ H' => Q .non H', rt := Q } (L2.start N vs) H) : FnOk P w K mg base (L2.CX P w) (k + 1) f fd ps sp :=
  F.ok S len hb
/-- what the class Room must say -/
structure Rc (K : PySem.W.Frag) (C : Addr) : Prop where
  cl : Cls K C
  nL : NoAttr K C "_letters"
  nN : NoAttr K C "_nothings"
  nP : NoAttr K C "_plan"
theorem upd_upd {H : Hp} {p : Addr} {o o' : HO} : upd (upd H p o) p o' = upd H p o' := by
  funext b
  by_cases h : b = p
  · rw [h, upd_same, upd_same]
  · rw [upd_ne h, upd_ne h, upd_ne h]
theorem putF_len (f : Str) (v : V) : ∀ fs : List (Str × V), (putF f v fs).length ≤ fs.length + 1
  | [] => by simp [putF]
  | (g, x) :: r => by
    have := putF_len f v r
    unfold putF
    split
    · simp
    · simp
      omega
theorem room_fs (n p q : V) : putF "_plan" q (putF "_nothings" p (putF "_letters" n [])) = [(("_letters" : Str), n), (("_nothings" : Str), p), (("_plan" : Str), q)] := by
  have h1 : ("_letters" : Str) ≠ "_nothings" := by decide +kernel
  have h2 : ("_letters" : Str) ≠ "_plan" := by decide +kernel
  have h3 : ("_nothings" : Str) ≠ "_plan" := by decide +kernel
  simp [putF, h1, h2, h3]
theorem ints_inj : ∀ {a b : List Int}, a.map V.int = b.map V.int → a = b
  | [], [], _ => rfl
  | x :: a, y :: b, h => by
    simp only [List.map_cons, List.cons.injEq] at h
    obtain ⟨h1, h2⟩ := h
    cases h1
    rw [ints_inj h2]
  | [], _ :: _, h => by simp at h
  | _ :: _, [], h => by simp at h
theorem refs_inj : ∀ {a b : List Addr}, a.map V.ref = b.map V.ref → a = b
  | [], [], _ => rfl
  | x :: a, y :: b, h => by
    simp only [List.map_cons, List.cons.injEq] at h
    obtain ⟨h1, h2⟩ := h
    cases h1
    rw [refs_inj h2]
  | [], _ :: _, h => by simp at h
  | _ :: _, [], h => by simp at h
theorem RowsL.fn {H : Hp} : ∀ {rs : List Addr} {n1 n2 : List (List Int)}, RowsL H rs n1 → RowsL H rs n2 → n1 = n2
  | [], [], [], _, _ => rfl
  | _ :: _, a :: _, b :: _, h1, h2 => by
    have z := h1.1.symm.trans h2.1
    have e : a = b := ints_inj (by injection z with z; injection z)
    rw [e, RowsL.fn h1.2 h2.2]
  | [], _ :: _, _, h, _ => h.elim
  | [], [], _ :: _, _, h => h.elim
  | _ :: _, [], _, h, _ => h.elim
  | _ :: _, _ :: _, [], _, h => h.elim
theorem room_plan (n p q q' : V) : putF "_plan" q' [(("_letters" : Str), n), (("_nothings" : Str), p), (("_plan" : Str), q)] = [(("_letters" : Str), n), (("_nothings" : Str), p), (("_plan" : Str), q')] := by
  have h2 : ("_letters" : Str) ≠ "_plan" := by decide +kernel
  have h3 : ("_nothings" : Str) ≠ "_plan" := by decide +kernel
  simp [putF, h2, h3]
/-- a list of lists is no row of its own -/
theorem RowsL.off {H : Hp} {ln : Addr} {rs : List Addr} {nss : List (List Int)} (h : RowsL H rs nss) (hl : H ln = some (.lst (rs.map V.ref))) : ∀ r ∈ rs, r ≠ ln := fun r hr z => by
  obtain ⟨k, hk⟩ := List.mem_iff_getElem?.mp hr
  obtain ⟨ns, _, h2⟩ := h.get hk
  rw [z, hl] at h2
  injection h2 with h2
  injection h2 with h2
  cases rs with
  | nil => cases hr
  | cons a rs =>
    cases ns with
    | nil => simp at h2
    | cons n ns => simp at h2
theorem RowsL.offI {H : Hp} {x C dx : Addr} {fs : List (Str × V)} {rs : List Addr} {nss : List (List Int)} (h : RowsL H rs nss) (hl : H x = some (.ins C dx fs)) : ∀ r ∈ rs, r ≠ x := fun r hr z => by
  obtain ⟨k, hk⟩ := List.mem_iff_getElem?.mp hr
  obtain ⟨ns, _, h2⟩ := h.get hk
  rw [z, hl] at h2
  cases h2
end Sr
/-! # BX -/
namespace Sr
open PySem PySem.Spec PyProof.Rows L2
open Evl (Ex)
/-- a caught exception that is kept -/
def ExK (cls : Value) (d : Option Addr) (a : Addr) : HO :=
  .ext fun h => ∃ oe vs, h.get? a = some oe ∧ Zc cls d oe ∧ oe.data = .fields vs
theorem exK_ok {P : Program} {w : World} {H : Hp} {h : Heap} {a : Addr} {cls : Value} {d : Option Addr} {oe : Obj} {vs : Array Value}
    (e : h.get? a = some oe) (z : Zc cls d oe) (hd : oe.data = .fields vs) : ObjOk P w H h a (ExK cls d a) :=
  ⟨⟨oe, vs, e, z, hd⟩, ⟨oe, e⟩, fun _ _ ⟨o, v, q, r⟩ k => ⟨o, v, k o q, r⟩⟩
section
variable {X : Cx} {pins : List (Addr × Obj)} {σ : L2.St} {H : Hp} {s : Shared}
/-- an object that came about within the def is tracked from now on -/
theorem inv_track {a : Addr} {o : HO} (I : Inv X pins σ H s)
    (h0 : X.s_0.heap.get? a = none) (hn : H a = none) (hL : a ≠ X.env.locals)
    (hC : ∀ x c, X.env.cells.lookup x = some c → c ≠ a)
    (hP : ∀ p ∈ X.pn ++ pins, p.1 ≠ a)
    (new : ObjOk X.prog X.w (upd H a o) s.heap a o) : Inv X pins σ (upd H a o) s where
  ok := I.ok
  os := I.os
  bare := I.bare
  base := {
    keep := I.base.keep
    slot := I.base.slot
    free := fun b ob e n x => by
      have hb : b ≠ a := fun z => by rw [z, h0] at e; cases e
      rw [upd_ne hb]
      exact I.base.free b ob e n x
    there := I.base.there
    tups := fun b xs e => by
      have q := I.base.tups b xs e
      rw [upd_ne (ne_of_none q hn)]
      exact q
    frzs := fun b u v e => by
      have q := I.base.frzs b u v e
      rw [upd_ne (ne_of_none q hn)]
      exact q
    tbls := fun b ps e => by
      obtain ⟨m, q⟩ := I.base.tbls b ps e
      exact ⟨m, by rw [upd_ne (ne_of_none q hn)]; exact q⟩ }
  loc := I.loc
  cell := I.cell
  free := by rw [upd_ne (Ne.symm hL)]; exact I.free
  freeC := fun x c e => by rw [upd_ne (hC x c e)]; exact I.freeC x c e
  pin := fun p hp => by
    obtain ⟨q1, q2, q3⟩ := I.pin p hp
    exact ⟨q1, by rw [upd_ne (hP p hp)]; exact q2, q3⟩
  hok := I.hok.laidN (fun _ _ e => e) hn new
  len := I.len
/-! ### C(..) in a try: what it raises is wished for at the slots -/
theorem make_at {CX : CXT} {k : Nat} {f C : Addr} {fd : FuncData} {ps : List Str} {ds : List Value} {dvs : List V} {sp : Sp} {E : L2.St → XK} {Q : VK} {us : List Value} {vs : List V}
    (M : Mk X.K C f) (F : FnOk X.prog X.w X.K X.mg X.base CX k f fd ps sp) (hr : Room (k + 1) X.A)
    (hb : Binds X.K fd ps ds) (hd : Vals dvs ds) (hx : PassesAt CX X σ (E σ)) (I : Inv X pins σ H s) (r : Vals vs us)
    (h : ∀ x dx, H x = none → H dx = none → dx ≠ x →
      sp (.ref x :: (vs ++ dvs)) (upd (upd H dx (.own x)) x (.ins C dx [])) (fun v H2 => v = .non ∧ Q (.ref x) H2) (E σ)) :
    wpAny (model X.prog X.w) X.A (call (.ref C) us) (EP X pins σ Q) X.xe s := by
  let n := s.heap.objs.size
  have g0 := I.hok.fresh (a := n) (Nat.le_refl _)
  have g1 := I.hok.fresh (a := n + 1) (Nat.le_succ _)
  have want := h (n + 1) n g1 g0 (Nat.ne_of_lt (Nat.lt_succ_self _))
  have J := Inv.made (C := C) I
  have vals : Vals (V.ref (n + 1) :: (vs ++ dvs)) (Value.ref (n + 1) :: (us ++ ds)) := .cons rfl (r.append hd)
  have many : (Value.ref (n + 1) :: us ++ ds).length = ps.length :=
    vals.length.symm.trans (F.len _ _ _ _ want)
  have bound := hb _ (Value.ref (n + 1) :: us) J.kIn many
  have ran := F.run _ X.stack _ _ ⟨Value.ref (n + 1) :: us, []⟩ _ _ _ (E σ) (hr.make C us []) (J.env0.make C us []) bound vals want
  refine wpAny_call (make_map (f := f) I.kIn M.makes M.init (beq_iff_eq.mp M.fn) (codeAny_mono ran ?_))
  intro res s' got
  match res, got with
  | .error e, got => exact hx pins _ _ e s' J got
  | .ok (.ret u), got =>
    obtain ⟨v, H', J', rv, ev, q⟩ := J.after got
    subst ev
    exact ⟨rv, V.ref (n + 1), H', J', rfl, q⟩
end
def tMakeS (C : Addr) (sp : Sp) (dvs : List V) (E : L2.St → XK) (t : TA) : TE := fun σ H Q =>
  t σ H fun vs H1 => ∀ x dx, H1 x = none → H1 dx = none → dx ≠ x →
    sp (.ref x :: (vs ++ dvs)) (upd (upd H1 dx (.own x)) x (.ins C dx [])) (fun v H2 => v = .non ∧ Q (.ref x) H2) (E σ)
theorem pe_makeS {X : Cx} {CX : CXT} {k : Nat} {f C : Addr} {fd : FuncData} {ps : List Str} {ds : List Value} {dvs : List V} {sp : Sp} {E : L2.St → XK} {x : Str} {p pos : Pos} {e : Expr} {es : List Expr} {t : TA}
    (M : Mk X.K C f) (F : FnOk X.prog X.w X.K X.mg X.base CX k f fd ps sp) (hr : Room (k + 1) X.A) (hg : Gl X x) (hm : X.mg x = some (.ref C))
    (hb : Binds X.K fd ps ds) (hd : Vals dvs ds) (hx : ∀ σ, PassesAt CX X σ (E σ)) (ha : PA X (e :: es) t)
    (hdb : (x == ("__debug__" : Str)) = false := by decide)
    (he : starEach (e :: es) X.env = (false, eval e X.env) :: starEach es X.env := by rfl)
    (hpl : (backTo pos (starEach es X.env)).any (·.1) = false := by rfl) :
    PE X (.Call (.Name x p) (e :: es) [] pos) (tMakeS C sp dvs E t) where
  run := fun pins s σ H Q I h => by
    refine wpAny_Call_Name_kw (ld_glob I hg hm ?_ hdb)
    refine PySem.W.callWith_K I.kIn M.kp ?_ he hpl
    refine thn (ha.run pos pins s σ H _ I h) fun us s1 got => ?_
    obtain ⟨vs, H1, J, r, q⟩ := got
    exact ⟨J.kIn, make_at M F hr hb hd (hx σ) J r q⟩
/-! ### try .. except C as n, whose suite keeps the exception: it is tracked behind the suite -/
def wKeep (K : PySem.W.Frag) (c : Value) (i : Nat) (ts : Addr → Value → Option Addr → TS) (D : Ends) : WX := fun cls d σ H =>
  PySem.W.exmOne K cls c = some true ∧ (∀ a, H a = none →
      ts a cls d {
        nx := fun σ2 H2 => D.nx (σ2.set i none) (upd H2 a (ExK cls d a))
        rt := fun _ _ => False } (σ.set i (some (.ref a))) H)
section
variable {X : Cx} {x n : Str} {c : Value} {i : Nat} {body suite : List Stmt} {b₀ : Stmt} {np pos pos' : Pos}
  {tb : WX → TS} {ts : Addr → Value → Option Addr → TS}
theorem ps_try_keep (hs : X.stack = X.env :: X.outer) (hf : X.env.frame = some X.env.locals) (hN : X.N.Nodup)
    (hi : X.N[i]? = some n) (hln : X.env.kindOf n = some .local) (hc : Names X x c) (hx0 : X.ex = [])
    (hb : ∀ (W : WX) (pn : List (Addr × Obj)) (xe : Value → Shared → Prop), Takes (X.tr pn xe) W →
      PassesOwn (model X.prog X.w) X.A X.env xe → PSs (X.tr pn xe) body (tb W))
    (hsu : ∀ (a : Addr) (oe : Obj) (cls : Value) (d : Option Addr) (pn : List (Addr × Obj)), Zc cls d oe →
      (∃ vs, oe.data = .fields vs) → PSs (X.suite a ((a, oe) :: pn)) (b₀ :: suite) (ts a cls d)) :
    PS X (.Try body [.ExceptHandler (some (.Name x np)) (some n) (b₀ :: suite) pos'] [] [] pos)
      (fun D σ H => tb (wKeep X.K c i ts D) D σ H) where
  run := fun pins s σ H D I h => by
    have ok := I.ok
    have top : X.A.frames = some (X.env :: X.outer) := ok.frames.trans (congrArg some hs)
    refine wpAny_Try_except ?_
    let H0 : List ExceptHandler := [.ExceptHandler (some (.Name x np)) (some n) (b₀ :: suite) pos']
    let M := model X.prog X.w
    let xe2 : Value → Shared → Prop := fun e s1 => wpAny M X.A (noteFrame e X.env) (fun _ s2 =>
      wpAny M X.A (setFlight e none) (fun _ s3 =>
        wpAny M X.A (handleBy e X.env H0) (SP X pins D) X.xe s3) X.xe s2) X.xe s1
    have tk2 : Takes (X.tr (X.pn ++ pins) xe2) (wKeep X.K c i ts D) := by
      intro u s' got
      obtain ⟨a, B, sI, pins', σ', H', cls, d, rfl, J', nb, up, sky, na, os, ag, hb1, hyes⟩ := got
      have J : Inv X pins σ' H' sI := J'.ofTry ok
      have sky2 : Sky B (X.env :: X.outer) a (Zc cls d) X.env.locals s'.heap := hs ▸ sky
      show wpAny M X.A (noteFrame (.ref a) X.env) _ _ _
      refine Sky.land Zc.steady top hf sky2 fun h3 fl3 up3 => ?_
      have J3 : Inv X pins σ' H' { s' with heap := h3 } := J.landed nb fl3.1 (up.trans up3) os ag
      obtain ⟨oe3, vs3, he3, hz3, hd3⟩ := fl3.there
      -- the exception's object is no frame
      have off : a ∉ frs (X.env :: X.outer) := fun hm => by
        obtain ⟨_, o', e', hnf⟩ := fl3.2.2.1.mem hm
        rw [he3] at e'
        cases e'
        exact hnf _ hd3
      have offL : a ≠ X.env.locals := fun z => off (List.mem_filterMap.mpr ⟨X.env, List.mem_cons_self, by rw [hf, z]⟩)
      have offF : a ∉ X.fs := fun hm => by
        obtain ⟨e, he, q⟩ := List.mem_filterMap.mp hm
        exact off (List.mem_filterMap.mpr ⟨e, List.mem_cons_of_mem _ he, q⟩)
      -- nor was it there ahead of the body's end
      have gone : ∀ o, sI.heap.get? a ≠ some o := fun o e => by
        have q := nb a o e (by rw [hs]; exact off)
        rw [fl3.2.1] at q
        cases q
      have z0 : X.s_0.heap.get? a = none := by
        cases e : X.s_0.heap.get? a with
        | none => rfl
        | some o =>
          obtain ⟨o', e'⟩ := J.base.there a o e (by rw [hx0]; simp)
          exact absurd e' (gone o')
      have zP : ∀ p ∈ X.pn ++ pins, p.1 ≠ a := fun p hp z => by
        have q := (J.pin p hp).1
        rw [z] at q
        exact gone _ q
      have S3 := J3.suite he3 hd3 na offL offF
      refine wpAny_handleBy_cons (codeAny_handlers_test ?_) (by intro q; cases q)
      have type3 : PySem.W.Looks M h3 (typeOf (.ref a)) cls := fun A Q E s k q => by
        refine wpAny_typeOf_ref (k _ _ he3) ?_
        rw [hz3.1]
        exact q
      have match3 := PySem.W.exm_one (M := M) J3.kIn type3 hb1
      have named : ∀ {Q E : Value → Shared → Prop}, Q c { s' with heap := h3 } →
          wpAny M (X.A.mark (some (.ref a))) (eval (.Name x np) X.env) Q E { s' with heap := h3 } := fun {Q E} q => by
        obtain ⟨hg, hdb, hm | ⟨hm, hv, hnn⟩⟩ := hc
        · exact ld_glob (X := X.suite a ((a, oe3) :: (X.pn ++ pins))) S3 hg hm q hdb
        · exact ld_blt (X := X.suite a ((a, oe3) :: (X.pn ++ pins))) S3 hg hm hv q hnn hdb
      refine named (match3.here ?_)
      refine codeAny_handlers_suite_as (HandSPX.lands_againZ fl3 fun h4 fl4 up4 => ?_)
      have J4 : Inv X pins σ' H' { s' with heap := h4 } := J.landed nb fl4.1 ((up.trans up3).trans up4) os ag
      obtain ⟨oe4, vs4, he4, hz4, hd4⟩ := fl4.there
      have S4 := J4.suite he4 hd4 na offL offF
      refine store_ok (X := X.suite a ((a, oe4) :: (X.pn ++ pins))) (v := .ref a) S4 hN hi (.inl hln) rfl (fun s5 S5 => ?_) (.inr hln)
      refine wpAny_mono ((hsu a oe4 cls d (X.pn ++ pins) hz4 ⟨_, hd4⟩).run [] s5 _ H' _ S5 (hyes a na)) (fun f s6 hsp => ?_) (fun _ _ z => z.elim)
      match f, hsp with
      | .next, hsp =>
        obtain ⟨σ6, H6, S6, q6⟩ := hsp
        have p6 := S6.pin (a, oe4) (List.mem_append_left _ List.mem_cons_self)
        have J6 : Inv X pins σ6 H6 s6 := S6.unsuite ok
        have nC : ∀ y k, X.env.cells.lookup y = some k → k ≠ a := fun y k e z => by
          obtain ⟨v, o, e1, e2⟩ := J6.cell y k e
          rw [z, p6.1] at e1
          cases e1
          rw [hd4] at e2
          cases e2
        have T6 := inv_track J6 z0 p6.2.1 offL nC zP (exK_ok p6.1 hz4 hd4)
        exact gone_ok T6 hN hi hln fun s7 J7 => ⟨_, _, J7, q6⟩
      | .brk, hsp => exact hsp.elim fun _ z => z.elim fun _ z => z.2.elim
      | .cont, hsp => exact hsp.elim fun _ z => z.elim fun _ z => z.2.elim
      | .ret u, hsp => exact hsp.elim fun _ z => z.elim fun _ z => z.elim fun _ z => z.2.2.elim
    refine wpAny_mono ((hb (wKeep X.K c i ts D) (X.pn ++ pins) xe2 tk2 PassesOwn.looking).run [] s σ H D (I.toTry _) h) (fun f s1 hsp => ?_) (fun e s1 he => he)
    match f, hsp with
    | .next, hsp =>
      obtain ⟨σ', H', J', q⟩ := hsp
      exact wpAny_execs_nil ⟨σ', H', J'.ofTry ok, q⟩
    | .brk, hsp =>
      obtain ⟨σ', H', J', q⟩ := hsp
      exact ⟨σ', H', J'.ofTry ok, q⟩
    | .cont, hsp =>
      obtain ⟨σ', H', J', q⟩ := hsp
      exact ⟨σ', H', J'.ofTry ok, q⟩
    | .ret u, hsp =>
      obtain ⟨v, σ', H', J', r, q⟩ := hsp
      exact ⟨v, σ', H', J'.ofTry ok, r, q⟩
end
end Sr
/-! # BY -/
namespace Sr
open PySem PySem.Spec PyProof.Rows L2
open Evl (Ex)
theorem count_flat {y : V} : ∀ {ys : List V} {its : List Value}, Vals ys its → ys.all flatV = true →
    its.countP (eqU y) = ys.countP (fun z => eqV z y)
  | _, _, .nil, _ => rfl
  | z :: ys, u :: its, .cons r rr, h => by
    rw [List.all_cons, Bool.and_eq_true] at h
    rw [List.countP_cons, List.countP_cons, count_flat rr h.2, eqU_of r h.1]
def rCntF (K : PySem.W.Frag) : V → List V → Hp → VK → Prop := fun x xs H Q =>
  ∃ p y ys, x = .ref p ∧ xs = [y] ∧ SqL K H p ys ∧ flatV y = true ∧ ys.all flatV = true ∧ Q (.int (ys.countP (fun z => eqV z y) : Nat)) H
theorem mt_count {X : Cx} : MtR X "list.count" (rCntF X.K) := by
  intro pins s σ H x xs v us Q I rx rxs h
  obtain ⟨p, y, ys, rfl, rfl, hs, fy, fys, q⟩ := h
  cases rx
  obtain ⟨uy, rfl, ry⟩ := rxs.one
  obtain ⟨its, rv, ⟨⟨cls, dd, data, sl⟩, n, ho, hc, hdn, hd⟩, hlen⟩ := I.list hs
  simp only at hc hd
  subst hc hd
  refine call_meets PySem.F.slot_list_count ⟨_, ho, rfl⟩ PySem.F.entry_list_count (PySem.F.args_list_count_2 _ _)
    (SeqAt.list_countAt p its.toArray n dd sl uy (eqU y)) ⟨ho, fun z hz => mem_eqAt ry fy rv fys z (by simpa using hz), ?_⟩
  have e : its.toArray.toList.countP (eqU y) = ys.countP (fun z => eqV z y) := count_flat rv fys
  refine ⟨.int (ys.countP (fun z => eqV z y) : Nat), H, I.tok _, ⟨s.toks, ?_⟩, q⟩
  show Value.int ((its.toArray.toList.countP (eqU y) : Nat) : Int) s.toks = _
  rw [e]
def rIsX (K : PySem.W.Frag) : List V → Hp → VK → Prop := fun xs H Q =>
  ∃ a D c cv b, xs = [.ref a, c] ∧ H a = some (ExK (.ref D) none a) ∧ ExcC K D ∧ ClsV c cv ∧ PySem.W.kitOne K (.ref D) cv = some b ∧ Q (.bl b) H
theorem call_isX {X : Cx} : CallR X (.builtin "isinstance") (rIsX X.K) := by
  intro pins s σ H xs us Q I r h
  obtain ⟨a, D, c, cv, b, rfl, ha, C, hc, hk, q⟩ := h
  match us, r with
  | [ua, uc], .cons ra (.cons rc .nil) =>
    cases ra
    have e := hc.eq rc
    subst e
    obtain ⟨⟨oe, vs, hg, hz, hd⟩, _⟩ := I.hok a _ ha
    have at_ : PySem.W.InstAt s.heap a oe D none := by
      obtain ⟨oc, od, oda, osl⟩ := oe
      obtain ⟨h1, h2⟩ := hz
      dsimp only at h1 h2 hd
      subst h1 h2 hd
      exact ⟨hg, rfl, rfl, trivial⟩
    have kx := PySem.W.handS_kitx_exc (x := a) (ox := oe) C.hg C.hk C.hs C.hd C.ha C.hn C.ht C.hm
    refine PySem.W.kia_one kx I.kIn at_ hk (fun z => nomatch z) fun tk => ?_
    exact ⟨.bl b, H, I.kept (t' := tk) fun _ _ z => z, rfl, q⟩
theorem pe_gref {X : Cx} {x : Str} {C : Addr} {pos : Pos} (hg : Gl X x) (h : X.mg x = some (.ref C)) (hd : (x == ("__debug__" : Str)) = false := by decide) : PE X (.Name x pos) (tC (.ref C)) := pe_glob hg h rfl hd
theorem boot_ValueError : bootBuiltins "ValueError" = some (.type "ValueError") := by decide +kernel
/-- how isinstance answers of the class D: it is the k-th of the seven, a SumError, a ValueError -/
structure Wd (K : PySem.W.Frag) (S : Addr) (cs : List Addr) (D : Addr) (k : Nat) : Prop where
  ex : ExcC K D
  one : ∀ (j : Nat) (C : Addr), cs[j]? = some C → PySem.W.kitOne K (.ref D) (.ref C) = some (decide (j = k))
  sum : PySem.W.kitOne K (.ref D) (.ref S) = some true
  val : PySem.W.kitOne K (.ref D) (.type "ValueError") = some true
theorem rows_back {H H' : Hp} (e : Ex H H') : ∀ {rs : List Addr} {nss : List (List Int)}, RowsL H' rs nss → (∀ r ∈ rs, D0 H (.ref r)) → RowsL H rs nss
  | [], [], _, _ => trivial
  | r :: _, _ :: _, h, k => by
    refine ⟨?_, rows_back e h.2 fun q hq => k q (by simp [hq])⟩
    have z := (k r (by simp)).lst_ex e
    rw [lstOf_of h.1] at z
    obtain ⟨b, hb, hb2⟩ := lstOf_some z.symm
    cases hb
    exact hb2
  | [], _ :: _, h, _ => h.elim
  | _ :: _, [], h, _ => h.elim
theorem nearRow_of {H : Hp} {n : Int} {r : Addr} {ns : List Int} (h : H r = some (.lst (ns.map V.int))) (hl : (ns.length : Int) = n) (hn : Near ns) : nearRow H n (.ref r) = true := by
  simp [nearRow, lstOf_of h, hl]
  refine ⟨fun _ _ => rfl, fun z hz => ?_⟩
  have := hn z hz
  simp [nearI, this]
theorem tblOk_rows {H : Hp} {n : Int} : ∀ {rs : List Addr} {nss : List (List Int)}, RowsL H rs nss → (∀ ns ∈ nss, (ns.length : Int) = n ∧ Near ns) → (rs.map V.ref).all (nearRow H n) = true
  | [], [], _, _ => rfl
  | r :: _, ns :: _, h, k => by
    rw [List.map_cons, List.all_cons, nearRow_of h.1 (k ns (by simp)).1 (k ns (by simp)).2, tblOk_rows h.2 fun y hy => k y (by simp [hy])]
    rfl
  | [], _ :: _, h, _ => h.elim
  | _ :: _, [], h, _ => h.elim
theorem tblOk_of {H : Hp} {n : Int} {a : Addr} {rs : List Addr} {nss : List (List Int)} (h : H a = some (.lst (rs.map V.ref))) (hr : RowsL H rs nss) (k : ∀ ns ∈ nss, (ns.length : Int) = n ∧ Near ns) : tblOk H n (.ref a) = true := by
  simp only [tblOk, lstOf_of h]
  exact tblOk_rows hr k
end Sr
/-! # BZ -/
namespace Sr
open PySem PySem.Spec PyProof.Rows L2
open Evl (Ex)
/-- a thing that is the same as itself for == -/
def Plain1 (x : V) : Prop := flatB x = true ∨ ∃ c, x = .ref c
theorem plain_run {A : Around} {s : Shared} {x : V} {u v : Value} (p : Plain1 x) (r : RelV x u) (r' : RelV x v) : SeqAt.EqAt A s u v true := by
  rcases p with h | ⟨c, rfl⟩
  · exact eqAt_same r r' h
  · cases r
    cases r'
    exact SeqAt.EqAt.same _
theorem plains_run {A : Around} {s : Shared} : ∀ {xs : List V} {us vs : List Value}, (∀ x ∈ xs, Plain1 x) → Vals xs us → Vals xs vs → ∀ j (h1 : j < us.length) (h2 : j < vs.length), SeqAt.EqAt A s us[j] vs[j] true
  | _, _, _, _, .nil, .nil => fun j h1 => absurd h1 (Nat.not_lt_zero j)
  | x :: xs, u :: us, v :: vs, p, .cons r rr, .cons r' rr' => fun j h1 h2 => by
    cases j with
    | zero => exact plain_run (p x (by simp)) r r'
    | succ j => exact plains_run (fun y hy => p y (by simp [hy])) rr rr' j (Nat.lt_of_succ_lt_succ h1) (Nat.lt_of_succ_lt_succ h2)
/-- != of two lists of the same things -/
def rNeL : R2 := fun x y H Q => ∃ a b xs, x = .ref a ∧ y = .ref b ∧ H a = some (.lst xs) ∧ H b = some (.lst xs) ∧ (∀ z ∈ xs, Plain1 z) ∧ Q (.bl false) H
theorem op_neL {X : Cx} (hu : X.A.units < cLine) : OpR X (compareOp .NotEq) rNeL := by
  intro pins s σ H x y v u Q I rx ry h
  obtain ⟨a, b, xs, rfl, rfl, ha, hb, hp, q⟩ := h
  cases rx
  cases ry
  obtain ⟨us, r1, p1, _⟩ := I.list (Evl.sq_of (K := X.K) ha)
  obtain ⟨ws, r2, p2, _⟩ := I.list (Evl.sq_of (K := X.K) hb)
  have hl : us.toArray.size = ws.toArray.size := by
    rw [List.size_toArray, List.size_toArray, ← r1.length, ← r2.length]
  refine SeqAt.RcNeAt.lists (e := fun _ => true) p1.isList p2.isList hl hu (fun j h1 h2 => ?_) _ _ _ _ ?_
  · have k := plains_run (A := X.A.in1) (s := s) hp r1 r2 j (by simpa using h1) (by simpa using h2)
    simpa using k
  · have e : ((List.range us.toArray.size).all fun _ => true) = true := List.all_eq_true.mpr fun _ _ => rfl
    rw [e]
    exact ⟨.bl false, H, I, rfl, q⟩
/-- != of a tuple and itself -/
def rNeTp : R2 := fun x y H Q => ∃ a xs, x = .ref a ∧ y = .ref a ∧ H a = some (.tup xs) ∧ Q (.bl false) H
theorem op_neTp {X : Cx} (hu : X.A.units < cLine) : OpR X (compareOp .NotEq) rNeTp := by
  intro pins s σ H x y v u Q I rx ry h
  obtain ⟨a, xs, rfl, rfl, ha, q⟩ := h
  cases rx
  cases ry
  obtain ⟨us, r1, p1, _⟩ := I.tuple (Evl.st_of (K := X.K) ha)
  refine SeqAt.RcNeAt.tuples (e := fun _ => true) p1 p1 hu (fun j h1 h2 => ?_) _ _ _ _ ?_
  · exact SeqAt.EqAt.same _
  · have e : ((List.range (min us.toArray.size us.toArray.size)).all fun _ => true) = true := List.all_eq_true.mpr fun _ _ => rfl
    rw [e]
    simp
    exact ⟨.bl false, H, I, rfl, q⟩
/-- != of a thing handed in and what it is handed in as -/
def rNeH : R2 := fun x y H Q => ((rNe x y H Q ∨ rNeL x y H Q) ∨ rNeTp x y H Q) ∨ rNeDA x y H Q
theorem op_neH {X : Cx} (hu : X.A.units < cLine) : OpR X (compareOp .NotEq) rNeH := ((op_ne.or (op_neL hu)).or (op_neTp hu)).or (op_ne_dictA hu)
end Sr
/-! # BW -/
namespace Sr
open PySem PySem.Spec PyProof.Rows L2
open Evl (Ex Ev EvL EvU EvT EvA EvO)
section
variable {te ta tb : TE} {tr : TA} {σ : L2.St} {H : Hp} {P : V → Hp → Prop} {K : PySem.W.Frag}
/-- arguments, each of which has P; P stays -/
def EaG (ta : TA) (σ : L2.St) (H : Hp) (P : V → Hp → Prop) (n : Nat) : Prop :=
  ∀ H1, Ex H H1 → ∀ Q : List V → Hp → Prop, (∀ vs H2, Ex H1 H2 → vs.length = n → (∀ v ∈ vs, P v H2) → Q vs H2) → ta σ H1 Q
theorem eg_nil : EaG tNil σ H P 0 := fun H1 _ _ q => q [] H1 (Ex.refl H1) rfl fun v hv => by cases hv
theorem eg_cons {n : Nat} (st : ∀ v H1 H2, Ex H1 H2 → P v H1 → P v H2) (h : EvX te σ H P) (hr : EaG tr σ H P n) : EaG (tCons te tr) σ H P (n + 1) := fun H1 e Q q =>
  h H1 e _ fun v H2 e2 hv => hr H2 (e.trans e2) _ fun vs H3 e3 hl hvs => q (v :: vs) H3 (e2.trans e3) (by simp [hl]) fun y hy => by
    rcases List.mem_cons.mp hy with rfl | hy
    · exact st _ _ _ e3 hv
    · exact hvs y hy
theorem d1_st : ∀ v H1 H2, Ex H1 H2 → D1 H1 v → D1 H2 v := fun _ _ _ e h => h.ex e
/-- v is no object of H -/
def Nw (H : Hp) (v : V) : Prop := ∀ r, v = .ref r → H r = none
theorem nw_ex {H H' : Hp} {v : V} (e : Ex H H') (h : Nw H' v) : Nw H v := fun r z => Evl.fresh_back e (h r z)
theorem nw_new {H H' : Hp} {p : Addr} (e : Ex H H') (h : H' p = none) : Nw H (.ref p) := fun r z => by
  cases z
  exact Evl.fresh_back e h
theorem nw_non {H : Hp} : Nw H .non := fun r z => nomatch z
theorem nw_bl {H : Hp} {b : Bool} : Nw H (.bl b) := fun r z => nomatch z
theorem nw_int {H : Hp} {b : Int} : Nw H (.int b) := fun r z => nomatch z
theorem nw_str {H : Hp} {b : Str} : Nw H (.str b) := fun r z => nomatch z
theorem d1n_st {H : Hp} : ∀ v H1 H2, Ex H1 H2 → (D1 H1 v ∧ Nw H v) → (D1 H2 v ∧ Nw H v) := fun _ _ _ e h => ⟨h.1.ex e, h.2⟩
theorem d0_st : ∀ v H1 H2, Ex H1 H2 → D0 H1 v → D0 H2 v := fun _ _ _ e h => h.ex e
def EvD (te : TE) (σ : L2.St) (H : Hp) (D : Hp → V → Prop) : Prop := EvX te σ H fun v H1 => D H1 v
/-- what holds no list -/
theorem d1_of {H : Hp} {v : V} (h : D0 H v) (hl : lstOf H v = none) : D1 H v := ⟨h, fun xs e => by
  rw [hl] at e
  cases e⟩
theorem d1_list {H : Hp} {a : Addr} {xs : List V} (h : H a = some (.lst xs)) (hl : xs.length ≤ 1000) (hx : ∀ x ∈ xs, D0 H x) : D1 H (.ref a) := ⟨⟨_, .lst h⟩, fun ys e => by
  rw [lstOf_of h] at e
  cases e
  exact ⟨hl, hx⟩⟩
theorem d1_tup {H : Hp} {a : Addr} {xs : List V} (h : H a = some (.tup xs)) : D1 H (.ref a) := d1_of ⟨_, .tup h⟩ (by simp [lstOf, h])
theorem d1_dic {H : Hp} {a : Addr} (h : H a = some (.dK [])) : D1 H (.ref a) := d1_of ⟨_, .dK h⟩ (by simp [lstOf, h])
theorem d1_non {H : Hp} : D1 H .non := d1_of ⟨_, .non⟩ rfl
theorem d1_bl {H : Hp} {b : Bool} : D1 H (.bl b) := d1_of ⟨_, .bl b⟩ rfl
theorem d1_int {H : Hp} {i : Int} : D1 H (.int i) := d1_of ⟨_, .int i⟩ rfl
theorem d1_str {H : Hp} {x : Str} : D1 H (.str x) := d1_of ⟨_, .str x⟩ rfl
theorem ex_c {v : V} (h : ∀ H', P v H') : EvX (tC v) σ H P := fun H1 _ _ q => q v H1 (Ex.refl H1) (h H1)
theorem ex_ev {v : V} (h : Ev te σ H v) (k : ∀ H', P v H') : EvX te σ H P := fun H1 e _ q => h H1 e _ fun H2 e2 => q v H2 e2 (k H2)
theorem ex_l {xs : List V} (h : EvL te σ H xs) (hl : xs.length ≤ 1000) (hx : ∀ x ∈ xs, D0 H x) : EvX te σ H fun v H1 => D1 H1 v ∧ Nw H v := fun H1 e _ q =>
  h H1 e _ fun p H2 hp e2 h2 => q (.ref p) H2 e2 ⟨d1_list h2 hl fun x hx' => (hx x hx').ex (e.trans e2), nw_new e hp⟩
/-- a tracked list -/
def EvK (te : TE) (σ : L2.St) (H : Hp) (xs : List V) : Prop := ∀ H1, Ex H H1 → ∀ Q : VK, (∀ p H2, Ex H1 H2 → H2 p = some (.lst xs) → Q (.ref p) H2) → te σ H1 Q
theorem ek_var {i : Nat} {a : Addr} {xs : List V} (h : σ[i]? = some (some (.ref a))) (ha : H a = some (.lst xs)) : EvK (tVar i) σ H xs := fun H1 e _ q => ⟨_, h, q a H1 (Ex.refl H1) (e _ _ ha)⟩
theorem ek_l {xs : List V} (h : EvL te σ H xs) : EvK te σ H xs := fun H1 e _ q => h H1 e _ fun p H2 _ e2 h2 => q p H2 e2 h2
theorem el_cat {xs ys : List V} (ha : EvK ta σ H xs) (hb : EvK tb σ H ys) (hl : xs.length + ys.length ≤ 1000) : EvL (tOp rCat ta tb) σ H (xs ++ ys) := fun H1 e Q q =>
  ha H1 e _ fun p H2 e2 h2 => hb H2 (e.trans e2) _ fun r H3 e3 h3 => ⟨p, r, xs, ys, rfl, rfl, e3 _ _ h2, h3, Evl.sz_of (by omega), fun t ht => q t _ (Evl.fresh_back (e2.trans e3) ht) ((e2.trans e3).trans (ev_up ht)) upd_same⟩
theorem el_rep {x : V} {n : Int} (hb : Ev tb σ H (.int n)) (ha : EvK ta σ H [x]) (h0 : 0 ≤ n) (hn : n ≤ 1000) : EvL (tOp rRep ta tb) σ H (List.replicate n.toNat x) := fun H1 e Q q =>
  ha H1 e _ fun p H2 e2 h2 => hb H2 (e.trans e2) _ fun H3 e3 => ⟨p, n, [x], rfl, rfl, e3 _ _ h2, by omega, by omega, Evl.sz_of (by simp; omega), fun t ht => by
    rw [flat_rep]
    exact q t _ (Evl.fresh_back (e2.trans e3) ht) ((e2.trans e3).trans (ev_up ht)) upd_same⟩
theorem ev_lenT {a : Addr} {xs : List V} (ha : Ev ta σ H (.ref a)) (h : SqL K H a xs) : Ev (tCB (fun xs H Q => ∃ p ys, xs = [V.ref p] ∧ (SqL K H p ys ∨ SqT K H p ys) ∧ Q (V.int ys.length) H) (tCons ta tNil)) σ H (.int xs.length) := fun H1 e Q q =>
  ha H1 e _ fun H2 e2 => ⟨a, xs, rfl, .inl (Evl.ex_l (e.trans e2) h), q H2 e2⟩
theorem cut_mem {xs : List V} {lo hi : Option Int} {x : V} (h : x ∈ cutV xs lo hi) : x ∈ xs := by
  unfold cutV at h
  exact List.mem_of_mem_drop (List.mem_of_mem_take h)
theorem asg_lst {i n : Nat} {D : Ends} (all : EaG tr σ H P n) (hn : n ≤ 1000) (k : ∀ vs p H2, Ex H H2 → vs.length = n → (∀ v ∈ vs, P v H2) → H2 p = none → D.nx (σ.set i (some (.ref p))) (upd H2 p (.lst vs))) : tAsg (tLst tr) (gName i) D σ H :=
  all H (Ex.refl H) _ fun vs H2 e2 hl hvs => ⟨Evl.sz_of (by omega), fun p hp => k vs p H2 e2 hl hvs hp⟩
theorem ex_dic : EvX tDNewK σ H fun v H1 => D1 H1 v ∧ Nw H v := fun H2 e2 Q q p hp => q _ _ (ev_up hp) ⟨d1_dic upd_same, nw_new e2 hp⟩
theorem ex_tup0 : EvX (tTup tNil) σ H fun v H1 => D1 H1 v ∧ Nw H v := fun H2 e2 Q q => ⟨Evl.sz_of (by simp), fun p hp => q _ _ (ev_up hp) ⟨d1_tup upd_same, nw_new e2 hp⟩⟩
theorem ex_tupof {a : Addr} {xs : List V} (h : Ev te σ H (.ref a)) (hs : SqL K H a xs) : EvX (tCB (fun xs H Q => ∃ p ys, xs = [.ref p] ∧ ((SqL K H p ys ∧ ∀ l, H l = none → Q (.ref l) (upd H l (.tup ys))) ∨ (SqT K H p ys ∧ Q (.ref p) H))) (tCons te tNil)) σ H fun v H1 => D1 H1 v ∧ Nw H v :=
  fun H1 e Q q => h H1 e _ fun H2 e2 => ⟨a, xs, rfl, .inl ⟨Evl.ex_l (e.trans e2) hs, fun l hl => q _ _ (e2.trans (ev_up hl)) ⟨d1_tup upd_same, nw_new (e.trans e2) hl⟩⟩⟩
theorem ex0_l {xs : List V} (h : EvL te σ H xs) : EvX te σ H fun v H1 => D0 H1 v := fun H1 e _ q =>
  h H1 e _ fun p H2 _ e2 h2 => q (.ref p) H2 e2 ⟨_, .lst h2⟩
theorem ex0_u {xs : List V} (h : Evl.EvU te σ H xs) : EvX te σ H fun v H1 => D0 H1 v := fun H1 e _ q =>
  h H1 e _ fun p H2 _ e2 h2 => q (.ref p) H2 e2 ⟨_, .tup h2⟩
theorem ev_pow {i j : Int} (h0 : 0 ≤ j) (h1 : j ≤ 1000000) (h2 : i.natAbs < 2 ^ 64) : Ev (tOp (rI CPow fun i j => .int (i ^ j.toNat)) (tC (.int i)) (tC (.int j))) σ H (.int (i ^ j.toNat)) := Evl.ev_op Evl.ev_c Evl.ev_c (Evl.rv_I ⟨h0, h1, h2⟩)
/-- H without p -/
def offH (H : Hp) (p : Addr) : Hp := fun b => if b = p then none else H b
theorem offH_le {H : Hp} {p : Addr} : Ex (offH H p) H := fun b o h => by
  unfold offH at h
  split at h
  · cases h
  · exact h
theorem offH_ex {H H' : Hp} {p : Addr} (e : Ex H H') : Ex (offH H p) (offH H' p) := fun b o h => by
  unfold offH at h ⊢
  split at h
  · cases h
  · rename_i hb
    rw [if_neg hb]
    exact e b o h
theorem offH_upd {H : Hp} {p : Addr} {o : HO} : offH (upd H p o) p = offH H p := by
  funext b
  unfold offH
  split
  · rfl
  · rename_i hb
    rw [upd_ne hb]
theorem offH_of {H : Hp} {p : Addr} (h : H p = none) : Ex H (offH H p) := fun b o e => by
  unfold offH
  rw [if_neg (ne_of_none e h)]
  exact e
theorem offH_new {H H' : Hp} {p : Addr} (h : H p = none) (e : Ex H H') : Ex H (offH H' p) := (offH_of h).trans (offH_ex e)
theorem d0o_st {ps : Addr} : ∀ v H1 H2, Ex H1 H2 → D0 (offH H1 ps) v → D0 (offH H2 ps) v := fun _ _ _ e h => h.ex (offH_ex e)
theorem ex0o_l {ps : Addr} {o : HO} {xs : List V} (hs : H ps = some o) (h : EvL te σ H xs) : EvX te σ H fun v H1 => D0 (offH H1 ps) v := fun H1 e _ q =>
  h H1 e _ fun p H2 hp e2 h2 => q (.ref p) H2 e2 ⟨_, .lst (show offH H2 ps p = _ by
    unfold offH
    rw [if_neg (fun z => by rw [z, e _ _ hs] at hp; cases hp)]
    exact h2)⟩
theorem ex0o_u {ps : Addr} {o : HO} {xs : List V} (hs : H ps = some o) (h : Evl.EvU te σ H xs) : EvX te σ H fun v H1 => D0 (offH H1 ps) v := fun H1 e _ q =>
  h H1 e _ fun p H2 hp e2 h2 => q (.ref p) H2 e2 ⟨_, .tup (show offH H2 ps p = _ by
    unfold offH
    rw [if_neg (fun z => by rw [z, e _ _ hs] at hp; cases hp)]
    exact h2)⟩
theorem app_new {i : Nat} {ps : Addr} {ys xs : List V} {Q : VK} (hv : σ[i]? = some (some (.ref ps))) (h4 : H ps = some (.lst ys)) (hl : ys.length ≤ 1000) (h : EvL te σ H xs) (hx : ∀ x ∈ xs, D0 (offH H ps) x) (hxl : xs.length ≤ 1000)
    (k : ∀ p H2, H p = none → Ex (offH H ps) (offH H2 ps) → H2 ps = some (.lst (ys ++ [.ref p])) → D1 (offH H2 ps) (.ref p) → Q .non H2) : tBM K "list" rAppend (tVar i) (tCons te tNil) σ H Q := by
  refine ⟨_, hv, Or.inl ⟨rfl, _, Or.inl (Or.inl h4)⟩, ?_⟩
  refine h H (Ex.refl H) _ fun p H2 hp e2 h2 => ⟨ps, ys, .ref p, rfl, rfl, e2 _ _ h4, Evl.sz_lt (by omega), ?_⟩
  have pps : p ≠ ps := fun z => by
    rw [z, h4] at hp
    cases hp
  refine k p _ hp (by rw [offH_upd]; exact offH_ex e2) upd_same ?_
  rw [offH_upd]
  refine d1_list (show offH H2 ps p = _ from ?_) hxl fun x hx' => (hx x hx').ex (offH_ex e2)
  unfold offH
  rw [if_neg pps]
  exact h2
end
theorem for_enum {K : PySem.W.Frag} {a : Addr} {xs : List V} {g : TG} {tb : TS} {D : Ends} {σ : L2.St} {H : Hp} (Pv : Nat → L2.St → Hp → Prop) (h0 : Pv 0 σ H) (hl : ∀ i σ H, i ≤ xs.length → Pv i σ H → SqL K H a xs)
    (hs : ∀ i x σ H T, xs[i]? = some x → Pv i σ H → H T = none → g (.ref T) σ (upd H T (.tup [.int (i : Nat), x])) fun σ2 H2 => tb { D with nx := Pv (i + 1), ct := Pv (i + 1), bk := D.nx } σ2 H2)
    (hd : ∀ σ H, Pv xs.length σ H → D.nx σ H) :
    ∃ W : Nat → Nat → L2.St → Hp → Prop, (∃ m, W 0 m σ H) ∧ ∀ i m σ H, W i m σ H →
      ((Ite K a).stop i H ∧ D.nx σ H) ∨ ((Ite K a).go i H ∧ ∃ N : L2.St → Hp → Prop, (∀ σ' H', N σ' H' → ∃ m', m' < m ∧ W (i + 1) m' σ' H') ∧ ∀ x H', (Ite K a).yld i H x H' → g x σ H' fun σ2 H2 => tb { D with nx := N, ct := N, bk := D.nx } σ2 H2) := by
  refine ⟨fun i m σ H => m = xs.length - i ∧ i ≤ xs.length ∧ Pv i σ H, ⟨_, rfl, Nat.zero_le _, h0⟩, ?_⟩
  rintro i m σ H ⟨rfl, hi, p⟩
  have q := hl i σ H hi p
  by_cases hlt : i < xs.length
  · refine Or.inr ⟨⟨xs, xs[i], q, List.getElem?_eq_getElem hlt⟩, Pv (i + 1), fun σ' H' p' => ⟨_, by omega, rfl, hlt, p'⟩, ?_⟩
    rintro x H' ⟨T, y, rfl, hT, rfl, hy⟩
    exact hs i y σ H T (hy xs q) p hT
  · have e : i = xs.length := by omega
    subst e
    exact Or.inl ⟨⟨xs, q, Nat.le_refl _⟩, hd σ H p⟩
theorem eqv_ints : ∀ ns : List Int, PyData.eqvAll (ns.map PyData.int) (ns.map PyData.int) = true
  | [] => by simp [PyData.eqvAll]
  | n :: ns => by simp [PyData.eqvAll, PyData.eqv, eqv_ints ns]
theorem eqv_rows : ∀ nss : List (List Int), PyData.eqvAll (nss.map dRow) (nss.map dRow) = true
  | [] => by simp [PyData.eqvAll]
  | n :: ns => by simp [PyData.eqvAll, dRow, PyData.eqv, eqv_ints n]; exact eqv_rows ns
theorem eqv_tbl (nss : List (List Int)) : PyData.eqv (.list (nss.map dRow)) (.list (nss.map dRow)) = true := by
  simp [PyData.eqv]
  exact eqv_rows nss
/-- a method of the class Room -/
def Mt (P : Program) (w : World) (K : PySem.W.Frag) (mg : Str → Option Value) (base : Heap) (CX : CXT) (k : Nat) (C : Addr) (m : Str) (ps : List Str) (sp : Sp) : Prop :=
  ∃ f fd, FnOk P w K mg base CX k f fd ps sp ∧ Meth K C m f ∧ Binds K fd ps []
theorem el_listK {te : TE} {σ : L2.St} {H : Hp} {K : PySem.W.Frag} {xs : List V} (h : EvK te σ H xs) : EvL (tCB (Evl.rListS K) (tCons te tNil)) σ H xs := fun H1 e Q q =>
  h H1 e _ fun p H2 e2 h2 => ⟨p, xs, rfl, .inl (Evl.sq_of h2), fun l hl => q l _ (Evl.fresh_back e2 hl) (e2.trans (ev_up hl)) upd_same⟩
theorem Kd.plain {H : Hp} {v : V} {T : String} (k : Kd H v T) : Plain1 v := by
  cases k with
  | lst h => exact .inr ⟨_, rfl⟩
  | tup h => exact .inr ⟨_, rfl⟩
  | dK h => exact .inr ⟨_, rfl⟩
  | _ => exact .inl rfl
/-- for x in xs: x.append(z) -/
theorem for_app {K : PySem.W.Frag} {hd : Addr} {as : List Addr} {H : Hp} {σ : L2.St} {D : Ends} {i j : Nat} {z : Int} (hj : j < σ.length) (hij : i ≠ j) (hv : σ[i]? = some (some (.ref hd))) (hh : H hd = some (.lst (as.map V.ref))) (off : ∀ r ∈ as, r ≠ hd)
    (rows : ∀ r ∈ as, ∃ zs, H r = some (.lst zs) ∧ zs.length ≤ 10) (hl : as.length ≤ 40)
    (k : ∀ y H2, (∀ b o, b ∉ as → H b = some o → H2 b = some o) → D.nx (σ.set j y) H2) : tFor (iList K (tVar i)) (gName j) (tDrop (tBM K "list" rAppend (tVar j) (tCons (tC (.int z)) tNil))) D σ H := by
  refine ⟨_, hv, hd, rfl, ⟨_, Evl.sq_of hh⟩, for_list (K := K) (a := hd) (xs := as.map V.ref) (fun n σ' H2 => (∃ y, σ' = σ.set j y) ∧ (∀ b o, b ∉ as → H b = some o → H2 b = some o) ∧ ∀ r ∈ as, ∃ zs, H2 r = some (.lst zs) ∧ zs.length ≤ 10 + n)
    ⟨⟨σ[j], by rw [List.set_getElem_self]⟩, fun b o _ h => h, fun r hr => rows r hr⟩ (fun n σ' H2 _ p => Evl.sq_of (p.2.1 hd _ (fun hm => off hd hm rfl) hh)) ?_ ?_⟩
  · rintro n x σ' H2 hx ⟨⟨y, rfl⟩, h1, h2⟩
    rw [List.getElem?_map] at hx
    cases hr : as[n]? with
    | none =>
      rw [hr] at hx
      cases hx
    | some r =>
      rw [hr] at hx
      cases hx
      have hm := List.mem_of_getElem? hr
      have hn : n < as.length := (List.getElem?_eq_some_iff.mp hr).1
      obtain ⟨zs, hz, hzl⟩ := h2 r hm
      refine ⟨.ref r, by simp [hj], Or.inl ⟨rfl, _, Or.inl (Or.inl hz)⟩, r, zs, .int z, rfl, rfl, hz, Evl.sz_lt (by omega), ?_⟩
      refine ⟨⟨some (.ref r), by rw [List.set_set]⟩, fun b o hb he => ?_, fun q hq => ?_⟩
      · rw [upd_ne (fun e => hb (by rw [e]; exact hm))]
        exact h1 b o hb he
      · by_cases e : q = r
        · subst e
          exact ⟨_, upd_same, by simp; omega⟩
        · obtain ⟨zs2, g1, g2⟩ := h2 q hq
          exact ⟨zs2, by rw [upd_ne e]; exact g1, by omega⟩
  · rintro σ' H2 ⟨⟨y, rfl⟩, h1, _⟩
    exact k y H2 h1
end Sr
/-! # BV -/
namespace Sr
open PySem PySem.Spec PyProof.Rows L2
open Evl (Ex)
section
variable {K : PySem.W.Frag} {H H' : Hp}
mutual
theorem dp_ex (e : Ex H H') : ∀ (d : PyData) (v : V), Dp K H v d → Dp K H' v d
  | .none, _, h => by
    cases h
    exact .non
  | .bool b, _, h => by
    cases h
    exact .bl b
  | .int i, _, h => by
    cases h
    exact .int i
  | .str x, _, h => by
    cases h
    exact .str x
  | .list ds, _, h => by
    cases h with
    | lst hs ha => exact .lst (Evl.ex_l e hs) (dpAll_ex e ds _ ha)
  | .tuple ds, _, h => by
    cases h with
    | tup hs ha => exact .tup (Evl.ex_t e hs) (dpAll_ex e ds _ ha)
  | .dict _, _, h => by cases h
theorem dpAll_ex (e : Ex H H') : ∀ (ds : List PyData) (vs : List V), DpAll K H vs ds → DpAll K H' vs ds
  | [], _, h => by
    cases h
    exact .nil
  | d :: ds, _, h => by
    cases h with
    | cons h1 h2 => exact .cons (dp_ex e d _ h1) (dpAll_ex e ds _ h2)
end
theorem dpAll_app : ∀ {vs us : List V} {ds es : List PyData}, DpAll K H vs ds → DpAll K H us es → DpAll K H (vs ++ us) (ds ++ es)
  | _, _, _, _, .nil, h => h
  | _, _, _, _, .cons a b, h => .cons a (dpAll_app b h)
theorem dpAll_len : ∀ {vs : List V} {ds : List PyData}, DpAll K H vs ds → vs.length = ds.length
  | _, _, .nil => rfl
  | _, _, .cons _ b => congrArg (· + 1) (dpAll_len b)
/-- things so far -/
def Cwd (K : PySem.W.Frag) (H : Hp) (ds : List PyData) (Dl : Addr) (i : Nat) (H' : Hp) : Prop := H Dl = none ∧ Ex H H' ∧ ∃ ys, H' Dl = some (.lst ys) ∧ DpAll K (offH H' Dl) ys (ds.take i)
/-- [.. for x in xs], each a new list -/
theorem lcD {a : Addr} {xs : List V} {tl te : TE} {σ : L2.St} {j : Nat} {vs : List Nat} (ds : List PyData) (h : Evl.Ev tl σ H (.ref a)) (hx : SqL K H a xs) (hg : ds.length = xs.length) (hz : xs.length ≤ 40000) (hw : ∀ x, wipe ((wipe σ vs).set j (some x)) vs = wipe σ vs)
    (he : ∀ (i : Nat) (x : V) (d : PyData) H1, Ex H H1 → xs[i]? = some x → ds[i]? = some d → ∀ Q : VK, (∀ y H2, Ex H1 H2 → (∀ D, H1 D ≠ none → Dp K (offH H2 D) y d) → Q y H2) → te ((wipe σ vs).set j (some x)) H1 Q) :
    EvX (tLc (iList K tl) (gName j) tYes te vs) σ H (fun v H2 => Dp K H2 v (.list ds)) := fun H0 e Q q => h H0 e _ fun H1 e1 => ⟨a, rfl, ⟨xs, Evl.ex_l (e.trans e1) hx⟩, fun Dl hD => by
  refine lc_list (xs := xs) (Cwd K H1 ds Dl) ⟨hD, Evl.Ex.new hD, [], upd_same, .nil⟩ (fun i H' _ p => Evl.ex_l ((e.trans e1).trans p.2.1) hx) (fun i x H' hi p => ⟨hw x, ?_⟩) (fun H' ⟨p1, p2, ys, p3, p4⟩ => ?_)
  · obtain ⟨p1, p2, ys, p3, p4⟩ := p
    have hlt : i < xs.length := (List.getElem?_eq_some_iff.mp hi).1
    have hgi : ds[i]? = some ds[i] := List.getElem?_eq_getElem (by omega)
    show te _ H' fun y H4 => _
    refine he i x ds[i] H' ((e.trans e1).trans p2) hi hgi _ fun y H4 e4 hy => ?_
    have hl := dpAll_len p4
    rw [List.length_take] at hl
    refine ⟨ys, e4 Dl _ p3, Evl.sz_lt (by omega), p1, Evl.Ex.mut (p2.trans e4) p1, ys ++ [y], upd_same, ?_⟩
    rw [offH_upd, List.take_succ, hgi]
    exact dpAll_app (dpAll_ex (offH_ex e4) _ _ p4) (.cons (hy Dl (by rw [p3]; exact fun z => nomatch z)) .nil)
  · rw [List.take_of_length_le (by omega)] at p4
    exact q (.ref Dl) H' (e1.trans p2) (.lst (Evl.sq_of p3) (dpAll_ex offH_le _ _ p4))⟩
end
end Sr
/-! # SU -/
namespace Sr
open PySem PySem.Spec PyProof.Rows L2
open Evl (Ex)
/-! ### an own error's __init__ that says super().__init__('..') and then self.f = f -/
abbrev envS (qual : Str) (scope : Scope) (L f : Addr) (cdv : Value) (cc : Addr) : Env := PySem.W.envX qual scope L f cdv [("__class__", cc)]
/-- the context of such a def's body -/
def cxS (P : Program) (w : World) (K : PySem.W.Frag) (mg : Str → Option Value) (base : Heap) (N : List Str) (qual : Str) (scope : Scope) (f : Addr) (cdv : Value) (cc : Addr) (A : Around) (outer : List Env) (s : Shared) (H : Hp) : Cx where
  prog := P
  w := w
  K := K
  mg := mg
  base := base
  A := A.deeper (envS qual scope s.heap.objs.size f cdv cc)
  N := N
  s_0 := s
  H_0 := H
  env := envS qual scope s.heap.objs.size f cdv cc
  outer := outer
  stack := envS qual scope s.heap.objs.size f cdv cc :: outer
  ex := []
  calm := true
  fn := fun _ => false
  pn := []
  xe := fun _ _ => False
/-- what its scope must say -/
structure ScS (scope : Scope) (fld : Str) : Prop where
  kind : scope.kind = .function
  co : scope.isCoroutine = false
  gen : scope.isGenerator = false
  self : scope.names.lookup ("self" : Str) = some .local
  arg : scope.names.lookup fld = some .local
  sup : scope.names.lookup ("super" : Str) = some .globalImplicit
  cls : scope.names.lookup ("__class__" : Str) = some .free
  nocell : ∀ x ∈ scope.names, x.2 ≠ .cell
  one : ∀ x ∈ scope.names, x.2 = .free → x.1 = "__class__"
  ne : ("self" : Str) ≠ fld
/-- what the written part says of the def and its class -/
structure SupK (P : Program) (K : PySem.W.Frag) (mg : Str → Option Value) (C : Addr) (fld qual : Str) (params : Arguments) (body : List Stmt) (scope : Scope) (f : Addr) (fd : FuncData) : Prop where
  fn : ∃ (x : Str) (oc : Value) (od : Option Addr) (dV kV doc pm : Value) (an : Option Addr) (cda cc : Addr) (ct : Value) (osl : Array (Option Value)) (ccl : Value) (cdd : Option Addr) (vs : Array Value) (ccs : Array (Option Value)) (file : Str) (tf : Tok) (cl : Value) (cld : Option Addr) (csl : Array (Option Value)),
    fd = PySem.W.ksFn x qual params body scope dV kV doc pm an (.ref cda) ct cc ∧ K.lookup f = some ⟨oc, od, .func fd, osl⟩ ∧ PySem.W.codeIn K (.ref cda) qual = true ∧
    K.lookup cda = some ⟨ccl, cdd, .fields vs, ccs⟩ ∧ vs[2]? = some (.str file tf) ∧ ((P.main.file : Str) == file) = true ∧ K.lookup cc = some ⟨cl, cld, .cell (some (.ref C)), csl⟩
  hp : ∃ ar : Arg, (params.posonlyargs ++ params.args).head? = some ar ∧ ar.arg = "self"
  cls : ∃ cd, PySem.W.clsIn K C = some cd
  sub : PySem.W.mroIn K C (.ref C) = some true
  sup : mg "super" = none
  top : (P.main.scope.names.lookup ("super" : Str)).isSome = false
  thr : PySem.W.nsIn K PySem.cStatics "thirdparty.any" = some none
  ini : PySem.W.ks_superIn K C C "__init__" = some (some (.builtin "ValueError.__init__"))
  val : PySem.W.subIn K (.ref C) (.type "ValueError") = some true
  oex : OexC K C
  fld : PySem.W.findIn K (.ref C) fld = some none
def spExI (C : Addr) (fld : Str) : Sp := fun vs H Q _ => ∃ (a : Addr) (y : V), vs = [.ref a, y] ∧ H a = some (exo a C none) ∧ ∀ d, H d = none → d ≠ a → Q .non (upd (upd H d (exd d [(fld, y)])) a (exo a C (some d)))
section
variable {P : Program} {w : World} {K : PySem.W.Frag} {mg : Str → Option Value} {base : Heap} {C f : Addr} {fd : FuncData} {fld qual : Str} {params : Arguments} {body : List Stmt} {scope : Scope}
theorem inv_startS {A : Around} {outer : List Env} {s : Shared} {H : Hp} {cdv : Value} {cc : Addr} {h1 : Heap} {t1 : Nat} {us : List Value} {vs : List V} {cl : Value} {cld : Option Addr} {csl : Array (Option Value)} (S : ScS scope fld) (hd : A.handled = none) (e0 : Env0 P w K mg base A outer s H) (r : Vals vs us) (hl : vs.length = 2)
    (lc : K.lookup cc = some ⟨cl, cld, .cell (some (.ref C)), csl⟩) (hns : h1.Ns s.heap.objs.size (fun x => ((["self", fld] : List Str).zip us).reverse.lookup x)) (hk : ∀ b o, s.heap.get? b = some o → h1.get? b = some o) :
    Inv (cxS P w K mg base ["self", fld] qual scope f cdv cc A outer s H) [] (vs.map some) H { s with heap := h1, toks := t1 } := by
  have noA : ∀ b : Addr, b ∉ (cxS P w K mg base ["self", fld] qual scope f cdv cc A outer s H).ex := fun b z => absurd (show b ∈ ([] : List Addr) from z) (by simp)
  have cell1 : ∀ (y : Str) (c : Addr), (cxS P w K mg base ["self", fld] qual scope f cdv cc A outer s H).env.cells.lookup y = some c → y = "__class__" ∧ c = cc := fun y c h => by
    have h : List.lookup y [(("__class__" : Str), cc)] = some c := h
    rw [List.lookup_cons] at h
    cases hb : (y == ("__class__" : Str)) with
    | true =>
      rw [hb] at h
      exact ⟨by simpa using hb, (Option.some.inj h).symm⟩
    | false =>
      rw [hb] at h
      cases h
  have bcc : ∃ o, base.get? cc = some o := ⟨_, e0.mod.kin _ _ lc⟩
  refine ⟨⟨e0.mod, S.kind, rfl, rfl, Nat.le_refl _, fun y z c h1 h2 => ?_, fun y hy => ?_, fun y c h _ => ?_, fun _ => hd, Around.frames_deeper e0.frames, .inr ⟨rfl, rfl⟩, fun b z => absurd z (noA b), e0.bs, e0.bsz, fun b _ _ => noA b, fun b z => absurd z (noA b), e0.funs, e0.frf⟩,
    rfl, e0.bare, Un.kept hk, ⟨_, hns, fun i y v h1 h2 h3 => ?_⟩, fun y c h => ?_, e0.hok.fresh (Nat.le_refl _), fun y c h => ?_, fun p hp => absurd (show p ∈ ([] : List (Addr × Obj)) from hp) (by simp), e0.hok.kept hk, by rw [List.length_map]; exact hl⟩
  · exact (cell1 y c h1).1.trans (cell1 z c h2).1.symm
  · have hy : scope.names.lookup y = some .cell ∨ scope.names.lookup y = some .free := hy
    rcases hy with hy | hy
    · exact absurd rfl (S.nocell _ (PySem.mem_of_lookup hy))
    · have e := S.one _ (PySem.mem_of_lookup hy) rfl
      dsimp only at e
      subst e
      exact ⟨cc, rfl⟩
  · cases h
  · have h1 : (["self", fld] : List Str)[i]? = some y := h1
    obtain ⟨v0, v1, rfl⟩ : ∃ v0 v1, vs = [v0, v1] := by
      match vs, hl with
      | [v0, v1], _ => exact ⟨v0, v1, rfl⟩
    cases r with
    | cons r0 r =>
      rename_i u0 us
      cases r with
      | cons r1 r =>
        rename_i u1 us
        cases r
        rcases (by omega : i = 0 ∨ i = 1 ∨ 2 ≤ i) with rfl | rfl | hi
        · have e1 : ("self" : Str) = y := Option.some.inj h1
          have e2 : v0 = v := Option.some.inj (Option.some.inj h2)
          subst e1
          subst e2
          refine ⟨u0, r0, .inl ⟨S.self, ?_⟩⟩
          show List.lookup ("self" : Str) [(fld, u1), (("self" : Str), u0)] = some u0
          rw [List.lookup_cons, show (("self" : Str) == fld) = false from beq_eq_false_iff_ne.mpr S.ne]
          show List.lookup ("self" : Str) [(("self" : Str), u0)] = some u0
          rw [List.lookup_cons, beq_self_eq_true]
        · have e1 : fld = y := Option.some.inj h1
          have e2 : v1 = v := Option.some.inj (Option.some.inj h2)
          subst e1
          subst e2
          refine ⟨u1, r1, .inl ⟨S.arg, ?_⟩⟩
          show List.lookup fld [(fld, u1), (("self" : Str), u0)] = some u1
          rw [List.lookup_cons, beq_self_eq_true]
        · rw [List.getElem?_eq_none (by simpa using hi)] at h1
          cases h1
  · obtain ⟨_, rfl⟩ := cell1 y c h
    exact ⟨_, _, hk _ _ ((e0.bs _ _ (e0.mod.kin _ _ lc)).1), rfl⟩
  · obtain ⟨_, rfl⟩ := cell1 y c h
    exact (e0.bs _ _ (e0.mod.kin _ _ lc)).2
theorem int_S {L f : Addr} {cdv : Value} {cc : Addr} (S : ScS scope fld) : interactive (envS qual scope L f cdv cc) = false := by
  unfold interactive
  rw [show (envS qual scope L f cdv cc).scope.kind = .function from S.kind]
  rfl
theorem ok_exinit {p0 p1 p2 p3 p4 p5 q0 q1 q2 q3 : Pos} {m : Str} {j : Nat} (SK : SupK P K mg C fld qual params body scope f fd) (S : ScS scope fld)
    (hb : body = [.Expr (.Call (.Attribute (.Call (.Name "super" p0) [] [] p1) "__init__" p2) [.Constant (.str m) j p3] [] p4) p5, .Assign [.Attribute (.Name "self" q0) fld q1] (.Name fld q2) q3])
    (hd1 : (fld == ("__debug__" : Str)) = false) (hd2 : (fld == ("__classdict__" : Str)) = false)
    {pl : Sem Bool} (ev : ∀ env : Env, eval (.Call (.Attribute (.Call (.Name "super" p0) [] [] p1) "__init__" p2) [.Constant (.str m) j p3] [] p4) env = (do let ov ← attributeBase (.Call (.Name "super" p0) [] [] p1) "__init__" env (eval (.Call (.Name "super" p0) [] [] p1) env); standAt p2.atName; let (f, first) ← holding [ov] (getMethod ov "__init__" pl); callWith p4 f first (backTo p4 (starEach [.Constant (.str m) j p3] env)) []))
    (sw1 : ∀ env : Env, swapsWith (.Call (.Attribute (.Call (.Name "super" p0) [] [] p1) "__init__" p2) [.Constant (.str m) j p3] [] p4) none p5.line env = pure false)
    (sw2 : ∀ env : Env, swapsWith (.Name fld q2) (some (.Attribute (.Name "self" q0) fld q1)) q3.line env = pure false) :
    FnOk P w K mg base CX0 1 f fd ["self", fld] (spExI C fld) := by
  refine ⟨fun vs H Q E h => by obtain ⟨a, y, rfl, _⟩ := h; rfl, fun A outer s H args us vs Q E hr e0 hbd r hsp => ?_⟩
  obtain ⟨x, oc, od, dV, kV, doc, pm, an, cda, cc, ct, osl, ccl, cdd, fv, ccs, file, tf, cl, cld, csl, rfl, lk, hcd, lcda, hfv, hfile, lcc⟩ := SK.fn
  obtain ⟨ar, har, hself⟩ := SK.hp
  obtain ⟨cdC, hcdC⟩ := SK.cls
  obtain ⟨a, y, rfl, ha, hq⟩ := hsp
  have KX : K.In s.heap := e0.mod.kin.keeps fun b o e => (e0.bs b o e).1
  have lim : s.heap.NoLimit := e0.mod.nolimit.keeps fun b o e => (e0.bs b o e).1
  obtain ⟨u0, u1, rfl⟩ : ∃ u0 u1, us = [u0, u1] := by
    cases r with
    | cons r0 r => cases r with
      | cons r1 r => cases r; exact ⟨_, _, rfl⟩
  obtain rfl : u0 = Value.ref a := by
    cases r with
    | cons r0 r => exact r0
  refine PySem.ks_codeAny_call_defAt (body := body) (binds := (["self", fld] : List Str).zip [Value.ref a, u1]) hr.depth (KX _ _ lk) rfl lim (PySem.W.codeRec_of KX hcd) rfl hbd S.nocell ?_ (fun h1 hns hk => ?_) S.co S.gen S.kind
  · intro z hz
    have hz : z ∈ [(("self" : Str), Value.ref a), (fld, u1)] := hz
    simp only [List.mem_cons, List.not_mem_nil, or_false] at hz
    rcases hz with rfl | rfl
    · exact S.self
    · exact S.arg
  have I : Inv (cxS P w K mg base ["self", fld] qual scope f (.ref cda) cc A outer s H) [] [some (.ref a), some y] H { s with heap := h1, toks := s.toks + ((["self", fld] : List Str).zip [Value.ref a, u1]).length } := inv_startS S hr.hd e0 r rfl lcc hns hk
  generalize s.toks + ((["self", fld] : List Str).zip [Value.ref a, u1]).length = t1 at I ⊢
  show PySem.wpAt (model P w) (A.deeper (envS qual scope s.heap.objs.size f (.ref cda) cc)) (.func body (envS qual scope s.heap.objs.size f (.ref cda) cc)) (execs body (envS qual scope s.heap.objs.size f (.ref cda) cc)) _ _ _
  -- the last row
  have fin : ∀ s2, Inv (cxS P w K mg base ["self", fld] qual scope f (.ref cda) cc A outer s H) [] [some (.ref a), some y] H s2 → ∀ R1 : Flow → Shared → Prop, (∀ s3, CE outer P w H s Q .none s3 → R1 .next s3) → ∀ E1 : Value → Shared → Prop,
      wpAny (model P w) (A.deeper (envS qual scope s.heap.objs.size f (.ref cda) cc)) (execs [.Assign [.Attribute (.Name "self" q0) fld q1] (.Name fld q2) q3] (envS qual scope s.heap.objs.size f (.ref cda) cc)) R1 E1 s2 := by
    intro s2 I2 R1 hR1 E1
    have pe0 : PE (cxS P w K mg base ["self", fld] qual scope f (.ref cda) cc A outer s H) (.Name "self" q0) (tVar 0) := pe_var rfl (.inl S.self)
    have pe1 : PE (cxS P w K mg base ["self", fld] qual scope f (.ref cda) cc A outer s H) (.Name fld q2) (tVar 1) := pe_var rfl (.inl S.arg) hd1 hd2
    have ps := pss_one (ps_ost pe0 pe1 (f := fld) (p' := q1) (pos := q3) (sw2 _))
    refine wpAny_mono (ps.run [] s2 _ H { nx := fun _ H' => Q .non H', rt := fun _ _ => False } I2 ?_) (fun fl s3 hs => ?_) (fun e s3 hs => False.elim hs)
    · exact ⟨y, rfl, .ref a, rfl, a, C, rfl, SK.oex, SK.fld, .inl ⟨ha, fun dx hdx hne => hq dx hdx hne⟩⟩
    · cases fl with
      | next =>
        obtain ⟨σ', H', J, q⟩ := hs
        exact hR1 _ ⟨.non, H', J.os, J.bare, J.base, J.hok, rfl, q⟩
      | ret u => exact hs.elim fun _ z => z.elim fun _ z => z.elim fun _ z => z.2.2.elim
      | brk => exact hs.elim fun _ z => z.elim fun _ z => z.2.elim
      | cont => exact hs.elim fun _ z => z.elim fun _ z => z.2.elim
  rw [hb]
  refine PySem.ks_wpAt_execs_cons (PySem.ks_wpAt_Expr_any (PySem.ks_wpAt_MethodCall (pl := pl) ?_ (ev _)) (int_S S) (sw1 _))
  obtain ⟨t1', ho⟩ := exo_at I.hok ha
  have X1 : K.In h1 := I.kIn
  obtain ⟨oD, hD1, hD2⟩ : ∃ oD, h1.get? C = some oD ∧ oD.data = .cls cdC := by
    unfold PySem.W.clsIn at hcdC
    split at hcdC
    · rename_i c d cd' sl ho
      cases hcdC
      exact ⟨_, X1 _ _ ho, rfl⟩
    · cases hcdC
  refine PySem.ks_wpAt_super_base (of := ⟨oc, od, .func (PySem.W.ksFn x qual params body scope dV kV doc pm an (.ref cda) ct cc), osl⟩) (ar := ar) S.sup S.cls (by decide +kernel) rfl (X1 _ _ lk) rfl har rfl (X1 _ _ lcda) rfl hfv hfile SK.top ?_
  obtain ⟨mb, b1, b2⟩ := I.mod.blt
  refine PySem.W.ks_loadName_global S.kind S.sup (Calls.loadGlobal_builtin (I.mod.glob.keeps I.bk) SK.sup (b1.keeps I.bk) ((b2 "super" (by decide +kernel)).trans (show bootBuiltins "super" = some (.type "super") by first | rfl | kernel_rfl)) ⟨rfl, ?_⟩)
  refine wpAny_loadName_free S.kind S.cls rfl ⟨_, X1 _ _ lcc, rfl⟩ ?_
  rw [hself]
  have hs1 : List.lookup ("self" : Str) ((["self", fld] : List Str).zip [Value.ref a, u1]).reverse = some (.ref a) := by
    show List.lookup ("self" : Str) [(fld, u1), (("self" : Str), Value.ref a)] = _
    rw [List.lookup_cons, show (("self" : Str) == fld) = false from beq_eq_false_iff_ne.mpr S.ne]
    show List.lookup ("self" : Str) [(("self" : Str), Value.ref a)] = _
    rw [List.lookup_cons, beq_self_eq_true]
  refine wpAny_loadName_local S.kind S.self hns hs1 ?_
  refine PySem.ks_wpAny_isType_cls hD1 hD2 ⟨rfl, ?_⟩
  refine PySem.ks_wpAny_call_super hD1 hD2 ho rfl (fun c e => nomatch e) (PySem.W.looks_mroIn X1 SK.sub) fun h2 e2 k2 => ?_
  have X2 : K.In h2 := X1.keeps k2
  have J2 : PySem.W.InstAt h2 a _ C none := ⟨k2 _ _ ho, rfl, rfl, trivial⟩
  have ini : PySem.W.alongIn K "__init__" ((cdC.mro.dropWhile (· != .ref C)).drop 1) = some (some (.builtin "ValueError.__init__")) := by
    have h := SK.ini
    unfold PySem.W.ks_superIn at h
    rw [hcdC] at h
    exact h
  refine PySem.W.kxs_getMethod PySem.W.kxs_ValueError e2 (PySem.W.looks_opaque X2 SK.thr) (l₀ := cdC.mro) (fun A Q E s k q => wpAny_bind ((PySem.W.looks_clsIn X2 hcdC) A _ E s k (wpAny_pure q))) rfl X2 ini (J2.type.andThen (PySem.W.looks_subIn X2 SK.val)) (PySem.W.ks_ne X2 J2 hcdC) (by decide +kernel) ?_
  have hu : (h2.push (PySem.W.kxs_mw "ValueError.__init__" a)).get? h2.objs.size = some (PySem.W.kxs_mw "ValueError.__init__" a) := Heap.get?_push_at rfl rfl
  have k3 : ∀ b o, h1.get? b = some o → (h2.push (PySem.W.kxs_mw "ValueError.__init__" a)).get? b = some o := fun b o e => Heap.get?_push_of_some _ (k2 b o e)
  have hun : h1.get? h2.objs.size = none := by
    cases e : h1.get? h2.objs.size with
    | none => rfl
    | some o => exact absurd (Heap.lt_size (k2 _ _ e)) (Nat.lt_irrefl _)
  have I3 := I.kept (t' := t1 + 1) k3
  dsimp only at I3
  have I2' := I.kept (t' := t1 + 1) k2
  have P3 : Inv (cxS P w K mg base ["self", fld] qual scope f (.ref cda) cc A outer s H) [(h2.objs.size, PySem.W.kxs_mw "ValueError.__init__" a)] [some (.ref a), some y] H ⟨h2.push (PySem.W.kxs_mw "ValueError.__init__" a), s.gens, s.drawn, t1 + 1, s.os⟩ := by
    refine I3.pins_of fun p hp => ?_
    rw [List.mem_singleton.mp hp]
    refine ⟨hu, I2'.hok.fresh (Nat.le_refl _), fun z => ?_, fun z => ?_, fun v z => nomatch z⟩
    · obtain ⟨oL, es, ep, hL, _⟩ := hns
      have z : h2.objs.size = s.heap.objs.size := z
      rw [z, hL] at hun
      cases hun
    · obtain ⟨_, o', e', _⟩ := e0.funs.mem z
      rw [hk _ _ e'] at hun
      cases hun
  have pa : PA (cxS P w K mg base ["self", fld] qual scope f (.ref cda) cc A outer s H) [.Constant (.str m) j p3] (tCons (tC (.str m)) tNil) := pa_cons pe_str pa_nil
  refine PySem.W.kxs_callWith (i := "ValueError.__init__") (x := a) rfl (Calls.evalArgs_plain ?_)
  refine wpAny_mono (pa.run p4 _ _ _ H (fun vs H1 => vs = [V.str m] ∧ H1 = H) P3 ⟨rfl, rfl⟩) (fun us s2 hh => ?_) (fun _ _ z => False.elim z)
  obtain ⟨vs, H1, I4, r4, e4, e4'⟩ := hh
  subst e4
  subst e4'
  obtain ⟨hu4, _⟩ := I4.pin (h2.objs.size, PySem.W.kxs_mw "ValueError.__init__" a) (List.mem_append_right _ (List.mem_singleton.mpr rfl))
  refine ⟨hu4, ?_⟩
  obtain ⟨nm, qn, N', bs, bm, sn, sub, ab, col, dd, c0, c1, c2, c3, c5, hC, hbm⟩ := SK.oex.cls
  obtain ⟨t4, ho4⟩ := exo_at I4.hok ha
  have hC4 := I4.kIn _ _ hC
  have hl4 : us.length ≤ sizeLine := by
    rw [← r4.length, sizeLine_eq]
    show 1 ≤ _
    omega
  obtain ⟨hh, g4, d4, tk4, os4⟩ := s2
  refine wpAny_call (codeAny_of_tree ?_)
  show wpAny _ _ (callAny (.ref h2.objs.size) ⟨us, []⟩) _ _ _
  have mw : (Value.type "method-wrapper" == Value.type "method" || Value.type "method-wrapper" == Value.type "builtin_function_or_method" || Value.type "method-wrapper" == Value.type "method-wrapper") = true := by decide
  have FB := F.excBase_ValueError
  simp only [callAny]
  refine wpAny_bind (wpAny_load hu4 ?_)
  simp only [PySem.W.kxs_mw, mw, if_true]
  refine PySem.W.KFB.if_so (by decide) (wpAny_bind (PySem.W.check_bound_init FB.toExcCallFacts hC4 ho4 rfl (wpAny_bind (wpAny_pure (wpAny_pure ⟨plainId_quiet FB.init.plain _, codeAny_builtin FB.initEntry ?_⟩)))))
  refine PySem.W.exc_init_tree (cls := .ref C) (t0 := t4) (dv := none) (c2 := .none) (c3 := .none) (b4 := .bool false) ho4 hl4 fun h5 k5 e5 _ => ?_
  have J := I4.write (t' := tk4) (x := a) (e := a) (o := exo a C none) (by rw [ha]; exact True.intro) (.inl rfl) k5 ⟨_, e5⟩ (exo_ok e5)
  have eu : upd H1 a (exo a C none) = H1 := by
    funext b
    by_cases hb : b = a
    · rw [hb, upd_same, ha]
    · rw [upd_ne hb]
  rw [eu] at J
  have J5 := J.pins_of (pins' := []) fun p hp => nomatch hp
  exact wpAt_of_wpAny (fin _ J5 _ (fun s3 h3 => h3) _)
end
end Sr
/-! # TX -/
namespace Sr
open PySem PySem.Spec PyProof.Rows L2
open TL (tl numL)
/-! ### texts of rooms -/
abbrev istr (i : Int) : Str := toString i
def sgL (i : Int) : List Nat := if i < 0 then 45 :: numL i.natAbs else numL i.natAbs
theorem tl_int (i : Int) : tl (istr i) = sgL i := by
  cases i with
  | ofNat n =>
    unfold sgL
    rw [if_neg (by simp)]
    exact TL.tl_num n
  | negSucc m =>
    unfold sgL
    rw [if_pos (Int.negSucc_lt_zero m)]
    show tl (Str.ofString (toString (Int.negSucc m))) = _
    rw [TL.tl_ofString]
    have h := TL.tl_num (m + 1)
    rw [TL.tl_ofString] at h
    show ("-" ++ Nat.repr (m + 1)).toList.map Char.toNat = _
    rw [String.toList_append, List.map_append]
    have h : (Nat.repr (m + 1)).toList.map Char.toNat = numL (m + 1) := h
    rw [h]
    rfl
theorem sgL_len {i : Int} (h : i.natAbs ≤ 1000000000000) : (sgL i).length ≤ 14 := by
  have := TL.numL_len (n := i.natAbs) (k := 13) (by decide) (by omega)
  unfold sgL
  split
  · rw [List.length_cons]; omega
  · omega
theorem istr_len {i : Int} (h : i.natAbs ≤ 1000000000000) : (istr i).length ≤ 14 := by
  rw [TL.len_tl, tl_int]
  exact sgL_len h
theorem int_back {i : Int} (h : i.natAbs ≤ 1000000000000) : intText? (istr i) = some i := by
  have hl := istr_len h
  by_cases hn : i < 0
  · have e : tl (istr i) = 45 :: numL i.natAbs := by rw [tl_int]; unfold sgL; rw [if_pos hn]
    have := intText_neg (x := istr i) (cs := numL i.natAbs) e (TL.numL_digits _) (TL.numL_ne _) (by omega)
    rw [this, TL.numL_val]
    congr 1
    omega
  · have e : tl (istr i) = numL i.natAbs := by rw [tl_int]; unfold sgL; rw [if_neg hn]
    have := intText_digits (x := istr i) (by rw [show (istr i).cps.toList = numL i.natAbs from e]; exact TL.numL_digits _) (by rw [show (istr i).cps.toList = numL i.natAbs from e]; exact TL.numL_ne _) (by omega)
    rw [this, show (istr i).cps.toList = numL i.natAbs from e, TL.numL_val]
    congr 1
    omega
theorem numL_head (n : Nat) : ∃ c r, numL n = c :: r ∧ 48 ≤ c ∧ c ≤ 57 := by
  have d := TL.numL_digits n
  cases h : numL n with
  | nil => exact absurd h (TL.numL_ne n)
  | cons c r =>
    rw [h] at d
    have := d c (List.mem_cons_self ..)
    exact ⟨c, r, rfl, this.1, this.2⟩
theorem starts_dash (i : Int) : Txt.startswith (istr i) ("-" : Str) = decide (i < 0) := by
  have ex : tl (istr i) = sgL i := tl_int i
  have hy : tl ("-" : Str) = [45] := by decide
  have hyl : ("-" : Str).length = 1 := by decide
  have sub : Builtin.Str.subAt (istr i) ("-" : Str) 0 = ((sgL i).take 1 == [45]) := by
    unfold Builtin.Str.subAt
    have : ((istr i).cps.extract 0 (0 + ("-" : Str).length)).toList = (sgL i).take 1 := by
      rw [Array.toList_extract, List.extract_eq_drop_take, hyl, ← ex]
      rfl
    rw [Bool.eq_iff_iff, beq_iff_eq, beq_iff_eq]
    constructor
    · intro h
      rw [← this, h]
      exact hy
    · intro h
      rw [← this] at h
      exact Array.toList_inj.mp (h.trans hy.symm)
  unfold Txt.startswith
  rw [sub, hyl, TL.len_tl, ex]
  unfold sgL
  by_cases hn : i < 0
  · rw [if_pos hn, decide_eq_true hn]
    simp
  · rw [if_neg hn, decide_eq_false hn]
    obtain ⟨c, r, h, h1, h2⟩ := numL_head i.natAbs
    rw [h]
    simp
    omega
theorem figures_tl {i : Int} (hn : i < 0) : tl (cutS (istr i) (some 1) none) = numL i.natAbs := by
  unfold cutS
  have e : (istr i).cps.toList = 45 :: numL i.natAbs := by
    show tl (istr i) = _
    rw [tl_int]; unfold sgL; rw [if_pos hn]
  have l : (istr i).length = (numL i.natAbs).length + 1 := by rw [TL.len_tl, tl_int]; unfold sgL; rw [if_pos hn, List.length_cons]
  rw [e, HT.sIx_none]
  have s1 : HT.sIx (istr i).length 0 (some 1) = 1 := by
    unfold HT.sIx
    rw [l]
    simp
  rw [s1, l]
  show (((45 :: numL i.natAbs).drop 1).take ((numL i.natAbs).length + 1 - 1)) = _
  simp
theorem digits_ok {x : Str} {n : Nat} (h : tl x = numL n) : Txt.isascii x = true ∧ Txt.isdigit x = true := by
  have d := TL.numL_digits n
  have hx : x.cps.toList = numL n := h
  constructor
  · unfold Txt.isascii
    rw [← Array.all_toList, hx, List.all_eq_true]
    intro c hc
    have := d c hc
    exact decide_eq_true (by omega)
  · unfold Txt.isdigit
    rw [← Array.all_toList, hx, Bool.and_eq_true, List.all_eq_true]
    refine ⟨decide_eq_true ?_, fun c hc => ?_⟩
    · rw [TL.len_tl, h]
      exact List.length_pos_iff.mpr (TL.numL_ne n)
    · have := d c hc
      have k : ∀ m : Nat, m < 58 → 48 ≤ m → Unicode.isDigit m = true := by decide +kernel
      exact k c (by omega) (by omega)
/-! lines -/
def LN (n : Int) : Str := ("letters " : Str) ++ istr n
def NL (ns : List Int) : Str := Txt.join (" " : Str) (("nothing" : Str) :: ns.map istr)
def TXT (n : Int) (nss : List (List Int)) : Str := Txt.join ("\n" : Str) (LN n :: nss.map NL)
theorem tl_LN (n : Int) : tl (LN n) = [108, 101, 116, 116, 101, 114, 115, 32] ++ sgL n := by
  unfold LN
  rw [TL.tl_append, tl_int]
  congr 1
theorem mem_joinL {S : List Nat} {c : Nat} : ∀ {ps : List (List Nat)}, c ∈ TL.joinL S ps → c ∈ S ∨ ∃ p ∈ ps, c ∈ p
  | [], h => nomatch h
  | [p], h => .inr ⟨p, List.mem_singleton.mpr rfl, h⟩
  | p :: q :: r, h => by
    rcases List.mem_append.mp (show c ∈ p ++ (S ++ TL.joinL S (q :: r)) from h) with h | h
    · exact .inr ⟨p, List.mem_cons_self .., h⟩
    · rcases List.mem_append.mp h with h | h
      · exact .inl h
      · rcases mem_joinL h with h | ⟨p', h1, h2⟩
        · exact .inl h
        · exact .inr ⟨p', List.mem_cons_of_mem _ h1, h2⟩
theorem sgL_mem {i : Int} {c : Nat} (h : c ∈ sgL i) : c = 45 ∨ (48 ≤ c ∧ c ≤ 57) := by
  unfold sgL at h
  split at h
  · rcases List.mem_cons.mp h with h | h
    · exact .inl h
    · exact .inr (TL.numL_digits _ c h)
  · exact .inr (TL.numL_digits _ c h)
theorem tl_NL (ns : List Int) : tl (NL ns) = TL.joinL [32] ((("nothing" : Str) :: ns.map istr).map tl) := by
  unfold NL
  rw [TL.join_eq, TL.tl_join]
  rfl
theorem NL_free {ns : List Int} : 10 ∉ tl (NL ns) := fun h => by
  rw [tl_NL] at h
  rcases mem_joinL h with h | ⟨p, h1, h2⟩
  · simp at h
  · rw [List.map_cons] at h1
    rcases List.mem_cons.mp h1 with h1 | h1
    · rw [h1] at h2
      revert h2
      decide
    · obtain ⟨x, hx, rfl⟩ := List.mem_map.mp h1
      obtain ⟨i, _, rfl⟩ := List.mem_map.mp hx
      rw [tl_int] at h2
      rcases sgL_mem h2 with h | h <;> omega
theorem LN_free {n : Int} : 10 ∉ tl (LN n) := fun h => by
  rw [tl_LN] at h
  rcases List.mem_append.mp h with h | h
  · simp at h
  · rcases sgL_mem h with h | h <;> omega
theorem TXT_split (n : Int) (nss : List (List Int)) : Txt.split (TXT n nss) ("\n" : Str) = LN n :: nss.map NL := by
  refine TL.split_join (s := 10) (S := []) (by decide) (by rw [← Array.all_toList]; decide) (by simp) fun p hp => ?_
  rcases List.mem_cons.mp hp with h | h
  · rw [h]; exact LN_free
  · obtain ⟨ns, _, rfl⟩ := List.mem_map.mp h
    exact NL_free
theorem NL_split (ns : List Int) : Txt.split (NL ns) (" " : Str) = ("nothing" : Str) :: ns.map istr := by
  refine TL.split_join (s := 32) (S := []) (by decide) (by rw [← Array.all_toList]; decide) (by simp) fun p hp => ?_
  rcases List.mem_cons.mp hp with h | h
  · rw [h]; decide
  · obtain ⟨i, _, rfl⟩ := List.mem_map.mp h
    rw [tl_int]
    intro h2
    rcases sgL_mem h2 with h | h <;> omega
theorem LN_inj {i n : Nat} (h : LN (i : Int) = LN (n : Int)) : i = n := by
  have := congrArg tl h
  rw [tl_LN, tl_LN] at this
  have := List.append_cancel_left this
  unfold sgL at this
  rw [if_neg (by omega), if_neg (by omega)] at this
  have := TL.numL_inj this
  omega
theorem joinL_snoc (S q : List Nat) : ∀ {ps : List (List Nat)}, ps ≠ [] → TL.joinL S (ps ++ [q]) = TL.joinL S ps ++ (S ++ q)
  | [], h => absurd rfl h
  | [p], _ => rfl
  | p :: p2 :: r, _ => by
    show p ++ (S ++ TL.joinL S ((p2 :: r) ++ [q])) = (p ++ (S ++ TL.joinL S (p2 :: r))) ++ (S ++ q)
    rw [joinL_snoc S q (by simp)]
    simp [List.append_assoc]
theorem NL_snoc (ns : List Int) (i : Int) : NL (ns ++ [i]) = NL ns ++ (" " : Str) ++ istr i := by
  refine TL.ext_tl ?_
  rw [TL.tl_append, TL.tl_append, tl_NL, tl_NL]
  have e : (("nothing" : Str) :: (ns ++ [i]).map istr).map tl = (("nothing" : Str) :: ns.map istr).map tl ++ [tl (istr i)] := by simp
  rw [e, joinL_snoc _ _ (by simp)]
  rw [List.append_assoc]
  rfl
theorem NL_nil : NL [] = ("nothing" : Str) := by
  unfold NL
  rw [TL.join_eq]
  rfl
theorem joinL_len {S : List Nat} {B : Nat} : ∀ {ps : List (List Nat)}, (∀ p ∈ ps, p.length ≤ B) → (TL.joinL S ps).length ≤ ps.length * (B + S.length)
  | [], _ => Nat.zero_le _
  | [p], h => by
    have := h p (List.mem_singleton.mpr rfl)
    show p.length ≤ _
    rw [List.length_singleton]
    omega
  | p :: q :: r, h => by
    have h1 := h p (List.mem_cons_self ..)
    have h2 := joinL_len (S := S) (ps := q :: r) fun x hx => h x (List.mem_cons_of_mem _ hx)
    show (p ++ (S ++ TL.joinL S (q :: r))).length ≤ _
    rw [List.length_append, List.length_append, List.length_cons, Nat.succ_mul]
    omega
theorem NL_len {ns : List Int} (hl : ns.length ≤ 6) (h : ∀ i ∈ ns, i.natAbs ≤ 1000000000000) : (NL ns).length ≤ 105 := by
  rw [TL.len_tl, tl_NL]
  have := joinL_len (S := [32]) (B := 14) (ps := (("nothing" : Str) :: ns.map istr).map tl) fun p hp => by
    rw [List.map_cons] at hp
    rcases List.mem_cons.mp hp with h1 | h1
    · rw [h1]; decide
    · obtain ⟨x, hx, rfl⟩ := List.mem_map.mp h1
      obtain ⟨i, hi, rfl⟩ := List.mem_map.mp hx
      rw [tl_int]
      exact sgL_len (h i hi)
  rw [List.length_map, List.length_cons, List.length_map] at this
  have e : (14 + [32].length) = 15 := rfl
  rw [e] at this
  omega
theorem LN_len {n : Nat} (h : n ≤ 6) : (LN (n : Int)).length ≤ 22 := by
  rw [TL.len_tl, tl_LN, List.length_append]
  have := sgL_len (i := (n : Int)) (by omega)
  show 8 + _ ≤ _
  omega
theorem TXT_len {n : Nat} {nss : List (List Int)} (hn : n ≤ 6) (h16 : nss.length ≤ 16) (h : ∀ ns ∈ nss, ns.length ≤ 6 ∧ ∀ i ∈ ns, i.natAbs ≤ 1000000000000) : (TXT (n : Int) nss).length ≤ 2000 := by
  rw [TL.len_tl]
  unfold TXT
  rw [TL.join_eq, TL.tl_join]
  have := joinL_len (S := tl ("\n" : Str)) (B := 105) (ps := (LN (n : Int) :: nss.map NL).map tl) fun p hp => by
    rw [List.map_cons] at hp
    rcases List.mem_cons.mp hp with h1 | h1
    · rw [h1, ← TL.len_tl]
      exact Nat.le_trans (LN_len hn) (by decide)
    · obtain ⟨x, hx, rfl⟩ := List.mem_map.mp h1
      obtain ⟨ns, hns, rfl⟩ := List.mem_map.mp hx
      rw [← TL.len_tl]
      exact NL_len (h ns hns).1 (h ns hns).2
  rw [List.length_map, List.length_cons, List.length_map] at this
  have e : (105 + (tl ("\n" : Str)).length) = 106 := by decide
  rw [e] at this
  omega
end Sr
/-! # TW -/
namespace Sr
open PySem PySem.Spec PyProof.Rows L2
open TL (tl numL)
open NumText (digitsVal AllDigits)
/-! ### any words and lines of a text -/
theorem tl_cut1 (x : Str) : tl (cutS x (some 1) none) = (tl x).drop 1 := by
  have e : x.cps.toList = tl x := rfl
  have l := TL.len_tl x
  unfold cutS
  show ((x.cps.toList.drop _).take _) = _
  rw [e, HT.sIx_none, show (some (1 : Int)) = some ((1 : Nat) : Int) from rfl, HT.sIx_nat, l]
  cases h : tl x with
  | nil => rfl
  | cons c r =>
    have : min 1 (c :: r).length = 1 := by rw [List.length_cons]; omega
    rw [this]
    simp
theorem tl_take1 (x : Str) : tl (cutS x none (some 1)) = (tl x).take 1 := by
  have e : x.cps.toList = tl x := rfl
  have l := TL.len_tl x
  unfold cutS
  show ((x.cps.toList.drop _).take _) = _
  rw [e, HT.sIx_none, show (some (1 : Int)) = some ((1 : Nat) : Int) from rfl, HT.sIx_nat, l]
  cases h : tl x with
  | nil => rfl
  | cons c r =>
    have : min 1 (c :: r).length = 1 := by rw [List.length_cons]; omega
    rw [this]
    simp
theorem starts_any (x : Str) : Txt.startswith x ("-" : Str) = decide ((tl x).head? = some 45) := by
  have hy : tl ("-" : Str) = [45] := by decide
  have hyl : ("-" : Str).length = 1 := by decide
  have sub : Builtin.Str.subAt x ("-" : Str) 0 = ((tl x).take 1 == [45]) := by
    unfold Builtin.Str.subAt
    have : ((x.cps.extract 0 (0 + ("-" : Str).length)).toList) = (tl x).take 1 := by
      rw [Array.toList_extract, List.extract_eq_drop_take, hyl]
      rfl
    rw [Bool.eq_iff_iff, beq_iff_eq, beq_iff_eq]
    constructor
    · intro h
      rw [← this, h]
      exact hy
    · intro h
      rw [← this] at h
      exact Array.toList_inj.mp (h.trans hy.symm)
  unfold Txt.startswith
  rw [sub, hyl, TL.len_tl]
  cases tl x with
  | nil => rfl
  | cons c r =>
    simp
    by_cases h : c = 45
    · simp [h]
    · simp [h]
/-- the figures of a word -/
def figL (l : List Nat) : List Nat := if l.head? = some 45 then l.drop 1 else l
def isD (c : Nat) : Bool := decide (48 ≤ c) && decide (c ≤ 57)
theorem isD_all {l : List Nat} : l.all isD = true ↔ AllDigits l := by
  rw [List.all_eq_true]
  constructor
  · intro h c hc
    have := h c hc
    unfold isD at this
    rw [Bool.and_eq_true] at this
    exact ⟨of_decide_eq_true this.1, of_decide_eq_true this.2⟩
  · intro h c hc
    have := h c hc
    unfold isD
    rw [decide_eq_true this.1, decide_eq_true this.2]
    rfl
/-- ASCII digits -/
theorem asc_dig (x : Str) : (Txt.isascii x && Txt.isdigit x) = (!(tl x).isEmpty && (tl x).all isD) := by
  unfold Txt.isascii Txt.isdigit
  rw [← Array.all_toList, ← Array.all_toList]
  show ((tl x).all _ && (decide _ && (tl x).all _)) = _
  have hl : decide (x.length > 0) = !(tl x).isEmpty := by
    rw [TL.len_tl]
    cases tl x <;> simp
  have k : ∀ m : Nat, m < 128 → Unicode.isDigit m = isD m := by decide +kernel
  have e : ((tl x).all (fun c => decide (c < 128)) && (tl x).all Unicode.isDigit) = (tl x).all isD := by
    induction tl x with
    | nil => rfl
    | cons c r ih =>
      rw [List.all_cons, List.all_cons, List.all_cons, ← ih]
      by_cases h : c < 128
      · rw [decide_eq_true h, k c h]
        cases isD c <;> simp
      · rw [decide_eq_false h]
        have : isD c = false := by
          unfold isD
          rw [decide_eq_false (by omega : ¬ c ≤ 57), Bool.and_false]
        rw [this]
        rfl
  rw [← e, ← hl]
  show (_ && (decide (0 < x.length) && _)) = (decide (0 < x.length) && _)
  cases decide (0 < x.length) <;> simp
/-- what is a good word of figures -/
def goodL (l : List Nat) : Bool := ((!(figL l).isEmpty && (figL l).all isD) && decide ((figL l).length ≤ 13)) && (decide ((figL l).head? ≠ some 48 ∨ l = [48]) && decide (digitsVal (figL l) ≤ 1000000000000))
def valL (l : List Nat) : Int := if l.head? = some 45 then -((digitsVal (figL l) : Nat) : Int) else ((digitsVal (figL l) : Nat) : Int)
def numW (w : Str) : Option Int := if goodL (tl w) = true then some (valL (tl w)) else none
theorem dv_snoc (l : List Nat) (c : Nat) : digitsVal (l ++ [c]) = digitsVal l * 10 + (c - 48) := by
  unfold digitsVal
  rw [List.foldl_append]
  rfl
theorem dv_head {c : Nat} : ∀ {r : List Nat}, 48 < c → 0 < digitsVal (c :: r) := by
  have key : ∀ (r : List Nat) (a : Nat), 0 < a → 0 < r.foldl (fun acc c => acc * 10 + (c - 48)) a := by
    intro r
    induction r with
    | nil => exact fun a h => h
    | cons d r ih => exact fun a h => ih _ (Nat.lt_of_lt_of_le h (by show a ≤ a * 10 + (d - 48); omega))
  intro r h
  exact key r _ (by show 0 < 0 * 10 + (c - 48); omega)
theorem snocI {p : List Nat → Prop} (h0 : p []) (h1 : ∀ l c, p l → p (l ++ [c])) (l : List Nat) : p l := by
  have key : ∀ (n : Nat) (l : List Nat), l.length = n → p l := by
    intro n
    induction n with
    | zero => exact fun l h => by rw [List.length_eq_zero_iff.mp h]; exact h0
    | succ n ih =>
      intro l h
      have hne : l ≠ [] := fun z => by rw [z] at h; cases h
      rw [← List.dropLast_concat_getLast hne]
      exact h1 _ _ (ih _ (by rw [List.length_dropLast, h]; rfl))
  exact key _ l rfl
/-- the only way to write a number -/
theorem numL_canon : ∀ l : List Nat, AllDigits l → l ≠ [] → (l.head? ≠ some 48 ∨ l = [48]) → numL (digitsVal l) = l := by
  refine snocI (fun _ h => absurd rfl h) fun l c ih ha _ hc => ?_
  have hcd := ha c (List.mem_append_right _ (List.mem_singleton.mpr rfl))
  cases l with
  | nil =>
    have e : digitsVal ([] ++ [c]) = c - 48 := by rw [dv_snoc]; unfold digitsVal; simp
    rw [e, TL.numL_lt (by omega)]
    show [48 + (c - 48)] = [c]
    rw [show 48 + (c - 48) = c by omega]
  | cons d r =>
    have hd := ha d (by simp)
    have hh : (d :: r).head? ≠ some 48 := by
      rcases hc with h | h
      · exact h
      · have := congrArg List.length h
        simp at this
    have d48 : 48 < d := by
      have : d ≠ 48 := fun z => hh (by rw [z]; rfl)
      omega
    have i := ih (fun x hx => ha x (List.mem_append_left _ hx)) (by simp) (.inl hh)
    have p := dv_head (r := r) d48
    rw [dv_snoc, TL.numL_step (by omega)]
    have e1 : (digitsVal (d :: r) * 10 + (c - 48)) / 10 = digitsVal (d :: r) := by omega
    have e2 : (digitsVal (d :: r) * 10 + (c - 48)) % 10 = c - 48 := by omega
    rw [e1, e2, i, show 48 + (c - 48) = c by omega]
theorem numL_head0 {n : Nat} (h : (numL n).head? = some 48) : n = 0 := by
  induction n using Nat.strongRecOn with
  | _ n ih =>
    by_cases hn : n < 10
    · rw [TL.numL_lt hn] at h
      simp at h
      omega
    · rw [TL.numL_step (by omega)] at h
      have hne := TL.numL_ne (n / 10)
      have : (numL (n / 10) ++ [48 + n % 10]).head? = (numL (n / 10)).head? := by
        cases hh : numL (n / 10) with
        | nil => exact absurd hh hne
        | cons => rfl
      rw [this] at h
      have := ih (n / 10) (by omega) h
      omega
/-- the value of a word of figures, and what str() makes of it -/
theorem word_int {w : Str} (h1 : (!(figL (tl w)).isEmpty && (figL (tl w)).all isD) = true) (h2 : (figL (tl w)).length ≤ 13) : intText? w = some (valL (tl w)) ∧ w.length ≤ 14 ∧ (valL (tl w)).natAbs < 10 ^ 13 := by
  rw [Bool.and_eq_true] at h1
  obtain ⟨hne, hd⟩ := h1
  have hne : figL (tl w) ≠ [] := fun z => by rw [z] at hne; cases hne
  have hd := isD_all.mp hd
  have val : ∀ l : List Nat, AllDigits l → digitsVal l < 10 ^ l.length := by
    refine snocI (by intro _; decide) fun l c ih ha => ?_
    have hc := ha c (List.mem_append_right _ (List.mem_singleton.mpr rfl))
    have := ih fun x hx => ha x (List.mem_append_left _ hx)
    rw [dv_snoc, List.length_append]
    show _ < 10 ^ (l.length + 1)
    rw [Nat.pow_succ]
    omega
  have hv := val _ hd
  have hv13 : digitsVal (figL (tl w)) < 10 ^ 13 := Nat.lt_of_lt_of_le hv (Nat.pow_le_pow_right (by decide) h2)
  by_cases h : (tl w).head? = some 45
  · have e : tl w = 45 :: figL (tl w) := by
      unfold figL
      rw [if_pos h]
      cases hh : tl w with
      | nil => rw [hh] at h; cases h
      | cons c r =>
        rw [hh] at h
        cases h
        rfl
    have lw : w.length ≤ 14 := by
      have := congrArg List.length e
      rw [List.length_cons] at this
      rw [TL.len_tl]
      omega
    refine ⟨?_, lw, ?_⟩
    · rw [intText_neg (x := w) (cs := figL (tl w)) e hd hne (by omega)]
      unfold valL
      rw [if_pos h]
    · unfold valL
      rw [if_pos h]
      omega
  · have e : figL (tl w) = tl w := by unfold figL; rw [if_neg h]
    rw [e] at hd hne h2 hv13
    have lw : w.length ≤ 14 := by rw [TL.len_tl]; omega
    refine ⟨?_, lw, ?_⟩
    · rw [intText_digits (x := w) hd hne (by omega)]
      unfold valL
      rw [if_neg h, e]
    · unfold valL
      rw [if_neg h, e, Int.natAbs_natCast]
      exact hv13
theorem word_back {w : Str} (h1 : (!(figL (tl w)).isEmpty && (figL (tl w)).all isD) = true) : decide (istr (valL (tl w)) = w) = decide ((figL (tl w)).head? ≠ some 48 ∨ tl w = [48]) := by
  rw [Bool.and_eq_true] at h1
  obtain ⟨hne, hd⟩ := h1
  have hne : figL (tl w) ≠ [] := fun z => by rw [z] at hne; cases hne
  have hd := isD_all.mp hd
  rw [decide_eq_decide]
  have ext : istr (valL (tl w)) = w ↔ sgL (valL (tl w)) = tl w := ⟨fun z => by rw [← tl_int, z], fun z => TL.ext_tl (by rw [tl_int]; exact z)⟩
  rw [ext]
  by_cases h : (tl w).head? = some 45
  · have e : tl w = 45 :: figL (tl w) := by
      unfold figL
      rw [if_pos h]
      cases hh : tl w with
      | nil => rw [hh] at h; cases h
      | cons c r =>
        rw [hh] at h
        cases h
        rfl
    have n48 : tl w ≠ [48] := fun z => by rw [z] at h; cases h
    have ev : valL (tl w) = -((digitsVal (figL (tl w)) : Nat) : Int) := by unfold valL; rw [if_pos h]
    rw [ev]
    constructor
    · intro z
      refine .inl fun hz => ?_
      by_cases h0 : digitsVal (figL (tl w)) = 0
      · rw [h0] at z
        have z : numL 0 = tl w := z
        rw [TL.numL_lt (by decide)] at z
        exact n48 z.symm
      · unfold sgL at z
        rw [if_pos (by omega)] at z
        have z2 : (45 :: numL (-((digitsVal (figL (tl w)) : Nat) : Int)).natAbs) = 45 :: figL (tl w) := z.trans e
        have z3 : numL (digitsVal (figL (tl w))) = figL (tl w) := by
          have := (List.cons.inj z2).2
          rwa [Int.natAbs_neg, Int.natAbs_natCast] at this
        rw [← z3] at hz
        exact h0 (numL_head0 hz)
    · intro z
      have hh : (figL (tl w)).head? ≠ some 48 := z.elim id fun z => absurd z n48
      have c := numL_canon _ hd hne (.inl hh)
      have h0 : digitsVal (figL (tl w)) ≠ 0 := fun z0 => by
        rw [z0, TL.numL_lt (by decide)] at c
        exact hh (by rw [← c]; rfl)
      unfold sgL
      rw [if_pos (by omega), Int.natAbs_neg, Int.natAbs_natCast, c]
      exact e.symm
  · have e : figL (tl w) = tl w := by unfold figL; rw [if_neg h]
    have ev : valL (tl w) = ((digitsVal (tl w) : Nat) : Int) := by unfold valL; rw [if_neg h, e]
    rw [ev, e]
    rw [e] at hd hne
    have es : sgL ((digitsVal (tl w) : Nat) : Int) = numL (digitsVal (tl w)) := by
      unfold sgL
      rw [if_neg (by omega), Int.natAbs_natCast]
    rw [es]
    constructor
    · intro z
      by_cases hz : (tl w).head? = some 48
      · rw [← z] at hz
        have h0 := numL_head0 hz
        rw [h0, TL.numL_lt (by decide)] at z
        exact .inr z.symm
      · exact .inl hz
    · exact fun z => numL_canon _ hd hne z
theorem goodL_eq (w : Str) : goodL (tl w) = (((!(figL (tl w)).isEmpty && (figL (tl w)).all isD) && decide ((figL (tl w)).length ≤ 13)) && (decide ((figL (tl w)).head? ≠ some 48 ∨ tl w = [48]) && decide (digitsVal (figL (tl w)) ≤ 1000000000000))) := rfl
theorem val_abs (l : List Nat) : (valL l).natAbs = digitsVal (figL l) := by
  unfold valL
  split
  · rw [Int.natAbs_neg, Int.natAbs_natCast]
  · rw [Int.natAbs_natCast]
theorem numW_abs {w : Str} {i : Int} (h : numW w = some i) : i.natAbs ≤ 1000000000000 := by
  unfold numW at h
  split at h
  · rename_i hg
    cases h
    rw [val_abs]
    rw [goodL_eq, Bool.and_eq_true, Bool.and_eq_true] at hg
    exact of_decide_eq_true (Bool.and_eq_true_iff.mp hg.2).2
  · cases h
/-! splitting and joining -/
theorem joinL_spl (s : Nat) : ∀ (l acc : List Nat), TL.joinL [s] (TL.spl [s] 0 acc l) = acc ++ l
  | [], acc => by rw [TL.spl_nil, List.append_nil]; rfl
  | c :: r, acc => by
    by_cases h : c = s
    · have hp : TL.pre [s] (c :: r) = true := by rw [h]; exact TL.pre_self [s] r
      rw [TL.spl_hit hp]
      show TL.joinL [s] (acc :: TL.spl [s] 0 [] r) = _
      have ih := joinL_spl s r []
      cases hs : TL.spl [s] 0 [] r with
      | nil =>
        exfalso
        have key : ∀ (l a : List Nat), TL.spl [s] 0 a l ≠ [] := by
          intro l
          induction l with
          | nil => exact fun a z => by rw [TL.spl_nil] at z; cases z
          | cons d q ih2 =>
            intro a z
            cases hq : TL.pre [s] (d :: q) with
            | true => rw [TL.spl_hit hq] at z; cases z
            | false => rw [TL.spl_miss hq] at z; exact ih2 _ z
        exact key _ _ hs
      | cons p q =>
        rw [hs] at ih
        show acc ++ ([s] ++ TL.joinL [s] (p :: q)) = _
        rw [ih, h]
        rfl
    · rw [TL.spl_miss (TL.pre_of_head [] r h), joinL_spl s r (acc ++ [c]), List.append_assoc]
      rfl
theorem spl_ne (s : Nat) : ∀ (l a : List Nat), TL.spl [s] 0 a l ≠ []
  | [], a => fun z => by rw [TL.spl_nil] at z; cases z
  | d :: q, a => fun z => by
    cases hq : TL.pre [s] (d :: q) with
    | true => rw [TL.spl_hit hq] at z; cases z
    | false => rw [TL.spl_miss hq] at z; exact spl_ne s q _ z
theorem sp_tl (x : Str) : (Txt.split x (" " : Str)).map tl = TL.spl [32] 0 [] (tl x) := TL.split_spl x _ (by decide) (TL.kind_ok (by rw [← Array.all_toList]; decide))
theorem nl_tl (x : Str) : (Txt.split x ("\n" : Str)).map tl = TL.spl [10] 0 [] (tl x) := TL.split_spl x _ (by decide) (TL.kind_ok (by rw [← Array.all_toList]; decide))
theorem sp_ne (x : Str) : Txt.split x (" " : Str) ≠ [] := fun z => spl_ne 32 _ _ ((sp_tl x).symm.trans (by rw [z]; rfl))
theorem nl_ne (x : Str) : Txt.split x ("\n" : Str) ≠ [] := fun z => spl_ne 10 _ _ ((nl_tl x).symm.trans (by rw [z]; rfl))
/-- every part is no longer than the whole -/
theorem spl_len (s : Nat) : ∀ (l a p : List Nat), p ∈ TL.spl [s] 0 a l → p.length ≤ a.length + l.length
  | [], a, p, h => by
    rw [TL.spl_nil] at h
    rw [List.mem_singleton.mp h]
    simp
  | d :: q, a, p, h => by
    cases hq : TL.pre [s] (d :: q) with
    | true =>
      rw [TL.spl_hit hq] at h
      rcases List.mem_cons.mp h with h | h
      · rw [h]; exact Nat.le_add_right _ _
      · have := spl_len s q [] p h
        rw [List.length_cons]
        simp at this
        omega
    | false =>
      rw [TL.spl_miss hq] at h
      have := spl_len s q _ p h
      rw [List.length_append] at this
      rw [List.length_cons]
      simp at this
      omega
theorem sp_len {x p : Str} (h : p ∈ Txt.split x (" " : Str)) : p.length ≤ x.length := by
  have := spl_len 32 (tl x) [] (tl p) (by rw [← sp_tl]; exact List.mem_map.mpr ⟨p, h, rfl⟩)
  rw [TL.len_tl, TL.len_tl]
  simpa using this
theorem nl_len {x p : Str} (h : p ∈ Txt.split x ("\n" : Str)) : p.length ≤ x.length := by
  have := spl_len 10 (tl x) [] (tl p) (by rw [← nl_tl]; exact List.mem_map.mpr ⟨p, h, rfl⟩)
  rw [TL.len_tl, TL.len_tl]
  simpa using this
/-- the first line -/
def lettersW (l : Str) : Option Nat := (List.range 7).find? fun i : Nat => decide (l = LN (i : Int))
theorem LN_split (n : Nat) : Txt.split (LN (n : Int)) (" " : Str) = [("letters" : Str), istr (n : Int)] := by
  have e : LN (n : Int) = Txt.join (" " : Str) [("letters" : Str), istr (n : Int)] := by
    refine TL.ext_tl ?_
    rw [tl_LN, TL.join_eq, TL.tl_join]
    show _ = tl ("letters" : Str) ++ (tl (" " : Str) ++ tl (istr (n : Int)))
    rw [tl_int]
    rfl
  rw [e]
  refine TL.split_join (s := 32) (S := []) (by decide) (by rw [← Array.all_toList]; decide) (by simp) fun p hp => ?_
  rcases List.mem_cons.mp hp with h | h
  · rw [h]; decide
  · rw [List.mem_singleton.mp h, tl_int]
    intro h2
    rcases sgL_mem h2 with h | h <;> omega
theorem LN_of {x : Str} {n : Nat} (h : Txt.split x (" " : Str) = [("letters" : Str), istr (n : Int)]) : x = LN (n : Int) := by
  refine TL.ext_tl ?_
  have := joinL_spl 32 (tl x) []
  rw [← sp_tl, h] at this
  rw [List.nil_append] at this
  rw [← this, tl_LN, ← tl_int]
  rfl
theorem lettersW_le {l : Str} {n : Nat} (h : lettersW l = some n) : n ≤ 6 ∧ l = LN (n : Int) := by
  have h1 := List.find?_some h
  have h2 := List.mem_of_find?_eq_some h
  have := List.mem_range.mp h2
  exact ⟨by omega, of_decide_eq_true h1⟩
theorem lettersW_some {n : Nat} (h : n ≤ 6) : lettersW (LN (n : Int)) = some n := by
  cases hf : lettersW (LN (n : Int)) with
  | none =>
    have := List.find?_eq_none.mp hf n (List.mem_range.mpr (by omega))
    exact absurd (decide_eq_true rfl) this
  | some m =>
    have := LN_inj (lettersW_le hf).2
    rw [this]
/-- a further line -/
def rowW (l : Str) (n : Nat) : Option (List Int) :=
  match Txt.split l (" " : Str) with
  | [] => none
  | w :: ws => if w = ("nothing" : Str) ∧ ws.length = n then ws.mapM numW else none
theorem mapM_len : ∀ {ws : List Str} {ns : List Int}, ws.mapM numW = some ns → ns.length = ws.length ∧ ∀ i ∈ ns, i.natAbs ≤ 1000000000000
  | [], ns, h => by
    rw [List.mapM_nil] at h
    cases h
    exact ⟨rfl, fun i hi => nomatch hi⟩
  | w :: ws, ns, h => by
    rw [List.mapM_cons] at h
    cases h1 : numW w with
    | none => rw [h1] at h; cases h
    | some i =>
      cases h2 : ws.mapM numW with
      | none => rw [h1, h2] at h; cases h
      | some is =>
        rw [h1, h2] at h
        cases h
        have := mapM_len h2
        refine ⟨by rw [List.length_cons, List.length_cons, this.1], fun j hj => ?_⟩
        rcases List.mem_cons.mp hj with h | h
        · rw [h]; exact numW_abs h1
        · exact this.2 j h
theorem mapM_all : ∀ {ws : List Str} {g : Nat → Option Int}, (∀ (j : Nat) (w : Str), ws[j]? = some w → g j = numW w) → (∀ j, j < ws.length → ∃ i, g j = some i) → ws.mapM numW = some ((List.range ws.length).map fun j => (g j).getD 0)
  | [], _, _, _ => rfl
  | w :: ws, g, h1, h2 => by
    obtain ⟨i, hi⟩ := h2 0 (by simp)
    have e0 : numW w = some i := (h1 0 w rfl).symm.trans hi
    have ih := mapM_all (ws := ws) (g := fun j => g (j + 1)) (fun j v hv => h1 (j + 1) v hv) (fun j hj => h2 (j + 1) (by simpa using hj))
    rw [List.mapM_cons, e0, ih, List.length_cons, List.range_succ_eq_map, List.map_cons, List.map_map, hi]
    rfl
theorem mapM_none : ∀ {ws : List Str}, (∃ w ∈ ws, numW w = none) → ws.mapM numW = none
  | [], ⟨w, h, _⟩ => nomatch h
  | v :: ws, ⟨w, h, hw⟩ => by
    rw [List.mapM_cons]
    rcases List.mem_cons.mp h with h | h
    · rw [← h, hw]; rfl
    · rw [mapM_none ⟨w, h, hw⟩]
      cases numW v <;> rfl
theorem rowW_near {l : Str} {n : Nat} {ns : List Int} (h : rowW l n = some ns) : ns.length = n ∧ Near ns := by
  unfold rowW at h
  split at h
  · cases h
  · split at h
    · rename_i hc
      have := mapM_len h
      refine ⟨this.1.trans hc.2, fun i hi => ?_⟩
      have := this.2 i hi
      omega
    · cases h
/-- what a text says: the number of the first line that cannot stand there, or letters and nothings -/
def readG (n : Nat) : List (List Int) → Nat → List Str → Nat ⊕ (Nat × List (List Int))
  | acc, _, [] => .inr (n, acc)
  | acc, k, l :: ls => match rowW l n with
    | none => .inl k
    | some ns => if acc.length = 16 then .inl k else readG n (acc ++ [ns]) (k + 1) ls
def readT (x : Str) : Nat ⊕ (Nat × List (List Int)) :=
  match Txt.split x ("\n" : Str) with
  | [] => .inl 0
  | l :: ls => match lettersW l with
    | none => .inl 0
    | some n => readG n [] 1 ls
theorem readG_ok {n : Nat} : ∀ {ls : List Str} {acc : List (List Int)} {k m : Nat} {nss : List (List Int)}, readG n acc k ls = .inr (m, nss) → acc.length ≤ 16 → (∀ ns ∈ acc, ns.length = n ∧ Near ns) → m = n ∧ nss.length ≤ 16 ∧ ∀ ns ∈ nss, ns.length = n ∧ Near ns
  | [], acc, k, m, nss, h, h16, hn => by
    cases h
    exact ⟨rfl, h16, hn⟩
  | l :: ls, acc, k, m, nss, h, h16, hn => by
    unfold readG at h
    split at h
    · cases h
    · rename_i ns hr
      split at h
      · cases h
      · refine readG_ok h (by rw [List.length_append]; simp; omega) fun z hz => ?_
        rcases List.mem_append.mp hz with hz | hz
        · exact hn z hz
        · rw [List.mem_singleton.mp hz]; exact rowW_near hr
end Sr
/-! # EX -/
namespace Sr
open PySem PySem.Spec PyProof.Rows L2
open Evl (Ex)
/-! ### a caught error that has a dict -/
def rIsXd (K : PySem.W.Frag) : List V → Hp → VK → Prop := fun xs H Q =>
  ∃ a D dd fs c cv b, xs = [.ref a, c] ∧ H a = some (ExK (.ref D) (some dd) a) ∧ H dd = some (.xd fs) ∧ ExcC K D ∧ ClsV c cv ∧ PySem.W.kitOne K (.ref D) cv = some b ∧ Q (.bl b) H
theorem call_isXd {X : Cx} : CallR X (.builtin "isinstance") (rIsXd X.K) := by
  intro pins s σ H xs us Q I r h
  obtain ⟨a, D, dd, fs, c, cv, b, rfl, ha, hdd, C, hc, hk, q⟩ := h
  match us, r with
  | [ua, uc], .cons ra (.cons rc .nil) =>
    cases ra
    have e := hc.eq rc
    subst e
    obtain ⟨⟨oe, vs, hg, hz, hd⟩, _⟩ := I.hok a _ ha
    have hx : ObjOk X.prog X.w H s.heap dd (.xd fs) := I.hok dd _ hdd
    obtain ⟨mA, hns, hr⟩ := hx
    obtain ⟨od, ho, hl⟩ := lookIn_ns hns
    have at_ : PySem.W.InstAt s.heap a oe D (some od) := ⟨hg, hz.1, by unfold PySem.W.notCls; rw [hd] <;> rfl, by rw [hz.2]; exact ho⟩
    have kx : PySem.W.KitX X.K (.ref a) (.ref D) (fun h => PySem.W.InstAt h a oe D (some od)) := PySem.W.kitx_exc (gt := none) (by obtain ⟨cd, hc, _⟩ := PySem.W.any_some C.hd; rw [hc]; rfl) C.hg C.hk C.hs C.ha C.hn C.ht C.hm
    refine PySem.W.kia_one kx I.kIn at_ hk (fun z => nomatch z) fun tk => ?_
    exact ⟨.bl b, H, I.kept (t' := tk) fun _ _ z => z, rfl, q⟩
def tXk (K : PySem.W.Frag) (n : Str) (te : TE) : TE := fun σ H Q => te σ H fun x H1 => ∃ (a D dd : Addr) (fs : List (Str × V)) (v : V), x = .ref a ∧ H1 a = some (ExK (.ref D) (some dd) a) ∧ XfC K D ∧ PySem.W.findIn K (.ref D) n = some none ∧ H1 dd = some (.xd fs) ∧ fs.lookup n = some v ∧ Q v H1
theorem pe_xk {X : Cx} {e : Expr} {te : TE} {pos : Pos} {n : Str} (he : PE X e te) (hb : attributeBase e n X.env (eval e X.env) = eval e X.env := by rfl) : PE X (.Attribute e n pos) (tXk X.K n te) := by
  refine ⟨fun pins s σ H Q I h => ?_⟩
  refine attr_of hb (thn (he.run pins s σ H _ I h) fun u s1 hh => ?_)
  obtain ⟨x, H1, I1, rx, a, D, dd, fs, v, rfl, ha, T, hno, ea, l, q⟩ := hh
  obtain rfl : u = Value.ref a := rx
  obtain ⟨⟨oe, vs, hg, hz, hd⟩, _⟩ := I1.hok a _ ha
  have hx : ObjOk X.prog X.w H1 s1.heap dd (.xd fs) := I1.hok dd _ ea
  obtain ⟨mA, hns, hr⟩ := hx
  obtain ⟨od, ho, hl⟩ := lookIn_ns hns
  obtain ⟨u, hu, ru⟩ := RelO.some_of (v := v) (o := mA n) (by rw [← l]; exact hr n)
  have J : PySem.W.InstAt s1.heap a oe D (some od) := ⟨hg, hz.1, by unfold PySem.W.notCls; rw [hd] <;> rfl, by rw [hz.2]; exact ho⟩
  exact HandSPX.exc_get I1.kIn J T.ga T.gg T.exC (PySem.W.findObj_own T.hdC hno rfl (by rw [hl, hu])) (handed_of ru) ⟨v, H1, I1.tok _, ru, q⟩
/-- an error with one field -/
structure XdC (P : Program) (w : World) (K : PySem.W.Frag) (mg : Str → Option Value) (base : Heap) (x fld : Str) (C : Addr) : Prop where
  g : mg x = some (.ref C)
  oex : OexC K C
  ini : ∃ fI fd, PySem.W.findIn K (.ref C) "__init__" = some (some (.ref fI)) ∧ PySem.W.typeIn K (.ref fI) = some (.type "function") ∧ FnOk P w K mg base CX0 1 fI fd ["self", fld] (spExI C fld) ∧ Binds K fd ["self", fld] []
  xf : XfC K C
  fl : PySem.W.findIn K (.ref C) fld = some none
theorem pmk_xd {X : Cx} {x fld : Str} {C : Addr} {e : Expr} {es : List Expr} {ta : TA} {p pos : Pos} (T : XdC X.prog X.w X.K X.mg X.base x fld C)
    (hr : Room 2 X.A) (hx : Passes CX0 X (fun _ _ _ => False)) (hg : Gl X x) (ha : PA X (e :: es) ta)
    (hdb : (x == ("__debug__" : Str)) = false := by decide) (he : starEach (e :: es) X.env = (false, eval e X.env) :: starEach es X.env := by rfl) (hpl : (backTo pos (starEach es X.env)).any (·.1) = false := by rfl) :
    PMk X (.Call (.Name x p) (e :: es) [] pos) (tMkO C (spExI C fld) [] ta) := by
  obtain ⟨fI, fd, h1, h2, h3, h4⟩ := T.ini
  exact pmk_oex T.oex h1 h2 h3 hr h4 .nil hx hg T.g ha hdb he hpl
theorem mkO_line {C : Addr} {fld : Str} {v : V} {H1 : Hp} {Q : XK} (k : ∀ d, H1 d = none → Q (.ref C) (some d) (upd H1 d (.xd [(fld, v)]))) :
    [v].length ≤ 1000 ∧ ∀ a, H1 a = none → spExI C fld (.ref a :: ([v] ++ [])) (upd H1 a (exo a C none)) (fun u H2 => u = .non ∧ ∃ (d : Addr) (fs : List (Str × V)), H2 a = some (exo a C (some d)) ∧ H2 d = some (exd d fs) ∧ H1 d = none ∧ Q (.ref C) (some d) (upd (L2.del H2 a) d (.xd fs))) (fun _ _ _ => False) := by
  refine ⟨by simp, fun a ha => ⟨a, v, rfl, upd_same, fun d hd hne => ⟨rfl, d, [(fld, v)], upd_same, ?_, ?_, ?_⟩⟩⟩
  · rw [upd_ne hne, upd_same]
  · rwa [upd_ne hne] at hd
  · have hd1 : H1 d = none := by rwa [upd_ne hne] at hd
    have e : upd (L2.del (upd (upd (upd H1 a (exo a C none)) d (exd d [(fld, v)])) a (exo a C (some d))) a) d (.xd [(fld, v)]) = upd H1 d (.xd [(fld, v)]) := by
      funext b
      by_cases h1 : b = d
      · rw [h1, upd_same, upd_same]
      · rw [upd_ne h1, upd_ne h1]
        by_cases h2 : b = a
        · rw [h2, del_same, ha]
        · rw [del_ne h2, upd_ne h2, upd_ne h1, upd_ne h2]
    rw [e]
    exact k d hd1
/-! ### a list drawn from the signs of a text -/
theorem lc_str {x : Str} {g : TG} {tt : TT} {te : TE} {vs : List Nat} {σ : L2.St} {H1 : Hp} {D : Addr} {Qd : Hp → Prop} (Pv : Nat → Hp → Prop) (h0 : Pv 0 (upd H1 D (.lst [])))
    (hs : ∀ (i : Nat) (c : Nat) H, x.cps[i]? = some c → Pv i H → g (.str ⟨#[c]⟩) (wipe σ vs) H fun σ2 H2 => wipe σ2 vs = wipe σ vs ∧ tt σ2 H2 fun b H3 =>
      if b = true then te σ2 H3 fun y H4 => ∃ acc, H4 D = some (.lst acc) ∧ acc.length < sizeLine ∧ Pv (i + 1) (upd H4 D (.lst (acc ++ [y]))) else Pv (i + 1) H3) (hd : ∀ H, Pv x.cps.size H → Qd H) :
    ∃ W : Nat → Nat → Hp → Prop, (∃ m, W 0 m (upd H1 D (.lst []))) ∧ ∀ i m H, W i m H →
      ((Its x).stop i H ∧ Qd H) ∨ ((Its x).go i H ∧ ∃ Nx : Hp → Prop, (∀ H', Nx H' → ∃ m', m' < m ∧ W (i + 1) m' H') ∧ ∀ y H', (Its x).yld i H y H' → g y (wipe σ vs) H' fun σ2 H2 => wipe σ2 vs = wipe σ vs ∧ tt σ2 H2 fun b H3 =>
        if b = true then te σ2 H3 fun y H4 => ∃ acc, H4 D = some (.lst acc) ∧ acc.length < sizeLine ∧ Nx (upd H4 D (.lst (acc ++ [y]))) else Nx H3) := by
  refine ⟨fun i m H => m = x.cps.size - i ∧ i ≤ x.cps.size ∧ Pv i H, ⟨x.cps.size, by simp, Nat.zero_le _, h0⟩, ?_⟩
  rintro i m H ⟨rfl, hi, p⟩
  by_cases hlt : i < x.cps.size
  · refine .inr ⟨hlt, Pv (i + 1), fun H' p' => ⟨x.cps.size - (i + 1), by omega, rfl, hlt, p'⟩, fun y H' z => ?_⟩
    obtain ⟨e, c, hc, e2⟩ := z
    subst e e2
    exact hs i c _ hc p
  · have e : i = x.cps.size := by omega
    subst e
    exact .inl ⟨Nat.le_refl _, hd _ p⟩
/-- the signs that pass, as a new list of texts -/
theorem lcSD {σ : L2.St} {H : Hp} {j : Nat} {vs : List Nat} {Dl : Addr} {Qd : Hp → Prop} {tt : TT} {te : TE} {x : Str} (c : Nat → Bool) (hD : H Dl = none) (hn : x.length ≤ 40000) (hw : ∀ y, wipe ((wipe σ vs).set j (some y)) vs = wipe σ vs)
    (ht : ∀ (n : Nat) H1, Ex H H1 → ∀ Q : Bool → Hp → Prop, Q (c n) H1 → tt ((wipe σ vs).set j (some (.str ⟨#[n]⟩))) H1 Q)
    (he : ∀ (n : Nat) H1, Ex H H1 → ∀ Q : VK, Q (.str ⟨#[n]⟩) H1 → te ((wipe σ vs).set j (some (.str ⟨#[n]⟩))) H1 Q)
    (q : ∀ H2, Ex H H2 → H2 Dl = some (.lst (((TL.tl x).filter c).map fun n => V.str ⟨#[n]⟩)) → Qd H2) :
    ∃ W : Nat → Nat → Hp → Prop, (∃ m, W 0 m (upd H Dl (.lst []))) ∧ ∀ i m H', W i m H' →
      ((Its x).stop i H' ∧ Qd H') ∨ ((Its x).go i H' ∧ ∃ Nx : Hp → Prop, (∀ H'', Nx H'' → ∃ m', m' < m ∧ W (i + 1) m' H'') ∧ ∀ y H'', (Its x).yld i H' y H'' → gName j y (wipe σ vs) H'' fun σ2 H2 => wipe σ2 vs = wipe σ vs ∧ tt σ2 H2 fun b H3 =>
        if b = true then te σ2 H3 fun y H4 => ∃ acc, H4 Dl = some (.lst acc) ∧ acc.length < sizeLine ∧ Nx (upd H4 Dl (.lst (acc ++ [y]))) else Nx H3) := by
  have hsz : x.cps.size = (TL.tl x).length := by simp [TL.tl]
  refine lc_str (fun i H' => Ex H H' ∧ H' Dl = some (.lst ((((TL.tl x).take i).filter c).map fun n => V.str ⟨#[n]⟩))) ⟨Evl.Ex.new hD, upd_same⟩ (fun i n H' hi ⟨e, h⟩ => ?_) (fun H' ⟨e, h⟩ => q H' e (by rw [h, hsz, List.take_length]))
  have hi2 : (TL.tl x)[i]? = some n := by rw [← hi]; simp [TL.tl]
  refine ⟨hw _, ht n H' e _ ?_⟩
  have es : ((TL.tl x).take (i + 1)).filter c = ((TL.tl x).take i).filter c ++ if c n = true then [n] else [] := by
    rw [List.take_succ, hi2, List.filter_append]
    congr 1
    show [n].filter c = _
    by_cases hc : c n = true
    · rw [if_pos hc, List.filter_cons, if_pos hc]; rfl
    · rw [if_neg hc, List.filter_cons, if_neg hc]; rfl
  by_cases hc : c n = true
  · rw [if_pos hc]
    refine he n H' e _ ⟨_, h, Evl.sz_lt (by rw [List.length_map]; have h1 := List.length_filter_le c ((TL.tl x).take i); have h2 := List.length_take_le i (TL.tl x); have h3 : i < (TL.tl x).length := (List.getElem?_eq_some_iff.mp hi2).1; have h4 := TL.len_tl x; rw [List.length_take] at h1; omega), Evl.Ex.mut e hD, ?_⟩
    rw [upd_same, es, if_pos hc, List.map_append]
    rfl
  · rw [if_neg hc]
    refine ⟨e, ?_⟩
    rw [es, if_neg hc, List.append_nil]
    exact h
end Sr
/-! # E1 -/
namespace Sr
open PySem PySem.Spec PyProof.Rows L2
/-! ### enumerate(list, start=k) -/
theorem callWith_type_kwB {M : Model} {A : Around} {E : Value → Shared → Prop} {s : Shared} {pos : Pos} {T : String} {first : List Value} {args : List (Bool × Sem Value)} {keywords : List (Option Str × Sem Value)} {Q : Value → Shared → Prop}
    (hplain : args.any (·.1) = false) (hkw : keywords.any (·.1.isNone) = false)
    (h : wpAny M A (evalArgs (.type T) true args keywords) (fun a s₁ => wpAny M A (call (.type T) (first ++ a.pos) a.kw) Q E s₁) E s) :
    wpAny M A (callWith pos (.type T) first args keywords) Q E s := by
  unfold callWith
  refine wpAny_bind (wpAny_holding (wpAny_mono h (fun a s₁ h₁ => wpAny_bind (wpAny_standAt ?_)) fun _ _ x => x))
  simp only [hplain, hkw, Bool.or_false]
  refine wpAny_bind (wpAny_pure ?_)
  exact wpAny_bind (wpAny_mono h₁ (fun r s₂ hr => wpAny_bind (wpAny_holding (wpAny_point (wpAny_pure hr)))) fun _ _ x => x)
theorem callWith_type_kw {M : Model} {A : Around} {E : Value → Shared → Prop} {s : Shared} {env : Env} {pos : Pos} {T : String} {e : Expr} {rest : List Expr} {kws : List Keyword} {Q : Value → Shared → Prop}
    (h : wpAny M A (spliced (backTo pos (starEach (e :: rest) env))) (fun vs s₁ => wpAny M A (evalAll ((backToKw pos (keywordEach kws env)).map (·.2)))
      (fun kvs s₂ => wpAny M A (call (.type T) vs (((backToKw pos (keywordEach kws env)).filterMap (·.1)).zip kvs)) Q E s₂) E s₁) E s)
    (he : backTo pos (starEach (e :: rest) env) = (false, eval e env) :: backTo pos (starEach rest env) := by rfl)
    (hplain : (backTo pos (starEach (e :: rest) env)).any (·.1) = false := by rfl)
    (hall : (backToKw pos (keywordEach kws env)).all (·.1.isSome) = true := by rfl)
    (hkw : (backToKw pos (keywordEach kws env)).any (·.1.isNone) = false := by rfl) :
    wpAny M A (callWith pos (.type T) [] (backTo pos (starEach (e :: rest) env)) (backToKw pos (keywordEach kws env))) Q E s := by
  refine callWith_type_kwB hplain hkw ?_
  rw [he] at h ⊢
  exact evalArgs_kwB hall h
theorem wpAny_pyNext_enum_endI {prog : Program} {w : World} {A : Around} {E : Value → Shared → Prop} {s : Shared} {e it l : Addr} {i : Nat} {c : Int} {items : Array Value} {old : Value} {Q : Option Value → Shared → Prop} (hh : A.handled = none)
    (he : IsEnum s.heap e it c old) (hit : s.heap.IsListIter it l i) (hl : s.heap.IsList l items) (hx : items.size ≤ i)
    (hQ : ∀ h', Heap.ExtBut it s.heap h' → Q none { s with heap := h' }) : wpAny (model prog w) A (pyNext (.ref e)) Q E s := by
  have hT : s.TypeIs (.ref e) "enumerate" := ⟨_, he, rfl⟩
  unfold pyNext
  refine wpAny_bind (wpAny_attempt (wpAny_callSpecial?_slot (name := Str.ofString "__next__") hT F.slot_enumerate_next
    (wpAny_call_entry F.slot_enumerate_next hT F.entry_enumerate_next ?_ (F.args_enumerate_next_1 _))))
  show wpAny _ _ (field (.ref e) 2 >>= _) _ _ _
  refine wpAny_bind (wpAny_field he rfl (x := .ref it) rfl ?_)
  refine wpAny_bind (wpAny_nextOf_list_end hh hit hl (Array.getElem?_eq_none hx) fun h' x he' hx' => ?_)
  obtain ⟨o, ho, hc⟩ := hx'
  refine wpAny_bind (wpAny_isInstance (T := "StopIteration") (b := true) ⟨o, ho, hc⟩ isSubtype_stop ?_)
  exact wpAny_pure (hQ _ he')
/-- the list at a as it stands at each turn, each item in a new pair, numbered from k -/
def Ite1 (K : PySem.W.Frag) (k : Int) (a : Addr) : It :=
  ⟨fun i H => ∃ (xs : List V) (x : V), SqL K H a xs ∧ xs[i]? = some x, fun i H v H' => ∃ T x, v = .ref T ∧ H T = none ∧ H' = upd H T (.tup [.int (k + (i : Nat)), x]) ∧ ∀ xs, SqL K H a xs → xs[i]? = some x, fun i H => ∃ xs : List V, SqL K H a xs ∧ xs.length ≤ i⟩
theorem turn_enum1 {P : Program} {w : World} {K : PySem.W.Frag} {elts : List Expr} {kk : Nat} {tpos : Pos} (k : Int) (a e it : Addr) :
    Turn P w K (.Tuple elts kk tpos) (Ite1 K k a) [e, it] e (fun i h => (∃ old, IsEnum h e it (k + ((i : Nat) : Int)) old) ∧ h.IsListIter it a i ∧ e ≠ it) where
  mem := by simp
  obj := fun i h st b hb => by
    obtain ⟨⟨old, he⟩, ⟨o, ho, hc, hd⟩, _⟩ := st
    have e' : b = e ∨ b = it := by simpa using hb
    rcases e' with z | z
    · rw [z]; exact ⟨_, he, fun v q => nomatch q⟩
    · rw [z]; exact ⟨o, ho, fun v q => by rw [hd] at q; cases q⟩
  keep := fun i h h' st k => let ⟨⟨old, he⟩, hi, hne⟩ := st; ⟨⟨old, k e (by simp) _ he⟩, hi.at fun o q => k it (by simp) o q, hne⟩
  item := by
    intro X hP hw hK hc i pins s σ H E I hf st hg
    subst hP hw hK
    obtain ⟨⟨old, he⟩, hit, hne⟩ := st
    obtain ⟨xs, x, hq, hx⟩ := hg
    obtain ⟨its, rv, p, hz⟩ := I.list hq
    obtain ⟨u, hu, ru⟩ := rv.get hx
    have hel : e < s.heap.objs.size := Heap.lt_size he
    have hil : it < s.heap.objs.size := by obtain ⟨_, q, _⟩ := hit; exact Heap.lt_size q
    have hla := p.isList
    have ait : a ≠ it := fun z => by
      obtain ⟨o1, q1, c1, _⟩ := hit
      obtain ⟨o2, q2, c2, _⟩ := hla
      rw [z, q1] at q2
      cases q2
      rw [c1] at c2
      exact absurd (Value.type.inj c2) (by decide)
    have ae : e ≠ a := fun z => by
      obtain ⟨o2, q2, c2, _⟩ := hla
      rw [← z, he] at q2
      cases q2
      exact absurd (Value.type.inj c2) (by decide)
    have hlt : i < its.toArray.size := by
      have := (List.getElem?_eq_some_iff.mp hu).1
      simpa using this
    refine wpAny_pyNext_enum_itemC (Draws.list (prog := X.prog) (w := X.w) (A := X.A.in1) (I.ok.hd hc) it a ait its.toArray) he ⟨hit, hla⟩ hlt hne (by simp; exact ⟨hne, ae⟩) fun u' h' tk hPu ho hit2 hT hsz hk => ?_
    have hit' := hit2.1
    have hPu : its.toArray[i]? = some u' := hPu
    have : u' = u := by
      rw [show its.toArray[i]? = its[i]? by simp, hu] at hPu
      exact (Option.some.inj hPu).symm
    subst this
    refine ⟨_, rfl, wpAny_letOwnedTupleGo_enum (s := { s with heap := h', toks := tk + 1 }) ho fun h'' he' sb => ?_⟩
    have hT2 : h''.get? s.heap.objs.size = some { cls := .type "tuple", data := .seq #[.int (k + i) tk, u'] } := (sb.2 _ (Nat.ne_of_gt hel)).trans hT
    have new : ObjOk X.prog X.w (upd H s.heap.objs.size (.tup [.int (k + (i : Nat)), x])) h'' s.heap.objs.size (.tup [.int (k + (i : Nat)), x]) :=
      ⟨by show 2 ≤ sizeLine; decide, [.int (k + i) tk, u'], .cons ⟨_, rfl⟩ (.cons ru .nil), ⟨_, hT2, rfl, _, rfl⟩⟩
    have I1 : Inv X pins σ (upd H s.heap.objs.size (.tup [.int (k + (i : Nat)), x])) { s with heap := h'', toks := tk + 1 } :=
      I.turnedNew (ch := [e, it]) (fun b ob hb q => (sb.2 b (fun z => hb (by simp [z]))).trans (hk b ob (fun z => hb (by simp [z])) (fun z => hb (by simp [z])) q)) hf (Nat.le_refl _) new
    refine ⟨.ref s.heap.objs.size, _, I1, rfl, ⟨_, x, rfl, I.hok.fresh (Nat.le_refl _), rfl, fun ys hy => by rw [I.list_inj hy hq]; exact hx⟩, ⟨⟨u', ?_⟩, hit'.at fun o q => (sb.2 it (Ne.symm hne)).trans q, hne⟩, fun b hb => ?_⟩
    · have e1 : k + ((i + 1 : Nat) : Int) = k + (i : Int) + 1 := by omega
      rw [e1]; exact he'
    · have hb' : b < s.heap.objs.size := by
        have e' : b = e ∨ b = it := by simpa using hb
        rcases e' with z | z
        · rw [z]; exact hel
        · rw [z]; exact hil
      rw [upd_ne (Nat.ne_of_lt hb')]
      exact (hf b hb).1
  done := by
    intro X hP hw hK hc i pins s σ H E I hf st hg
    subst hP hw hK
    obtain ⟨⟨old, he⟩, hit, hne⟩ := st
    obtain ⟨xs, hq, hx⟩ := hg
    obtain ⟨its, rv, p, hz⟩ := I.list hq
    obtain ⟨f0, f1, f2, f3, f4, f5⟩ := hf it (by simp)
    have hl := rv.length
    have hla := p.isList
    have ait : a ≠ it := fun z => by
      obtain ⟨o1, q1, c1, _⟩ := hit
      obtain ⟨o2, q2, c2, _⟩ := hla
      rw [z, q1] at q2
      cases q2
      rw [c1] at c2
      exact absurd (Value.type.inj c2) (by decide)
    have hsz2 : its.toArray.size ≤ i := by simp; omega
    refine wpAny_pyNext_enum_endI (I.ok.hd hc) he hit hla hsz2 fun h' eb => ⟨rfl, I.turned (t' := s.toks) (fun b o hb q => eb b o hb q) f0 f1 f3 f4 f5⟩
  self := fun A i s Q E st h => let ⟨⟨_, he⟩, _⟩ := st; wpAny_pyIter_enum he h
def iEnum1 (K : PySem.W.Frag) (k : Int) (ta : TA) : TI := fun σ H R => ta σ H fun vs H1 => ∃ a xs, vs = [.ref a] ∧ SqL K H1 a xs ∧ R (Ite1 K k a) H1
theorem pi_enum1 {X : Cx} {e ve : Expr} {k : Int} {ta : TA} {p pos tpos kp : Pos} {elts : List Expr} {kk : Nat} (hk0 : -(2 ^ 63) ≤ k) (hk1 : k < 2 ^ 63) (hg : Gl X "enumerate") (hm : X.mg "enumerate" = none) (ha : PA X [e] ta) (hv : PE X ve (tC (.int k)))
    (he : backTo pos (starEach [e] X.env) = (false, eval e X.env) :: backTo pos (starEach [] X.env) := by rfl)
    (hplain : (backTo pos (starEach [e] X.env)).any (·.1) = false := by rfl)
    (hall : (backToKw pos (keywordEach [⟨some "start", ve, kp⟩] X.env)).all (·.1.isSome) = true := by rfl)
    (hkw : (backToKw pos (keywordEach [⟨some "start", ve, kp⟩] X.env)).any (·.1.isNone) = false := by rfl) :
    PI X (.Tuple elts kk tpos) (.Call (.Name "enumerate" p) [e] [⟨some "start", ve, kp⟩] pos) (iEnum1 X.K k ta) := by
  refine ⟨fun pins s σ H R I h => ?_⟩
  refine wpAny_Call_Name_kw (ld_blt I hg hm boot_enumerate (callWith_type_kw (thn (ha.run pos pins s σ H _ I h) fun us s1 ⟨vs, H1, I1, r1, q1⟩ => ?_) he hplain hall hkw))
  refine kws_cons (thn (hv.run pins s1 σ H1 (fun v H2 => v = .int k ∧ H2 = H1) I1 ⟨rfl, rfl⟩) fun kv s2 ⟨kx, H2, I2, r2, e1, e2⟩ => kws_nil ?_)
  subst e1 e2
  obtain ⟨t, rfl⟩ := r2
  obtain ⟨a, xs, ex, hq, q⟩ := q1
  subst ex
  cases r1 with
  | cons r rr =>
    cases rr
    cases r
    obtain ⟨its, rv, p', hz⟩ := I2.list hq
    refine enum_begins_start (begins_list a its.toArray) p'.isList hk0 hk1 fun h' he hit hsz hk => wpAny_pyIter_enum he ?_
    have I3 : Inv X pins σ H2 { s2 with heap := h' } := I2.kept (t' := s2.toks) hk
    refine ⟨s2.heap.objs.size + 1, [s2.heap.objs.size + 1, s2.heap.objs.size], _, _, H2, rfl, I3, turn_enum1 k a (s2.heap.objs.size + 1) s2.heap.objs.size, ⟨⟨.none, by rw [show k + ((0 : Nat) : Int) = k by omega]; exact he⟩, ⟨_, hit, rfl, rfl⟩, Nat.succ_ne_self _⟩, fun b hb => ?_, q⟩
    have e' : b = s2.heap.objs.size + 1 ∨ b = s2.heap.objs.size := by simpa using hb
    have hle : s2.heap.objs.size ≤ b := by
      rcases e' with z | z
      · rw [z]; exact Nat.le_add_right _ _
      · rw [z]; exact Nat.le_refl _
    exact I2.fpOk hle (I2.hok.fresh hle)
theorem for_enum1 {K : PySem.W.Frag} {k : Int} {a : Addr} {xs : List V} {g : TG} {tb : TS} {D : Ends} {σ : L2.St} {H : Hp} (Pv : Nat → L2.St → Hp → Prop) (h0 : Pv 0 σ H) (hl : ∀ i σ H, i ≤ xs.length → Pv i σ H → SqL K H a xs)
    (hs : ∀ i x σ H T, xs[i]? = some x → Pv i σ H → H T = none → g (.ref T) σ (upd H T (.tup [.int (k + (i : Nat)), x])) fun σ2 H2 => tb { D with nx := Pv (i + 1), ct := Pv (i + 1), bk := D.nx } σ2 H2) (hd : ∀ σ H, Pv xs.length σ H → D.nx σ H) :
    ∃ W : Nat → Nat → L2.St → Hp → Prop, (∃ m, W 0 m σ H) ∧ ∀ i m σ H, W i m σ H →
      ((Ite1 K k a).stop i H ∧ D.nx σ H) ∨ ((Ite1 K k a).go i H ∧ ∃ N : L2.St → Hp → Prop, (∀ σ' H', N σ' H' → ∃ m', m' < m ∧ W (i + 1) m' σ' H') ∧ ∀ x H', (Ite1 K k a).yld i H x H' → g x σ H' fun σ2 H2 => tb { D with nx := N, ct := N, bk := D.nx } σ2 H2) := by
  refine ⟨fun i m σ H => m = xs.length - i ∧ i ≤ xs.length ∧ Pv i σ H, ⟨_, rfl, Nat.zero_le _, h0⟩, ?_⟩
  rintro i m σ H ⟨rfl, hi, p⟩
  have q := hl i σ H hi p
  by_cases hlt : i < xs.length
  · refine Or.inr ⟨⟨xs, xs[i], q, List.getElem?_eq_getElem hlt⟩, Pv (i + 1), fun σ' H' p' => ⟨_, by omega, rfl, hlt, p'⟩, ?_⟩
    rintro v H' ⟨T, x, rfl, hT, rfl, h1⟩
    exact hs i x σ H T (h1 xs q) p hT
  · have e : i = xs.length := by omega
    subst e
    exact Or.inl ⟨⟨xs, q, Nat.le_refl _⟩, hd σ H p⟩
end Sr
/-! # P1 -/
namespace Sr
open PySem PySem.Spec PyProof.Rows L2
open Evl (Ex)
/-! ### great ints: // by any divisor but nought, * while both are of together less than 2^27 bits -/
/-- what // of great ints asks of the place: no one looks on, a def's own frame, room -/
structure Big (X : Cx) : Prop where
  seer : X.base.NoSeer
  tree : X.prog.given.tree = none
  top : X.stack = X.env :: X.outer
  gen : X.env.scope.isGenerator = false
  co : X.env.scope.isCoroutine = false
  room : X.A.depth + 101 < recursionLimit
theorem big_of {X : Cx} {k : Nat} (hr : Room k X.A) (hk : 32 ≤ k) (hN : X.base.NoSeer) (hT : X.prog.given.tree = none) (ht : X.stack = X.env :: X.outer := by rfl)
    (hg : X.env.scope.isGenerator = false := by rfl) (hc : X.env.scope.isCoroutine = false := by rfl) : Big X :=
  ⟨hN, hT, ht, hg, hc, by have := hr.dp; omega⟩
theorem op_fdivZ {X : Cx} (B : Big X) : OpR X (binaryOp .FloorDiv) (rI (fun _ j => j ≠ 0) fun i j => .int (i.fdiv j)) := by
  intro pins s σ H x y v u Q I rx ry h
  obtain ⟨i, j, rfl, rfl, hj, q⟩ := h
  obtain ⟨t, rfl⟩ := rx
  obtain ⟨t', rfl⟩ := ry
  have fr : X.A.frames = some (X.env :: X.outer) := I.ok.frames.trans (congrArg some B.top)
  have seer : SeerAt (model X.prog X.w) X.A s.heap := SeerAt.of (B.seer.keeps I.bk) B.tree fr B.gen B.co I.ok.blt I.ok.glob
  have room : PylongRoom (model X.prog X.w) X.A s := PylongRoom.of I.nolimit (by have := B.room; show X.A.depth + 100 < _; omega) seer
  exact floordiv_int hj ⟨.int (i.fdiv j), H, I.tok _, ⟨_, rfl⟩, q⟩ (.inr room)
theorem op_mulZ {X : Cx} : OpR X (binaryOp .Mult) (rI IntMulOk fun i j => .int (i * j)) := opI fun _ _ _ _ _ _ _ hc q => mul_int q hc
theorem mulOk_of {i j : Int} {a b : Nat} (ha : i.natAbs < 2 ^ a) (hb : j.natAbs < 2 ^ b) (h0 : 0 < a) (h1 : 0 < b) (h : a + b ≤ 134217728) : IntMulOk i j := by
  have bits : ∀ (x : Int) (n : Nat), 0 < n → x.natAbs < 2 ^ n → Builtin.Int.intBits x ≤ n := fun x n hn hx => by
    have z := PySem.Flt.log2_lt_of hn hx
    unfold Builtin.Int.intBits
    split <;> omega
  have h2 := bits i a h0 ha
  have h3 := bits j b h1 hb
  have e : bitsLine = 134217728 := by decide
  unfold IntMulOk
  intro z
  rw [Bool.and_eq_true] at z
  have z2 := z.2
  unfold Builtin.Int.intTooBig at z2
  have z3 := of_decide_eq_true z2
  rw [e] at z3
  omega
end Sr
/-! # P2 -/
namespace Sr
open PySem PySem.Spec PyProof.Rows L2
open Evl (Ex Ev EvL EvU EvT EvA)
/-- a comprehension's values so far, each known -/
def Cwf (H : Hp) (f : Nat → V) (Dl : Addr) (i : Nat) (H' : Hp) : Prop := H Dl = none ∧ Ex H H' ∧ H' Dl = some (.lst ((List.range i).map f))
theorem cwf_turn {te : TE} {H H' : Hp} {f : Nat → V} {Dl : Addr} {i : Nat} {σ2 : L2.St} (p : Cwf H f Dl i H') (hi : i < 50000) (he : EvX te σ2 H (fun y _ => y = f i)) :
    tYes σ2 H' fun b H3 => if b = true then te σ2 H3 fun y H4 => ∃ acc, H4 Dl = some (.lst acc) ∧ acc.length < sizeLine ∧ Cwf H f Dl (i + 1) (upd H4 Dl (.lst (acc ++ [y]))) else Cwf H f Dl (i + 1) H3 := by
  obtain ⟨p1, p2, p3⟩ := p
  show te σ2 H' fun y H4 => _
  refine he H' p2 _ fun y H4 e4 gy => ⟨_, e4 Dl _ p3, Evl.sz_lt (by simp; omega), p1, Evl.Ex.mut (p2.trans e4) p1, ?_⟩
  rw [upd_same, gy, List.range_succ, List.map_append]
  rfl
/-- [.. for x, y in zip(xs, ys)], each value known -/
theorem lcZ {a b : Addr} {xs ys : List V} {ta : TA} {te : TE} {σ : L2.St} {H : Hp} {K : PySem.W.Frag} {j1 j2 : Nat} {vs : List Nat} (f : Nat → V) (h : EvA ta σ H [.ref a, .ref b]) (hx : SqL K H a xs) (hy : SqL K H b ys) (hz : xs.length ≤ 40000) (hl : xs.length = ys.length)
    (hw : ∀ x y, wipe (((wipe σ vs).set j1 (some x)).set j2 (some y)) vs = wipe σ vs)
    (he : ∀ (i : Nat) (x y : V) H1, Ex H H1 → xs[i]? = some x → ys[i]? = some y → EvX te (((wipe σ vs).set j1 (some x)).set j2 (some y)) H1 (fun z _ => z = f i)) :
    EvL (tLc (iZip K ta) (gTup K 2 (gCons (gName j1) (gCons (gName j2) gNil))) tYes te vs) σ H ((List.range xs.length).map f) := fun H0 e Q q => h H0 e _ fun H1 e1 => ⟨a, b, xs, ys, rfl, Evl.ex_l (e.trans e1) hx, Evl.ex_l (e.trans e1) hy, fun Dl hD => by
  refine ⟨fun i m H' => m = xs.length - i ∧ i ≤ xs.length ∧ Cwf H1 f Dl i H', ⟨xs.length, by simp, Nat.zero_le _, hD, Evl.Ex.new hD, upd_same⟩, ?_⟩
  rintro i m H' ⟨rfl, hi, p⟩
  have hx' : SqL K H' a xs := Evl.ex_l ((e.trans e1).trans p.2.1) hx
  have hy' : SqL K H' b ys := Evl.ex_l ((e.trans e1).trans p.2.1) hy
  by_cases hlt : i < xs.length
  · refine Or.inr ⟨?_, Cwf H1 f Dl (i + 1), fun H2 p2 => ⟨xs.length - (i + 1), by omega, rfl, by omega, p2⟩, ?_⟩
    · exact ⟨xs, ys, xs[i], ys[i], hx', hy', List.getElem?_eq_getElem hlt, List.getElem?_eq_getElem (by omega)⟩
    · rintro v H2 ⟨T, x, y, rfl, hT, rfl, h1, h2⟩
      have hx2 := h1 xs hx'
      have hy2 := h2 ys hy'
      have eT : Ex H' (upd H' T (.tup [x, y])) := Evl.Ex.new hT
      refine ⟨T, [x, y], rfl, Evl.st_of upd_same, rfl, _, _, rfl, _, _, rfl, rfl, hw _ _, ?_⟩
      exact cwf_turn ⟨p.1, p.2.1.trans eT, eT _ _ p.2.2⟩ (by omega) (he i x y H1 (e.trans e1) hx2 hy2)
  · refine Or.inl ⟨?_, ?_⟩
    · exact ⟨xs, ys, hx', hy', .inl (by omega)⟩
    · obtain ⟨p1, p2, p3⟩ := p
      have : i = xs.length := by omega
      subst this
      exact q Dl H' (Evl.fresh_back e1 p1) (e1.trans p2) p3⟩
/-- [.. for i in range(m)], each value known -/
theorem lcRf {ta : TA} {te : TE} {σ : L2.St} {H : Hp} {j : Nat} {vs : List Nat} {n : Int} {m : Nat} (f : Nat → V) (h : EvA ta σ H [.int n]) (hm : n = (m : Int)) (hn : m ≤ 40000) (hw : ∀ x, wipe ((wipe σ vs).set j (some x)) vs = wipe σ vs)
    (he : ∀ (i : Nat) H1, Ex H H1 → i < m → EvX te ((wipe σ vs).set j (some (.int (i : Int)))) H1 (fun y _ => y = f i)) :
    EvL (tLc (iRng1 ta) (gName j) tYes te vs) σ H ((List.range m).map f) := fun H0 e Q q => h H0 e _ fun H1 e1 => ⟨n, rfl, by omega, by omega, fun Dl hD => by
  have en : n.toNat = m := by omega
  rw [en]
  refine lc_range (lo := 0) (n := m) (Cwf H1 f Dl) ⟨hD, Evl.Ex.new hD, upd_same⟩ (fun i H' hi p => ?_) (fun H' ⟨p1, p2, p3⟩ => q Dl H' (Evl.fresh_back e1 p1) (e1.trans p2) p3)
  have e0 : (0 : Int) + (i : Int) = (i : Int) := Int.zero_add _
  rw [e0]
  exact ⟨hw _, cwf_turn p (by omega) (he i H1 (e.trans e1) hi)⟩⟩
/-- [.. for x in xs], each value known -/
theorem lcLf {a : Addr} {xs : List V} {tl te : TE} {σ : L2.St} {H : Hp} {K : PySem.W.Frag} {j : Nat} {vs : List Nat} (f : Nat → V) (h : Ev tl σ H (.ref a)) (hx : SqL K H a xs) (hz : xs.length ≤ 40000) (hw : ∀ x, wipe ((wipe σ vs).set j (some x)) vs = wipe σ vs)
    (he : ∀ (i : Nat) (x : V) H1, Ex H H1 → xs[i]? = some x → EvX te ((wipe σ vs).set j (some x)) H1 (fun y _ => y = f i)) :
    EvL (tLc (iList K tl) (gName j) tYes te vs) σ H ((List.range xs.length).map f) := fun H0 e Q q => h H0 e _ fun H1 e1 => ⟨a, rfl, ⟨xs, Evl.ex_l (e.trans e1) hx⟩, fun Dl hD =>
  lc_list (xs := xs) (Cwf H1 f Dl) ⟨hD, Evl.Ex.new hD, upd_same⟩ (fun i H' _ p => Evl.ex_l ((e.trans e1).trans p.2.1) hx) (fun i x H' hi p => ⟨hw x, cwf_turn p (by have := (List.getElem?_eq_some_iff.mp hi).1; omega) (he i x H1 (e.trans e1) hi)⟩)
    (fun H' ⟨p1, p2, p3⟩ => q Dl H' (Evl.fresh_back e1 p1) (e1.trans p2) p3)⟩
end Sr
/-! # P3 -/
namespace Sr
open PySem PySem.Spec PyProof.Rows L2
open Evl (Ex Ev EvL EvU EvT EvA)
/-- [a new list for i in range(m)]: new rows -/
theorem lcRowsR {ta : TA} {te : TE} {σ : L2.St} {H : Hp} {j : Nat} {vs : List Nat} {n : Int} (gs : List (List Int)) (h : EvA ta σ H [.int n]) (hm : n = (gs.length : Int)) (hn : gs.length ≤ 40000) (hw : ∀ x, wipe ((wipe σ vs).set j (some x)) vs = wipe σ vs)
    (he : ∀ (i : Nat) (ns : List Int) H1, Ex H H1 → gs[i]? = some ns → EvL te ((wipe σ vs).set j (some (.int (i : Int)))) H1 (ns.map V.int)) :
    EvX (tLc (iRng1 ta) (gName j) tYes te vs) σ H (fun v H2 => ∃ p qs, v = .ref p ∧ H p = none ∧ H2 p = some (.lst (qs.map V.ref)) ∧ RowsL H2 qs gs ∧ ∀ q ∈ qs, H q = none ∧ q ≠ p) := fun H0 e Q q => h H0 e _ fun H1 e1 => ⟨n, rfl, by omega, by omega, fun Dl hD => by
  have en : n.toNat = gs.length := by omega
  rw [en]
  refine lc_range (lo := 0) (n := gs.length) (Cwr H1 gs Dl) ⟨hD, Evl.Ex.new hD, [], upd_same, trivial, fun q hq => by cases hq⟩ (fun i H' hi p => ?_) (fun H' ⟨p1, p2, qs, p3, p4, p5⟩ => ?_)
  · have e0 : (0 : Int) + (i : Int) = (i : Int) := Int.zero_add _
    rw [e0]
    refine ⟨hw _, ?_⟩
    obtain ⟨p1, p2, qs, p3, p4, p5⟩ := p
    have hgi : gs[i]? = some gs[i] := List.getElem?_eq_getElem hi
    show te _ H' fun y H4 => _
    refine he i gs[i] H' ((e.trans e1).trans p2) hgi H' (Ex.refl H') _ fun r H4 hr e4 h4 => ?_
    have rD : r ≠ Dl := fun z => by
      rw [z, p3] at hr
      cases hr
    refine ⟨qs.map V.ref, e4 Dl _ p3, ?_, p1, Evl.Ex.mut (p2.trans e4) p1, qs ++ [r], ?_, ?_, ?_⟩
    · have := p4.len
      rw [List.length_map, this, List.length_take]
      exact Evl.sz_lt (by omega)
    · rw [upd_same, List.map_append]
      rfl
    · rw [List.take_succ, hgi]
      refine RowsL.app ?_ ((p4.ex e4).upd fun q hq => (p5 q hq).2)
      exact ⟨by rw [upd_ne rD]; exact h4, trivial⟩
    · intro q hq
      rcases List.mem_append.mp hq with hq | hq
      · exact p5 q hq
      · rw [List.mem_singleton.mp hq]
        exact ⟨Evl.fresh_back p2 hr, rD⟩
  · rw [List.take_of_length_le (by omega)] at p4
    exact q (.ref Dl) H' (e1.trans p2) ⟨Dl, qs, rfl, Evl.fresh_back e (Evl.fresh_back e1 p1), p3, p4, fun r hr => ⟨Evl.fresh_back e (Evl.fresh_back e1 (p5 r hr).1), (p5 r hr).2⟩⟩⟩
/-- for x, y in zip(xs, ys) -/
theorem for_zip {K : PySem.W.Frag} {a b : Addr} {xs ys : List V} {g : TG} {tb : TS} {D : Ends} {σ : L2.St} {H : Hp} (Pv : Nat → L2.St → Hp → Prop) (hxy : xs.length = ys.length) (h0 : Pv 0 σ H)
    (hl : ∀ i σ H, i ≤ xs.length → Pv i σ H → SqL K H a xs ∧ SqL K H b ys)
    (hs : ∀ i x y σ H T, xs[i]? = some x → ys[i]? = some y → Pv i σ H → H T = none → g (.ref T) σ (upd H T (.tup [x, y])) fun σ2 H2 => tb { D with nx := Pv (i + 1), ct := Pv (i + 1), bk := D.nx } σ2 H2)
    (hd : ∀ σ H, Pv xs.length σ H → D.nx σ H) :
    ∃ W : Nat → Nat → L2.St → Hp → Prop, (∃ m, W 0 m σ H) ∧ ∀ i m σ H, W i m σ H →
      ((Itz K a b).stop i H ∧ D.nx σ H) ∨ ((Itz K a b).go i H ∧ ∃ N : L2.St → Hp → Prop, (∀ σ' H', N σ' H' → ∃ m', m' < m ∧ W (i + 1) m' σ' H') ∧ ∀ x H', (Itz K a b).yld i H x H' → g x σ H' fun σ2 H2 => tb { D with nx := N, ct := N, bk := D.nx } σ2 H2) := by
  refine ⟨fun i m σ H => m = xs.length - i ∧ i ≤ xs.length ∧ Pv i σ H, ⟨_, rfl, Nat.zero_le _, h0⟩, ?_⟩
  rintro i m σ H ⟨rfl, hi, p⟩
  obtain ⟨qa, qb⟩ := hl i σ H hi p
  by_cases hlt : i < xs.length
  · refine Or.inr ⟨⟨xs, ys, xs[i], ys[i], qa, qb, List.getElem?_eq_getElem hlt, List.getElem?_eq_getElem (by omega)⟩, Pv (i + 1), fun σ' H' p' => ⟨_, by omega, rfl, hlt, p'⟩, ?_⟩
    rintro v H' ⟨T, x, y, rfl, hT, rfl, h1, h2⟩
    exact hs i x y σ H T (h1 xs qa) (h2 ys qb) p hT
  · have e : i = xs.length := by omega
    subst e
    exact Or.inl ⟨⟨xs, ys, qa, qb, .inl (Nat.le_refl _)⟩, hd σ H p⟩
end Sr
/-! # P4 -/
namespace Sr
open PySem PySem.Spec PyProof.Rows L2
open Evl (Ex)
/-! ### any of ints -/
theorem vals_int : ∀ {ns : List Int} {its : List Value} {i : Nat} {v : Value}, Vals (ns.map V.int) its → its[i]? = some v → ∃ t, v = .int (ns.getD i 0) t
  | [], _, i, v, .nil, h => by simp at h
  | n :: ns, _, 0, v, .cons r _, h => by
    obtain ⟨t, rfl⟩ := r
    cases h
    exact ⟨t, rfl⟩
  | n :: ns, _, i + 1, v, .cons _ rr, h => vals_int (i := i) (ns := ns) rr h
theorem any_getD (p : Int → Bool) : ∀ ns : List Int, (List.range ns.length).any (fun i => p (ns.getD i 0)) = ns.any p
  | [] => rfl
  | n :: ns => by
    have ih := any_getD p ns
    rw [List.length_cons, List.range_succ_eq_map, List.any_cons, List.any_map, List.any_cons, ← ih]
    rfl
def rAnyI (K : PySem.W.Frag) : List V → Hp → VK → Prop := fun vs H Q =>
  ∃ (a : Addr) (ns : List Int), vs = [V.ref a] ∧ SqL K H a (ns.map V.int) ∧ Q (.bl (ns.any fun n => n != 0)) H
theorem cr_anyI {X : Cx} (hc : X.calm = true) : CallR X (.builtin "any") (rAnyI X.K) := by
  intro pins s σ H vs us Q I r h
  obtain ⟨a, ns, rfl, hs, q⟩ := h
  obtain ⟨its, rv, hl, _⟩ := I.list hs
  rw [Vals.ref1 r]
  have tr : TruthOf X.prog X.w X.A.in1 (fun i v => its.toArray[i]? = some v) (fun i => ns.getD i 0 != 0) := fun i v s1 Q1 E1 hv hq => by
    obtain ⟨t, rfl⟩ := vals_int rv (show its[i]? = some v by simpa using hv)
    exact PySem.P.truthy_int hq
  refine call_any_walk (iter_any hl.isList fun s2 e2 st hne => ?_)
  subst e2
  refine ⟨_, _, _, _, _, _, _, rfl, Walks.list (A := X.A.in1) (I.ok.hd hc) _ a hne its.toArray, st, tr, fun h' tk hk => ?_⟩
  have n1 : its.toArray.size = ns.length := by
    have := rv.length
    simp at this
    simp
    omega
  refine ⟨.bl (ns.any fun n => n != 0), H, I.kept fun b o eo => hk b o (fun hm => ?_) (Heap.get?_push_of_some _ eo), ?_, q⟩
  · rcases List.mem_cons.mp hm with e | hm
    · rw [e] at eo
      exact absurd (Heap.lt_size eo) (Nat.lt_irrefl _)
    · cases hm
  · show Value.bool _ = Value.bool _
    rw [← any_getD, n1]
end Sr
/-! # L1 -/
namespace Sr
open PySem PySem.Spec PyProof.Rows L2
open Evl (Ex Ev EvL EvU EvT EvA RetL RetV)
def topS (i : Nat) : Stmt := PySem.Challenge.pw_sumroom_k14_whole_any_text.main.body.getD i (.Pass ⟨0, 0, 0, 0⟩)
abbrev s_mixed : Stmt := topS 12
abbrev n_mixed : List Str := ["times", "row", "others", "other", "first", "second"]
theorem sc_mixed : FnScope n_mixed ["times", "row", "others", "other"] (defScope s_mixed) := ⟨rfl, rfl, rfl, by decide +kernel, rfl, by decide +kernel, by decide +kernel⟩
abbrev s_woven : Stmt := topS 13
abbrev n_woven : List Str := ["times", "rows", "width", "total", "many", "row"]
theorem sc_woven : FnScope n_woven ["times", "rows", "width"] (defScope s_woven) := ⟨rfl, rfl, rfl, by decide +kernel, rfl, by decide +kernel, by decide +kernel⟩
abbrev s_weighed : Stmt := topS 14
abbrev n_weighed : List Str := ["row", "weights", "number", "weight"]
theorem sc_weighed : FnScope n_weighed ["row", "weights"] (defScope s_weighed) := ⟨rfl, rfl, rfl, by decide +kernel, rfl, by decide +kernel, by decide +kernel⟩
abbrev s_unit : Stmt := topS 15
abbrev n_unit : List Str := ["at", "width", "place"]
theorem sc_unit : FnScope n_unit ["at", "width"] (defScope s_unit) := ⟨rfl, rfl, rfl, by decide +kernel, rfl, by decide +kernel, by decide +kernel⟩
abbrev s_turned : Stmt := topS 16
abbrev n_turned : List Str := ["rows", "width", "at", "row"]
theorem sc_turned : FnScope n_turned ["rows", "width"] (defScope s_turned) := ⟨rfl, rfl, rfl, by decide +kernel, rfl, by decide +kernel, by decide +kernel⟩
abbrev s_left_of : Stmt := topS 17
abbrev n_left_of : List Str := ["number", "kind"]
theorem sc_left_of : FnScope n_left_of ["number", "kind"] (defScope s_left_of) := ⟨rfl, rfl, rfl, by decide +kernel, rfl, by decide +kernel, by decide +kernel⟩
abbrev s_common : Stmt := topS 18
abbrev n_common : List Str := ["first", "second", "part", "times", "others", "rest", "rest_times", "rest_others", "many"]
theorem sc_common : FnScope n_common ["first", "second"] (defScope s_common) := ⟨rfl, rfl, rfl, by decide +kernel, rfl, by decide +kernel, by decide +kernel⟩
section
variable {P : Program} {w : World} {K : PySem.W.Frag} {mg : Str → Option Value} {base : Heap} {f : Addr} {fd : FuncData}
def spMix (K : PySem.W.Frag) : Sp := fun vs H Q _ => ∃ (t o : Int) (p q : Addr) (r s : List Int), vs = [.int t, .ref p, .int o, .ref q] ∧ SqL K H p (r.map V.int) ∧ SqL K H q (s.map V.int) ∧ r.length = s.length ∧ r.length ≤ 1000 ∧ (∀ x ∈ r, IntMulOk t x) ∧ (∀ x ∈ s, IntMulOk o x) ∧
  RetL ((Sm.mixed t r o s).map V.int) H Q
theorem mixed_range (t o : Int) : ∀ (r s : List Int), r.length = s.length → (Sm.mixed t r o s).map V.int = (List.range (r.map V.int).length).map fun i => V.int (t * r.getD i 0 + o * s.getD i 0)
  | r, s, h => by
    apply List.ext_getElem?
    intro i
    unfold Sm.mixed
    simp [tSeq, tAsg, tRet, tOp, tUn, tVar, tC, rI, rI0, rU, gName, L2.start, tIfS, tTest, rEq, rNe, scal, tNext, tCall, tCons, tNil, tCB, tIf, tAnd, L2.tOr, tNot, tB, tAndV, tOrV, tNotV, tChain, tLst, tDrop, rIxH, upd_same, cxK, tIsN, sFld, tFld, Evl.rListS, List.getElem?_map, List.getElem?_zipWith]
    by_cases hi : i < r.length
    · have hi2 : i < s.length := by omega
      simp [tSeq, tAsg, tRet, tOp, tUn, tVar, tC, rI, rI0, rU, gName, L2.start, tIfS, tTest, rEq, rNe, scal, tNext, tCall, tCons, tNil, tCB, tIf, tAnd, L2.tOr, tNot, tB, tAndV, tOrV, tNotV, tChain, tLst, tDrop, rIxH, upd_same, cxK, tIsN, sFld, tFld, Evl.rListS, hi, hi2]
    · have hi2 : ¬ i < s.length := by omega
      simp [tSeq, tAsg, tRet, tOp, tUn, tVar, tC, rI, rI0, rU, gName, L2.start, tIfS, tTest, rEq, rNe, scal, tNext, tCall, tCons, tNil, tCB, tIf, tAnd, L2.tOr, tNot, tB, tAndV, tOrV, tNotV, tChain, tLst, tDrop, rIxH, upd_same, cxK, tIsN, sFld, tFld, Evl.rListS, List.getElem?_eq_none (Nat.le_of_not_lt hi), List.getElem?_eq_none (Nat.le_of_not_lt hi2), hi]
theorem ok_mixed (F : FnP K "mixed" "mixed" s_mixed f fd) (B : Bi mg) : FnOk P w K mg base CX0 33 f fd ["times", "row", "others", "other"] (spMix K) := by
  refine F.ok sc_mixed (fun vs H Q E h => ?_) (fun cdv A outer s H vs Q E hr h => ⟨_, PSs.nox
   (pss_one (ps_ret (pe_lc (own := [("first", 4), ("second", 5)]) (g := gTup K 2 (gCons (gName 4) (gCons (gName 5) gNil))) (tt := tYes) rfl sc_mixed.nd (pi_zip rfl B.zip_ (pa_cons (pv 1) (pa_cons (pv 3) pa_nil))) (blkOk_by (N := n_mixed) (sc := defScope s_mixed) (by decide +kernel)) (fun _ _ _ _ _ => (pg_tup rfl (pgs_cons (pg_name (i := 4) sc_mixed.nd rfl (Or.inl rfl)) (pgs_cons (pg_name (i := 5) sc_mixed.nd rfl (Or.inl rfl)) pgs_nil)))) (fun _ _ _ _ _ => pts_nil) (fun _ _ _ _ _ => (pe_op op_add (pe_op op_mulZ (pv 0) (pv 4)) (pe_op op_mulZ (pv 2) (pv 5))))))), ?_⟩)
  · obtain ⟨t, o, p, q, r, s, rfl, _⟩ := h
    rfl
  · obtain ⟨t, o, p, q, r, s, rfl, hp, hq, hl, hn, h1, h2, k⟩ := h
    rw [mixed_range t o r s hl] at k
    refine lcZ (fun i => V.int (t * r.getD i 0 + o * s.getD i 0)) (fun H1 e Q q => ⟨_, rfl, _, rfl, q H1 (Ex.refl H1)⟩) hp hq (by simp [tSeq, tAsg, tRet, tOp, tUn, tVar, tC, rI, rI0, rU, gName, L2.start, tIfS, tTest, rEq, rNe, scal, tNext, tCall, tCons, tNil, tCB, tIf, tAnd, L2.tOr, tNot, tB, tAndV, tOrV, tNotV, tChain, tLst, tDrop, rIxH, upd_same, cxK, tIsN, sFld, tFld, Evl.rListS]; omega) (by simp [tSeq, tAsg, tRet, tOp, tUn, tVar, tC, rI, rI0, rU, gName, L2.start, tIfS, tTest, rEq, rNe, scal, tNext, tCall, tCons, tNil, tCB, tIf, tAnd, L2.tOr, tNot, tB, tAndV, tOrV, tNotV, tChain, tLst, tDrop, rIxH, upd_same, cxK, tIsN, sFld, tFld, Evl.rListS, hl]) (fun x y => rfl) (fun i x y H1 e1 hx hy H2 e2 Q q => ?_) H (Ex.refl H) _ (fun p2 H2 hp2 e2 h2 => k p2 H2 hp2 e2 h2)
    rw [List.getElem?_map] at hx hy
    cases hx2 : r[i]? with
    | none => rw [hx2] at hx; cases hx
    | some a =>
      cases hy2 : s[i]? with
      | none => rw [hy2] at hy; cases hy
      | some b =>
        rw [hx2] at hx
        rw [hy2] at hy
        cases hx
        cases hy
        simp [tSeq, tAsg, tRet, tOp, tUn, tVar, tC, rI, rI0, rU, gName, L2.start, tIfS, tTest, rEq, rNe, scal, tNext, tCall, tCons, tNil, tCB, tIf, tAnd, L2.tOr, tNot, tB, tAndV, tOrV, tNotV, tChain, tLst, tDrop, rIxH, upd_same, cxK, tIsN, sFld, tFld, Evl.rListS, wipe]
        refine ⟨h1 a (List.mem_of_getElem? hx2), h2 b (List.mem_of_getElem? hy2), q _ H2 (Ex.refl H2) ?_⟩
        simp [tSeq, tAsg, tRet, tOp, tUn, tVar, tC, rI, rI0, rU, gName, L2.start, tIfS, tTest, rEq, rNe, scal, tNext, tCall, tCons, tNil, tCB, tIf, tAnd, L2.tOr, tNot, tB, tAndV, tOrV, tNotV, tChain, tLst, tDrop, rIxH, upd_same, cxK, tIsN, sFld, tFld, Evl.rListS, List.getD_eq_getElem?_getD, hx2, hy2]
def spLeft : Sp := fun vs H Q _ => ∃ a b : Int, vs = [.int a, .int b] ∧ Q (.int (if b = 0 then a else a.fmod b)) H
theorem ok_left_of (F : FnP K "left_of" "left_of" s_left_of f fd) : FnOk P w K mg base CX0 1 f fd ["number", "kind"] spLeft := by
  refine F.ok sc_left_of (fun vs H Q E h => ?_) (fun cdv A outer s H vs Q E hr h => ⟨_, PSs.nox
   (pss_one (ps_ret (pe_ifExp (pt_cmpR op_ne (pv 1) pe_int (nomark _)) (pe_op op_modN (pv 0) (pv 1)) (pv 0)))), ?_⟩)
  · obtain ⟨a, b, rfl, _⟩ := h
    rfl
  · obtain ⟨a, b, rfl, q⟩ := h
    simp [tSeq, tAsg, tRet, tOp, tUn, tVar, tC, rI, rI0, rU, gName, L2.start, tIfS, tTest, rEq, rNe, scal, tNext, tCall, tCons, tNil, tCB, tIf, tAnd, L2.tOr, tNot, tB, tAndV, tOrV, tNotV, tChain, tLst, tDrop, rIxH, upd_same, cxK, tIsN, sFld, tFld, Evl.rListS]
    by_cases hb : b = 0
    · rw [if_pos hb] at q
      exact .inl ⟨hb, q⟩
    · rw [if_neg hb] at q
      exact .inr ⟨hb, q⟩
def spUnit : Sp := fun vs H Q _ => ∃ a n : Nat, vs = [.int a, .int n] ∧ n ≤ 1000 ∧ RetL ((Sm.unit a n).map V.int) H Q
theorem ok_unit (F : FnP K "unit" "unit" s_unit f fd) (B : Bi mg) : FnOk P w K mg base CX0 1 f fd ["at", "width"] spUnit := by
  refine F.ok sc_unit (fun vs H Q E h => ?_) (fun cdv A outer s H vs Q E hr h => ⟨_, PSs.nox
   (pss_one (ps_ret (pe_lc (own := [("place", 2)]) (g := gName 2) (tt := tYes) rfl sc_unit.nd (pi_range1 rfl B.range_ (pa_cons (pv 1) pa_nil)) (blkOk_by (N := n_unit) (sc := defScope s_unit) (by decide +kernel)) (fun _ _ _ _ _ => (pg_name (i := 2) sc_unit.nd rfl (Or.inl rfl))) (fun _ _ _ _ _ => pts_nil) (fun _ _ _ _ _ => (pe_ifExp (pt_cmpR op_eq (pv 2) (pv 0) (nomark _)) pe_int pe_int))))), ?_⟩)
  · obtain ⟨a, n, rfl, _⟩ := h
    rfl
  · obtain ⟨a, n, rfl, hn, k⟩ := h
    refine lcRf (m := n) (fun i => V.int (if i = a then 1 else 0)) (fun H1 e Q q => ⟨_, rfl, q H1 (Ex.refl H1)⟩) rfl (by omega) (fun x => rfl) (fun i H1 e1 hi H2 e2 Q q => ?_) H (Ex.refl H) _ (fun p2 H2 hp2 e2 h2 => k p2 H2 hp2 e2 ?_)
    · simp [tSeq, tAsg, tRet, tOp, tUn, tVar, tC, rI, rI0, rU, gName, L2.start, tIfS, tTest, rEq, rNe, scal, tNext, tCall, tCons, tNil, tCB, tIf, tAnd, L2.tOr, tNot, tB, tAndV, tOrV, tNotV, tChain, tLst, tDrop, rIxH, upd_same, cxK, tIsN, sFld, tFld, Evl.rListS, wipe]
      split
      · rename_i h
        have h' : i = a := by omega
        exact q _ H2 (Ex.refl H2) (by rw [if_pos h'])
      · rename_i h
        have h' : ¬ i = a := by omega
        exact q _ H2 (Ex.refl H2) (by rw [if_neg h'])
    · rw [h2]
      unfold Sm.unit
      rw [List.map_map]
      rfl
def spWeigh (K : PySem.W.Frag) : Sp := fun vs H Q _ => ∃ (p q : Addr) (r s : List Int), vs = [.ref p, .ref q] ∧ SqL K H p (r.map V.int) ∧ SqL K H q (s.map V.int) ∧ r.length = s.length ∧ r.length ≤ 1000 ∧ (∀ x ∈ r, ∀ y ∈ s, IntMulOk x y) ∧
  ∀ H', Ex H H' → Q (.int (List.zipWith (fun a b => a * b) r s).sum) H'
theorem weigh_range : ∀ (r s : List Int), r.length = s.length → (List.zipWith (fun a b => a * b) r s).map V.int = (List.range (r.map V.int).length).map fun i => V.int (r.getD i 0 * s.getD i 0)
  | r, s, h => by
    apply List.ext_getElem?
    intro i
    simp [tSeq, tAsg, tRet, tOp, tUn, tVar, tC, rI, rI0, rU, gName, L2.start, tIfS, tTest, rEq, rNe, scal, tNext, tCall, tCons, tNil, tCB, tIf, tAnd, L2.tOr, tNot, tB, tAndV, tOrV, tNotV, tChain, tLst, tDrop, rIxH, upd_same, cxK, tIsN, sFld, tFld, Evl.rListS, List.getElem?_map, List.getElem?_zipWith]
    by_cases hi : i < r.length
    · have hi2 : i < s.length := by omega
      simp [tSeq, tAsg, tRet, tOp, tUn, tVar, tC, rI, rI0, rU, gName, L2.start, tIfS, tTest, rEq, rNe, scal, tNext, tCall, tCons, tNil, tCB, tIf, tAnd, L2.tOr, tNot, tB, tAndV, tOrV, tNotV, tChain, tLst, tDrop, rIxH, upd_same, cxK, tIsN, sFld, tFld, Evl.rListS, hi, hi2]
    · have hi2 : ¬ i < s.length := by omega
      simp [tSeq, tAsg, tRet, tOp, tUn, tVar, tC, rI, rI0, rU, gName, L2.start, tIfS, tTest, rEq, rNe, scal, tNext, tCall, tCons, tNil, tCB, tIf, tAnd, L2.tOr, tNot, tB, tAndV, tOrV, tNotV, tChain, tLst, tDrop, rIxH, upd_same, cxK, tIsN, sFld, tFld, Evl.rListS, List.getElem?_eq_none (Nat.le_of_not_lt hi), List.getElem?_eq_none (Nat.le_of_not_lt hi2), hi]
theorem ok_weighed (F : FnP K "weighed" "weighed" s_weighed f fd) (B : Bi mg) : FnOk P w K mg base CX0 33 f fd ["row", "weights"] (spWeigh K) := by
  refine F.ok sc_weighed (fun vs H Q E h => ?_) (fun cdv A outer s H vs Q E hr h => ⟨_, PSs.nox
   (pss_one (ps_ret (pe_callB (cr_sum rfl) rfl B.sum_ boot_sum (pa_cons (pe_lc (own := [("number", 2), ("weight", 3)]) (g := gTup K 2 (gCons (gName 2) (gCons (gName 3) gNil))) (tt := tYes) rfl sc_weighed.nd (pi_zip rfl B.zip_ (pa_cons (pv 0) (pa_cons (pv 1) pa_nil))) (blkOk_by (N := n_weighed) (sc := defScope s_weighed) (by decide +kernel)) (fun _ _ _ _ _ => (pg_tup rfl (pgs_cons (pg_name (i := 2) sc_weighed.nd rfl (Or.inl rfl)) (pgs_cons (pg_name (i := 3) sc_weighed.nd rfl (Or.inl rfl)) pgs_nil)))) (fun _ _ _ _ _ => pts_nil) (fun _ _ _ _ _ => (pe_op op_mulZ (pv 2) (pv 3)))) pa_nil)))), ?_⟩)
  · obtain ⟨p, q, r, s, rfl, _⟩ := h
    rfl
  · obtain ⟨p, q, r, s, rfl, hp, hq, hl, hn, h1, k⟩ := h
    have hz := weigh_range r s hl
    simp only [tRet, tCB, tCons, tNil]
    refine lcZ (fun i => V.int (r.getD i 0 * s.getD i 0)) (fun H1 e Q q => ⟨_, rfl, _, rfl, q H1 (Ex.refl H1)⟩) hp hq (by simp [tSeq, tAsg, tRet, tOp, tUn, tVar, tC, rI, rI0, rU, gName, L2.start, tIfS, tTest, rEq, rNe, scal, tNext, tCall, tCons, tNil, tCB, tIf, tAnd, L2.tOr, tNot, tB, tAndV, tOrV, tNotV, tChain, tLst, tDrop, rIxH, upd_same, cxK, tIsN, sFld, tFld, Evl.rListS]; omega) (by simp [tSeq, tAsg, tRet, tOp, tUn, tVar, tC, rI, rI0, rU, gName, L2.start, tIfS, tTest, rEq, rNe, scal, tNext, tCall, tCons, tNil, tCB, tIf, tAnd, L2.tOr, tNot, tB, tAndV, tOrV, tNotV, tChain, tLst, tDrop, rIxH, upd_same, cxK, tIsN, sFld, tFld, Evl.rListS, hl]) (fun x y => rfl) (fun i x y H1 e1 hx hy H2 e2 Q q => ?_) H (Ex.refl H) _ (fun p2 H2 hp2 e2 h2 => ?_)
    · rw [List.getElem?_map] at hx hy
      cases hx2 : r[i]? with
      | none => rw [hx2] at hx; cases hx
      | some a =>
        cases hy2 : s[i]? with
        | none => rw [hy2] at hy; cases hy
        | some b =>
          rw [hx2] at hx
          rw [hy2] at hy
          cases hx
          cases hy
          simp [tSeq, tAsg, tRet, tOp, tUn, tVar, tC, rI, rI0, rU, gName, L2.start, tIfS, tTest, rEq, rNe, scal, tNext, tCall, tCons, tNil, tCB, tIf, tAnd, L2.tOr, tNot, tB, tAndV, tOrV, tNotV, tChain, tLst, tDrop, rIxH, upd_same, cxK, tIsN, sFld, tFld, Evl.rListS, wipe]
          refine ⟨h1 a (List.mem_of_getElem? hx2) b (List.mem_of_getElem? hy2), q _ H2 (Ex.refl H2) ?_⟩
          simp [tSeq, tAsg, tRet, tOp, tUn, tVar, tC, rI, rI0, rU, gName, L2.start, tIfS, tTest, rEq, rNe, scal, tNext, tCall, tCons, tNil, tCB, tIf, tAnd, L2.tOr, tNot, tB, tAndV, tOrV, tNotV, tChain, tLst, tDrop, rIxH, upd_same, cxK, tIsN, sFld, tFld, Evl.rListS, List.getD_eq_getElem?_getD, hx2, hy2]
    · rw [← hz] at h2
      exact ⟨p2, _, rfl, Evl.sq_of h2, k H2 e2⟩
end
end Sr
/-! # L2 -/
namespace Sr
open PySem PySem.Spec PyProof.Rows L2
open Evl (Ex Ev EvL EvU EvT EvA RetL RetV)
section
variable {P : Program} {w : World} {K : PySem.W.Frag} {mg : Str → Option Value} {base : Heap} {f : Addr} {fd : FuncData}
theorem iteB {b : Bool} {A B : Prop} (h1 : b = true → A) (h2 : b = false → B) : if b = true then A else B := by
  cases b with
  | true => exact h1 rfl
  | false => exact h2 rfl
def rest5 (σ : L2.St) : Nat := match (σ[5]? : Option (Option V)) with
  | some (some (V.int r)) => r.natAbs
  | _ => 0
def spCommon : Sp := fun vs H Q _ => ∃ a b : Int, vs = [.int a, .int b] ∧ 0 < a ∧ (∃ n, n ≤ 67000000 ∧ a.natAbs < 2 ^ n ∧ b.natAbs < 2 ^ n) ∧
  ∀ t H', Ex H H' → H t = none → H' t = some (.tup [.int (Sm.common a b).1, .int (Sm.common a b).2.1, .int (Sm.common a b).2.2]) → Q (.ref t) H'
theorem ok_common (F : FnP K "common" "common" s_common f fd) (hN : base.NoSeer) (hT : P.given.tree = none) : FnOk P w K mg base CX0 33 f fd ["first", "second"] spCommon := by
  refine F.ok sc_common (fun vs H Q E h => ?_) (fun cdv A outer s H vs Q E hr h => ⟨_, PSs.nox
   (pss_cons (ps_if (pt_cmpR op_eq (pe_op op_modN (pv 1) (pv 0)) pe_int (nomark _))
      (pss_one (ps_ret (pe_tup (pa_cons (pv 0) (pa_cons pe_int (pa_cons pe_int pa_nil))))))
      pss_nil)
      (pss_cons (ps_par3 (i := 2) (j := 3) (l := 4) rfl sc_common.nd rfl rfl rfl (by decide) (by decide) (by decide) rfl rfl rfl (pa_cons (pv 0) (pa_cons pe_int (pa_cons pe_int pa_nil))) rfl)
      (pss_cons (ps_par3 (i := 5) (j := 6) (l := 7) rfl sc_common.nd rfl rfl rfl (by decide) (by decide) (by decide) rfl rfl rfl (pa_cons (pv 1) (pa_cons pe_int (pa_cons pe_int pa_nil))) rfl)
      (pss_cons (ps_while PassesOwn.never (pt_cmpR op_ne (pv 5) pe_int (nomark _))
      (pss_cons (ps_set (i := 8) sc_common.nd rfl (Or.inl rfl) (pe_op (op_fdivZ (big_of hr (by decide) hN hT)) (pv 2) (pv 5)))
        (pss_cons (ps_par (i := 2) (j := 5) rfl sc_common.nd rfl rfl (by decide) rfl rfl (pa_cons (pv 5) (pa_cons (pe_op op_sub (pv 2) (pe_op op_mulZ (pv 8) (pv 5))) pa_nil)) rfl)
        (pss_cons (ps_par (i := 3) (j := 6) rfl sc_common.nd rfl rfl (by decide) rfl rfl (pa_cons (pv 6) (pa_cons (pe_op op_sub (pv 3) (pe_op op_mulZ (pv 8) (pv 6))) pa_nil)) rfl)
        (pss_one (ps_par (i := 4) (j := 7) rfl sc_common.nd rfl rfl (by decide) rfl rfl (pa_cons (pv 7) (pa_cons (pe_op op_sub (pv 4) (pe_op op_mulZ (pv 8) (pv 7))) pa_nil)) rfl))))))
      (pss_cons (ps_if (pt_cmpR op_lt (pv 2) pe_int (nomark _))
      (pss_one (ps_ret (pe_tup (pa_cons (pe_un un_neg (pv 2)) (pa_cons (pe_un un_neg (pv 3)) (pa_cons (pe_un un_neg (pv 4)) pa_nil))))))
      pss_nil)
      (pss_one (ps_ret (pe_tup (pa_cons (pv 2) (pa_cons (pv 3) (pa_cons (pv 4) pa_nil))))))))))), ?_⟩)
  · obtain ⟨a, b, rfl, _⟩ := h
    rfl
  · obtain ⟨a, b, rfl, ha, ⟨n, hn, hza, hzb⟩, k⟩ := h
    have ret : ∀ (x y z : Int) (H1 : Hp), Ex H H1 → (x, y, z) = Sm.common a b → ∀ t, H1 t = none → Q (.ref t) (upd H1 t (.tup [.int x, .int y, .int z])) := fun x y z H1 e1 hc t ht => by
      refine k t _ (e1.trans (ev_up ht)) (Evl.fresh_back e1 ht) ?_
      rw [upd_same, ← hc]
    have big : ∀ x y : Int, x.natAbs ≤ a.natAbs + 2 * b.natAbs → y.natAbs ≤ a.natAbs + 2 * b.natAbs → IntMulOk x y := fun x y hx hy => by
      have e : (2 : Nat) ^ (n + 2) = 2 ^ n * 4 := Nat.pow_add 2 n 2
      exact mulOk_of (a := n + 2) (b := n + 2) (by omega) (by omega) (by omega) (by omega) (by omega)
    refine Evl.q_when (b := decide (b.fmod a = 0)) (fun H1 e1 Q1 q1 => ⟨_, rfl, _, rfl, b, a, rfl, rfl, (show a ≠ 0 by omega), rfl, _, rfl, by simpa [tSeq, tAsg, tRet, tOp, tUn, tVar, tC, rI, rI0, rU, gName, L2.start, tIfS, tTest, rEq, rNe, scal, tNext, tCall, tCons, tNil, tCB, tIf, tAnd, L2.tOr, tNot, tB, tAndV, tOrV, tNotV, tChain, tLst, tDrop, rIxH, upd_same, cxK, tIsN, sFld, tFld, Evl.rListS] using q1 H1 (Ex.refl H1)⟩) (fun hb H1 e1 => ?_) (fun hb H1 e1 => ?_)
    · have hb := of_decide_eq_true hb
      refine ⟨_, rfl, Evl.sz_of (by simp [tSeq, tAsg, tRet, tOp, tUn, tVar, tC, rI, rI0, rU, gName, L2.start, tIfS, tTest, rEq, rNe, scal, tNext, tCall, tCons, tNil, tCB, tIf, tAnd, L2.tOr, tNot, tB, tAndV, tOrV, tNotV, tChain, tLst, tDrop, rIxH, upd_same, cxK, tIsN, sFld, tFld, Evl.rListS]), fun t ht => ret a 1 0 H1 e1 ?_ t ht⟩
      unfold Sm.common
      rw [if_pos hb]
    · have hb := of_decide_eq_false hb
      have hcom : Sm.common a b = Sm.eu a 1 0 b 0 1 := by
        unfold Sm.common
        rw [if_neg hb]
      refine ⟨_, rfl, _, _, _, rfl, _, rfl, _, _, _, rfl, ?_⟩
      refine while_by (fun σ' H' => H' = H1 ∧ ∃ (p t o r rt ro : Int) (y : Option V), σ' = [some (.int a), some (.int b), some (.int p), some (.int t), some (.int o), some (.int r), some (.int rt), some (.int ro), y] ∧ Sm.eu p t o r rt ro = Sm.common a b ∧ ((p, t, o, r, rt, ro) = (a, 1, 0, b, 0, 1) ∨ Sm.EuI (a.natAbs + b.natAbs) (a.natAbs + 2 * b.natAbs) (a.natAbs + 2 * b.natAbs) p t o r rt ro)) (fun σ' _ => rest5 σ')
        ⟨rfl, a, 1, 0, b, 0, 1, none, rfl, hcom.symm, .inl rfl⟩ ?_ ?_
      · rintro σ' H' ⟨rfl, p, t, o, r, rt, ro, y, rfl, he, hJ⟩
        refine ⟨_, rfl, rfl, _, rfl, iteB (fun hr => ?_) (fun hr => ?_)⟩
        · have hr : r ≠ 0 := by simpa [tSeq, tAsg, tRet, tOp, tUn, tVar, tC, rI, rI0, rU, gName, L2.start, tIfS, tTest, rEq, rNe, scal, tNext, tCall, tCons, tNil, tCB, tIf, tAnd, L2.tOr, tNot, tB, tAndV, tOrV, tNotV, tChain, tLst, tDrop, rIxH, upd_same, cxK, tIsN, sFld, tFld, Evl.rListS] using hr
          have sizes : p.natAbs ≤ a.natAbs + 2 * b.natAbs ∧ r.natAbs ≤ a.natAbs + 2 * b.natAbs ∧ rt.natAbs ≤ a.natAbs + 2 * b.natAbs ∧ ro.natAbs ≤ a.natAbs + 2 * b.natAbs := by
            rcases hJ with h | I
            · simp only [Prod.mk.injEq] at h
              obtain ⟨rfl, rfl, rfl, rfl, rfl, rfl⟩ := h
              refine ⟨by omega, by omega, by simp [tSeq, tAsg, tRet, tOp, tUn, tVar, tC, rI, rI0, rU, gName, L2.start, tIfS, tTest, rEq, rNe, scal, tNext, tCall, tCons, tNil, tCB, tIf, tAnd, L2.tOr, tNot, tB, tAndV, tOrV, tNotV, tChain, tLst, tDrop, rIxH, upd_same, cxK, tIsN, sFld, tFld, Evl.rListS], ?_⟩
              show 1 ≤ _
              omega
            · have := I.pm
              have := I.rm
              have := I.rt_le
              omega
          have hk := Sm.fdiv_le p hr
          have hkb : (p.fdiv r).natAbs ≤ a.natAbs + 2 * b.natAbs := by omega
          refine ⟨_, rfl, _, rfl, p, r, rfl, rfl, hr, ?_⟩
          refine ⟨_, rfl, _, rfl, _, rfl, _, rfl, p.fdiv r, r, rfl, rfl, big _ _ hkb sizes.2.1, p, _, rfl, rfl, _, _, rfl, ?_⟩
          refine ⟨_, rfl, _, rfl, _, rfl, _, rfl, p.fdiv r, rt, rfl, rfl, big _ _ hkb sizes.2.2.1, t, _, rfl, rfl, _, _, rfl, ?_⟩
          refine ⟨_, rfl, _, rfl, _, rfl, _, rfl, p.fdiv r, ro, rfl, rfl, big _ _ hkb sizes.2.2.2, o, _, rfl, rfl, _, _, rfl, ?_⟩
          refine ⟨⟨rfl, r, rt, ro, p - p.fdiv r * r, t - p.fdiv r * rt, o - p.fdiv r * ro, _, rfl, ?_, .inr ?_⟩, ?_⟩
          · rw [← he]
            rw [Sm.eu.eq_def p t o r rt ro, dif_neg hr]
          · rcases hJ with h | I
            · simp only [Prod.mk.injEq] at h
              obtain ⟨rfl, rfl, rfl, rfl, rfl, rfl⟩ := h
              exact Sm.eu_first ha hr
            · exact I.step hr
          · have em : p - p.fdiv r * r = p.fmod r := by
              have := Int.fmod_add_mul_fdiv p r
              rw [Int.mul_comm]
              omega
            show (p - p.fdiv r * r).natAbs < r.natAbs
            rw [em]
            exact Sm.fmod_abs hr
        · have hr : r = 0 := by simpa [tSeq, tAsg, tRet, tOp, tUn, tVar, tC, rI, rI0, rU, gName, L2.start, tIfS, tTest, rEq, rNe, scal, tNext, tCall, tCons, tNil, tCB, tIf, tAnd, L2.tOr, tNot, tB, tAndV, tOrV, tNotV, tChain, tLst, tDrop, rIxH, upd_same, cxK, tIsN, sFld, tFld, Evl.rListS] using hr
          subst hr
          rw [Sm.eu.eq_def, dif_pos rfl] at he
          refine ⟨_, rfl, p, 0, rfl, rfl, _, rfl, iteB (fun hp => ?_) (fun hp => ?_)⟩
          · have hp := of_decide_eq_true hp
            rw [if_pos hp] at he
            exact ⟨_, rfl, p, rfl, _, rfl, t, rfl, _, rfl, o, rfl, Evl.sz_of (by simp [tSeq, tAsg, tRet, tOp, tUn, tVar, tC, rI, rI0, rU, gName, L2.start, tIfS, tTest, rEq, rNe, scal, tNext, tCall, tCons, tNil, tCB, tIf, tAnd, L2.tOr, tNot, tB, tAndV, tOrV, tNotV, tChain, tLst, tDrop, rIxH, upd_same, cxK, tIsN, sFld, tFld, Evl.rListS]), fun x hx => ret (-p) (-t) (-o) _ e1 he x hx⟩
          · have hp := of_decide_eq_false hp
            rw [if_neg hp] at he
            exact ⟨_, rfl, _, rfl, _, rfl, Evl.sz_of (by simp [tSeq, tAsg, tRet, tOp, tUn, tVar, tC, rI, rI0, rU, gName, L2.start, tIfS, tTest, rEq, rNe, scal, tNext, tCall, tCons, tNil, tCB, tIf, tAnd, L2.tOr, tNot, tB, tAndV, tOrV, tNotV, tChain, tLst, tDrop, rIxH, upd_same, cxK, tIsN, sFld, tFld, Evl.rListS]), fun x hx => ret p t o _ e1 he x hx⟩
      · rintro σ' H' Q1 Q2 hq ⟨v, hv, h1, kk, hkk, qq⟩
        exact ⟨v, hv, h1, kk, hkk, hq _ _ qq⟩
end
end Sr
/-! # L3 -/
namespace Sr
open PySem PySem.Spec PyProof.Rows L2
open Evl (Ex Ev EvL EvU EvT EvA RetL RetV)
section
variable {P : Program} {w : World} {K : PySem.W.Frag} {mg : Str → Option Value} {base : Heap} {f : Addr} {fd : FuncData}
def spTurned (K : PySem.W.Frag) : Sp := fun vs H Q _ => ∃ (a : Addr) (rs : List Addr) (nss : List (List Int)) (n : Nat), vs = [.ref a, .int n] ∧ H a = some (.lst (rs.map V.ref)) ∧ RowsL H rs nss ∧ (∀ ns ∈ nss, n ≤ ns.length) ∧ n ≤ 1000 ∧ rs.length ≤ 1000 ∧
  ∀ p qs H', H p = none → Ex H H' → H' p = some (.lst (qs.map V.ref)) → RowsL H' qs (Sm.turned nss n) → (∀ q ∈ qs, H q = none ∧ q ≠ p) → Q (.ref p) H'
theorem ok_turned (F : FnP K "turned" "turned" s_turned f fd) (B : Bi mg) : FnOk P w K mg base CX0 1 f fd ["rows", "width"] (spTurned K) := by
  refine F.ok sc_turned (fun vs H Q E h => ?_) (fun cdv A outer s H vs Q E hr h => ⟨_, PSs.nox
   (pss_one (ps_ret (pe_lc (own := [("at", 2)]) (g := gName 2) (tt := tYes) rfl sc_turned.nd (pi_range1 rfl B.range_ (pa_cons (pv 1) pa_nil)) (blkOk_by (N := n_turned) (sc := defScope s_turned) (by decide +kernel)) (fun _ _ _ _ _ => (pg_name (i := 2) sc_turned.nd rfl (Or.inr rfl))) (fun _ _ _ _ _ => pts_nil) (fun _ _ _ _ _ => (pe_lc (wi := iList K (tVar 0)) (own := [("row", 3)]) (g := gName 3) (tt := tYes) rfl sc_turned.nd (pi_list (pv 0)) (blkOk_by (by rfl)) (fun _ _ _ _ _ => (pg_name (i := 3) sc_turned.nd rfl (Or.inl rfl))) (fun _ _ _ _ _ => pts_nil) (fun _ _ _ _ _ => (pe_ix (r := rIxL K) ix_list (pv 3) (pv 2) (fun _ _ => rfl)))))))), ?_⟩)
  · obtain ⟨a, rs, nss, n, rfl, _⟩ := h
    rfl
  · obtain ⟨a, rs, nss, n, rfl, ha, hr, hn, h1, h2, k⟩ := h
    have hlen := hr.len
    refine lcRowsR (Sm.turned nss n) (fun H1 e Q q => ⟨_, rfl, q H1 (Ex.refl H1)⟩) (by rw [Sm.turned_len]) (by rw [Sm.turned_len]; omega) (fun x => rfl) (fun i ns H1 e1 hi => ?_) H (Ex.refl H) _ ?_
    · have hin : i < n := by
        have := (List.getElem?_eq_some_iff.mp hi).1
        rw [Sm.turned_len] at this
        exact this
      have hns : ns = nss.map fun row => row.getD i 0 := by
        unfold Sm.turned at hi
        rw [List.getElem?_map, List.getElem?_range hin] at hi
        exact (Option.some.inj hi).symm
      have hval : ns.map V.int = (List.range (rs.map V.ref).length).map fun k => V.int ((nss.getD k []).getD i 0) := by
        rw [hns]
        apply List.ext_getElem?
        intro k
        rw [List.getElem?_map, List.getElem?_map, List.getElem?_map, List.length_map, hlen]
        by_cases hk : k < nss.length
        · rw [List.getElem?_eq_getElem hk, List.getElem?_range hk]
          simp [List.getD_eq_getElem?_getD, hk]
        · rw [List.getElem?_eq_none (by omega), List.getElem?_eq_none (by simp; omega)]
          rfl
      rw [hval]
      refine lcLf (fun k => V.int ((nss.getD k []).getD i 0)) (Evl.ev_var rfl) (Evl.sq_of (e1 _ _ ha)) (by simp; omega) (fun x => rfl) (fun k x H2 e2 hk => ?_)
      rw [List.getElem?_map] at hk
      cases hk2 : rs[k]? with
      | none =>
        rw [hk2] at hk
        cases hk
      | some r =>
        rw [hk2] at hk
        cases hk
        obtain ⟨ms, g1, g2⟩ := hr.get hk2
        intro H3 e3 Q q
        have hm := hn ms (List.mem_of_getElem? g1)
        refine ⟨_, rfl, _, rfl, r, ms.map V.int, i, V.int (ms.getD i 0), rfl, rfl, Evl.sq_of (((e1.trans e2).trans e3) _ _ g2), ?_, q _ H3 (Ex.refl H3) ?_⟩
        · have h1 : i < ms.length := by omega
          unfold atI ixN
          rw [if_pos (by omega), if_pos (by simp; omega)]
          simp [List.getD_eq_getElem?_getD, h1]
        · simp [List.getD_eq_getElem?_getD, g1]
    · rintro _ H2 e2 ⟨p, qs, rfl, hp, hp2, hq, hqs⟩
      exact k p qs H2 hp e2 hp2 hq hqs
end
end Sr
/-! # L4 -/
namespace Sr
open PySem PySem.Spec PyProof.Rows L2
open Evl (Ex Ev EvL EvU EvT EvA RetL RetV)
section
variable {P : Program} {w : World} {K : PySem.W.Frag} {mg : Str → Option Value} {base : Heap} {f : Addr} {fd : FuncData}
def spWoven (K : PySem.W.Frag) : Sp := fun vs H Q _ => ∃ (p a : Addr) (ts : List Int) (rs : List Addr) (nss : List (List Int)) (n : Nat), vs = [.ref p, .ref a, .int n] ∧ SqL K H p (ts.map V.int) ∧ H a = some (.lst (rs.map V.ref)) ∧ RowsL H rs nss ∧ ts.length = nss.length ∧ n ≤ 1000 ∧ rs.length ≤ 1000 ∧ (∀ ns ∈ nss, ns.length = n) ∧
  (∀ i, ∀ x ∈ Sm.woven (ts.take i) (nss.take i) n, IntMulOk 1 x) ∧ (∀ t ∈ ts, ∀ ns ∈ nss, ∀ x ∈ ns, IntMulOk t x) ∧ RetL ((Sm.woven ts nss n).map V.int) H Q
theorem woven_len {ts : List Int} {nss : List (List Int)} {n : Nat} (h : ∀ ns ∈ nss, ns.length = n) : (Sm.woven ts nss n).length = n := by
  unfold Sm.woven
  have go : ∀ (l : List (Int × List Int)) (tot : List Int), tot.length = n → (∀ p ∈ l, p.2.length = n) → (l.foldl (fun tot p => Sm.mixed 1 tot p.1 p.2) tot).length = n := by
    intro l
    induction l with
    | nil => intro tot ht _; exact ht
    | cons p l ih =>
      intro tot ht hp
      refine ih _ ?_ fun q hq => hp q (by simp [hq])
      unfold Sm.mixed
      rw [List.length_zipWith, ht, hp p (by simp)]
      omega
  exact go _ _ (by simp) fun p hp => h p.2 (List.of_mem_zip hp).2
theorem woven_take {ts : List Int} {nss : List (List Int)} {n i : Nat} {t : Int} {ns : List Int} (h1 : ts[i]? = some t) (h2 : nss[i]? = some ns) : Sm.woven (ts.take (i + 1)) (nss.take (i + 1)) n = Sm.mixed 1 (Sm.woven (ts.take i) (nss.take i) n) t ns := by
  have i1 : i < ts.length := (List.getElem?_eq_some_iff.mp h1).1
  have i2 : i < nss.length := (List.getElem?_eq_some_iff.mp h2).1
  unfold Sm.woven
  rw [List.take_succ, List.take_succ, h1, h2]
  have e : (ts.take i).length = (nss.take i).length := by simp; omega
  show ((ts.take i ++ [t]).zip (nss.take i ++ [ns])).foldl _ _ = _
  rw [List.zip_append e, List.foldl_append]
  rfl
theorem ok_woven (F : FnP K "woven" "woven" s_woven f fd) (B : Bi mg) (D_mixed : Df P w K mg base CX0 33 "mixed" ["times", "row", "others", "other"] (spMix K)) : FnOk P w K mg base CX0 34 f fd ["times", "rows", "width"] (spWoven K) := by
  refine F.ok sc_woven (fun vs H Q E h => ?_) (fun cdv A outer s H vs Q E hr h => ⟨_, PSs.nox
   (pss_cons (ps_set (i := 3) sc_woven.nd rfl (Or.inl rfl) (pe_op op_rep (pe_lst (pa_cons pe_int pa_nil)) (pv 2)))
      (pss_cons (ps_for PassesOwn.never rfl (pi_zip rfl B.zip_ (pa_cons (pv 0) (pa_cons (pv 1) pa_nil))) (pg_tup rfl (pgs_cons (pg_name (i := 4) sc_woven.nd rfl (Or.inl rfl)) (pgs_cons (pg_name (i := 5) sc_woven.nd rfl (Or.inl rfl)) pgs_nil)))
      (pss_one (ps_set (i := 3) sc_woven.nd rfl (Or.inl rfl) (pe_df D_mixed (hr.mono (by decide)) (pa_cons pe_int (pa_cons (pv 3) (pa_cons (pv 4) (pa_cons (pv 5) pa_nil))))))))
      (pss_one (ps_ret (pv 3))))), ?_⟩)
  · obtain ⟨p, a, ts, rs, nss, n, rfl, _⟩ := h
    rfl
  · obtain ⟨p, a, ts, rs, nss, n, rfl, hp, ha, hr, hl, hn, hrl, hw, h1, h2, k⟩ := h
    have hlen := hr.len
    refine el_rep (n := n) (Evl.ev_var rfl) (ek_l (Evl.el_lst (Evl.ea_cons Evl.ev_c Evl.ea_nil) (by simp))) (by omega) (by omega) H (Ex.refl H) _ fun z H1 hz e1 hz1 => ?_
    refine ⟨_, rfl, _, rfl, p, a, _, _, rfl, Evl.ex_l e1 hp, Evl.sq_of (e1 _ _ ha), ?_⟩
    refine for_zip (K := K) (xs := ts.map V.int) (ys := rs.map V.ref) (fun i σ' H' => ∃ (q : Addr) (y4 y5 : Option V), σ' = [some (.ref p), some (.ref a), some (.int n), some (.ref q), y4, y5] ∧ Ex H H' ∧ H q = none ∧ H' q = some (.lst ((Sm.woven (ts.take i) (nss.take i) n).map V.int))) (by simp; omega) ⟨z, none, none, rfl, e1, hz, ?_⟩ (fun i σ' H' _ ⟨_, _, _, _, e, _⟩ => ⟨Evl.ex_l e hp, Evl.sq_of (e _ _ ha)⟩) ?_ ?_
    · rw [hz1]
      simp [Sm.woven]
    · rintro i x y σ' H' T hx hy ⟨q, y4, y5, rfl, e, hq, hq2⟩ hT
      rw [List.getElem?_map] at hx hy
      cases hx2 : ts[i]? with
      | none => rw [hx2] at hx; cases hx
      | some t =>
        cases hy2 : rs[i]? with
        | none => rw [hy2] at hy; cases hy
        | some r =>
          rw [hx2] at hx
          rw [hy2] at hy
          cases hx
          cases hy
          obtain ⟨ns, g1, g2⟩ := hr.get hy2
          have eT := ev_up (o := .tup [.int t, .ref r]) hT
          have hm := List.mem_of_getElem? g1
          refine ⟨T, _, rfl, Evl.st_of upd_same, rfl, _, _, rfl, _, _, rfl, rfl, ?_⟩
          refine ⟨_, rfl, _, rfl, _, rfl, 1, t, q, r, Sm.woven (ts.take i) (nss.take i) n, ns, rfl, Evl.sq_of (eT _ _ hq2), Evl.sq_of ((e.trans eT) _ _ g2), ?_, ?_, h1 i, h2 t (List.mem_of_getElem? hx2) ns hm, fun q2 H3 hq3 e3 h3 => ?_⟩
          · rw [woven_len fun ns hns => hw ns (List.mem_of_mem_take hns), hw ns hm]
          · rw [woven_len fun ns hns => hw ns (List.mem_of_mem_take hns)]
            omega
          · rw [← woven_take hx2 g1] at h3
            exact ⟨q2, _, _, rfl, (e.trans eT).trans e3, Evl.fresh_back (e.trans eT) hq3, h3⟩
    · rintro σ' H' ⟨q, y4, y5, rfl, e, hq, hq2⟩
      rw [List.length_map, List.take_of_length_le (Nat.le_refl _), List.take_of_length_le (by omega)] at hq2
      exact ⟨_, rfl, k q H' hq e hq2⟩
end
end Sr
/-! # L5 -/
namespace Sr
open PySem PySem.Spec PyProof.Rows L2
open Evl (Ex Ev EvL EvU EvT EvA RetL RetV)
abbrev s_uneven : Stmt := topS 21
abbrev n_uneven : List Str := ["kinds", "at"]
theorem sc_uneven : FnScope n_uneven ["kinds"] (defScope s_uneven) := ⟨rfl, rfl, rfl, by decide +kernel, rfl, by decide +kernel, by decide +kernel⟩
abbrev s_is_straight : Stmt := topS 20
abbrev n_is_straight : List Str := ["rows", "at", "row"]
theorem sc_is_straight : FnScope n_is_straight ["rows"] (defScope s_is_straight) := ⟨rfl, rfl, rfl, by decide +kernel, rfl, by decide +kernel, by decide +kernel⟩
section
variable {P : Program} {w : World} {K : PySem.W.Frag} {mg : Str → Option Value} {base : Heap} {f : Addr} {fd : FuncData}
theorem find_at {p : Nat → Bool} {n i : Nat} (hi : i < n) (h : p i = true) (h0 : ∀ j, j < i → p j = false) : (List.range n).find? p = some i := by
  rw [List.find?_eq_some_iff_getElem]
  exact ⟨h, i, by simpa [tSeq, tAsg, tRet, tOp, tUn, tVar, tC, rI, rI0, rU, gName, L2.start, tIfS, tTest, rEq, rNe, scal, tNext, tCall, tCons, tNil, tCB, tIf, tAnd, L2.tOr, tNot, tB, tAndV, tOrV, tNotV, tChain, tLst, tDrop, rIxH, upd_same, cxK, tIsN, sFld, tFld, Evl.rListS] using hi, by simp [tSeq, tAsg, tRet, tOp, tUn, tVar, tC, rI, rI0, rU, gName, L2.start, tIfS, tTest, rEq, rNe, scal, tNext, tCall, tCons, tNil, tCB, tIf, tAnd, L2.tOr, tNot, tB, tAndV, tOrV, tNotV, tChain, tLst, tDrop, rIxH, upd_same, cxK, tIsN, sFld, tFld, Evl.rListS], fun j hj => by simp [tSeq, tAsg, tRet, tOp, tUn, tVar, tC, rI, rI0, rU, gName, L2.start, tIfS, tTest, rEq, rNe, scal, tNext, tCall, tCons, tNil, tCB, tIf, tAnd, L2.tOr, tNot, tB, tAndV, tOrV, tNotV, tChain, tLst, tDrop, rIxH, upd_same, cxK, tIsN, sFld, tFld, Evl.rListS, h0 j hj]⟩
theorem find_no {p : Nat → Bool} {n : Nat} (h0 : ∀ j, j < n → p j = false) : (List.range n).find? p = none := by
  rw [List.find?_eq_none]
  intro x hx
  rw [h0 x (List.mem_range.mp hx)]
  simp [tSeq, tAsg, tRet, tOp, tUn, tVar, tC, rI, rI0, rU, gName, L2.start, tIfS, tTest, rEq, rNe, scal, tNext, tCall, tCons, tNil, tCB, tIf, tAnd, L2.tOr, tNot, tB, tAndV, tOrV, tNotV, tChain, tLst, tDrop, rIxH, upd_same, cxK, tIsN, sFld, tFld, Evl.rListS]
theorem atI_ints {ks : List Int} {i : Nat} (h : i < ks.length) : atI (ks.map V.int) (i : Int) = some (V.int (Sm.gf ks i)) := by
  unfold atI ixN Sm.gf
  rw [if_pos (by omega), if_pos (by simp [tSeq, tAsg, tRet, tOp, tUn, tVar, tC, rI, rI0, rU, gName, L2.start, tIfS, tTest, rEq, rNe, scal, tNext, tCall, tCons, tNil, tCB, tIf, tAnd, L2.tOr, tNot, tB, tAndV, tOrV, tNotV, tChain, tLst, tDrop, rIxH, upd_same, cxK, tIsN, sFld, tFld, Evl.rListS]; omega)]
  simp [tSeq, tAsg, tRet, tOp, tUn, tVar, tC, rI, rI0, rU, gName, L2.start, tIfS, tTest, rEq, rNe, scal, tNext, tCall, tCons, tNil, tCB, tIf, tAnd, L2.tOr, tNot, tB, tAndV, tOrV, tNotV, tChain, tLst, tDrop, rIxH, upd_same, cxK, tIsN, sFld, tFld, Evl.rListS, List.getD_eq_getElem?_getD, h]
def atV : Option Nat → V
  | some i => .int i
  | none => .non
def spUneven (K : PySem.W.Frag) : Sp := fun vs H Q _ => ∃ (a : Addr) (ks : List Int), vs = [.ref a] ∧ SqL K H a (ks.map V.int) ∧ ks.length ≤ 1000 ∧ (∀ k ∈ ks, k ≠ 0) ∧ Q (atV (Sm.uneven ks)) H
theorem ok_uneven (F : FnP K "uneven" "uneven" s_uneven f fd) (B : Bi mg) : FnOk P w K mg base CX0 1 f fd ["kinds"] (spUneven K) := by
  refine F.ok sc_uneven (fun vs H Q E h => ?_) (fun cdv A outer s H vs Q E hr h => ⟨_, PSs.nox
   (pss_cons (ps_for PassesOwn.never rfl (pi_range1 rfl B.range_ (pa_cons (pe_op op_sub (pe_callB call_len_seq rfl B.len_ boot_len (pa_cons (pv 0) pa_nil)) pe_int) pa_nil)) (pg_name (i := 1) sc_uneven.nd rfl (Or.inl rfl))
      (pss_one (ps_if (pt_cmpR op_ne (pe_op op_modN (pe_ix ix_list (pv 0) (pe_op op_add (pv 1) pe_int) (fun _ _ => rfl)) (pe_ix ix_list (pv 0) (pv 1) (fun _ _ => rfl))) pe_int (nomark _))
        (pss_one (ps_ret (pv 1)))
        pss_nil)))
      (pss_one (ps_ret pe_non))), ?_⟩)
  · obtain ⟨a, ks, rfl, _⟩ := h
    rfl
  · obtain ⟨a, ks, rfl, ha, hl, hk, q⟩ := h
    refine ⟨_, rfl, a, _, rfl, .inl ha, _, _, rfl, rfl, _, rfl, ?_, ?_, ?_⟩
    · omega
    · simp [tSeq, tAsg, tRet, tOp, tUn, tVar, tC, rI, rI0, rU, gName, L2.start, tIfS, tTest, rEq, rNe, scal, tNext, tCall, tCons, tNil, tCB, tIf, tAnd, L2.tOr, tNot, tB, tAndV, tOrV, tNotV, tChain, tLst, tDrop, rIxH, upd_same, cxK, tIsN, sFld, tFld, Evl.rListS]
      omega
    have en : (((ks.map V.int).length : Int) - 1).toNat = ks.length - 1 := by
      rw [List.length_map]
      omega
    rw [en]
    refine for_range (n := ks.length - 1) (fun i σ' H' => H' = H ∧ (∃ y : Option V, σ' = [some (.ref a), y]) ∧ ∀ j, j < i → ((Sm.gf ks (j + 1)).fmod (Sm.gf ks j) != 0) = false) ⟨rfl, ⟨none, rfl⟩, fun j hj => absurd hj (Nat.not_lt_zero j)⟩ ?_ ?_
    · rintro i σ' H' hi ⟨rfl, ⟨y, rfl⟩, h0⟩
      have e0 : (0 : Int) + (i : Int) = (i : Int) := Int.zero_add _
      rw [e0]
      have nz : Sm.gf ks i ≠ 0 := by
        have hlt : i < ks.length := by omega
        have e : Sm.gf ks i = ks[i] := by simp [tSeq, tAsg, tRet, tOp, tUn, tVar, tC, rI, rI0, rU, gName, L2.start, tIfS, tTest, rEq, rNe, scal, tNext, tCall, tCons, tNil, tCB, tIf, tAnd, L2.tOr, tNot, tB, tAndV, tOrV, tNotV, tChain, tLst, tDrop, rIxH, upd_same, cxK, tIsN, sFld, tFld, Evl.rListS, Sm.gf, List.getD_eq_getElem?_getD, hlt]
        rw [e]
        exact hk _ (List.getElem_mem hlt)
      refine ⟨_, rfl, _, rfl, i, 1, rfl, rfl, a, _, _, _, rfl, rfl, ha, atI_ints (i := i + 1) (by omega), _, rfl, _, rfl, a, _, _, _, rfl, rfl, ha, atI_ints (by omega), _, _, rfl, rfl, nz, rfl, _, rfl, iteB (fun hb => ?_) (fun hb => ?_)⟩
      · have hp : ((Sm.gf ks (i + 1)).fmod (Sm.gf ks i) != 0) = true := by simpa [tSeq, tAsg, tRet, tOp, tUn, tVar, tC, rI, rI0, rU, gName, L2.start, tIfS, tTest, rEq, rNe, scal, tNext, tCall, tCons, tNil, tCB, tIf, tAnd, L2.tOr, tNot, tB, tAndV, tOrV, tNotV, tChain, tLst, tDrop, rIxH, upd_same, cxK, tIsN, sFld, tFld, Evl.rListS] using hb
        have hu : Sm.uneven ks = some i := find_at (by omega) hp h0
        rw [hu] at q
        exact ⟨_, rfl, q⟩
      · have hp : ((Sm.gf ks (i + 1)).fmod (Sm.gf ks i) != 0) = false := by simpa [tSeq, tAsg, tRet, tOp, tUn, tVar, tC, rI, rI0, rU, gName, L2.start, tIfS, tTest, rEq, rNe, scal, tNext, tCall, tCons, tNil, tCB, tIf, tAnd, L2.tOr, tNot, tB, tAndV, tOrV, tNotV, tChain, tLst, tDrop, rIxH, upd_same, cxK, tIsN, sFld, tFld, Evl.rListS] using hb
        refine ⟨rfl, ⟨_, rfl⟩, fun j hj => ?_⟩
        rcases Nat.lt_succ_iff_lt_or_eq.mp hj with h | h
        · exact h0 j h
        · rw [h]
          exact hp
    · rintro σ' H' ⟨rfl, ⟨y, rfl⟩, h0⟩
      have hu : Sm.uneven ks = none := find_no h0
      rw [hu] at q
      exact q
end
end Sr
/-! # L6 -/
namespace Sr
open PySem PySem.Spec PyProof.Rows L2
open Evl (Ex Ev EvL EvU EvT EvA RetL RetV)
section
variable {P : Program} {w : World} {K : PySem.W.Frag} {mg : Str → Option Value} {base : Heap} {f : Addr} {fd : FuncData}
theorem cut_from (xs : List V) (k : Nat) : cutV xs (some (k : Int)) none = xs.drop k := by
  unfold cutV
  rw [HT.sIx_nat, HT.sIx_none]
  by_cases h : k ≤ xs.length
  · rw [Nat.min_eq_left h]
    exact List.take_of_length_le (by simp)
  · rw [Nat.min_eq_right (by omega), List.drop_eq_nil_of_le (Nat.le_refl _), List.drop_eq_nil_of_le (by omega)]
    simp
def spStraight (K : PySem.W.Frag) : Sp := fun vs H Q _ => ∃ (a : Addr) (rs : List Addr) (nss : List (List Int)), vs = [.ref a] ∧ H a = some (.lst (rs.map V.ref)) ∧ RowsL H rs nss ∧ rs.length ≤ 1000 ∧ ∀ H', Ex H H' → Q (.bl (Sm.isStraight nss)) H'
theorem ok_is_straight (F : FnP K "is_straight" "is_straight" s_is_straight f fd) (B : Bi mg) : FnOk P w K mg base CX0 1 f fd ["rows"] (spStraight K) := by
  refine F.ok sc_is_straight (fun vs H Q E h => ?_) (fun cdv A outer s H vs Q E hr h => ⟨_, PSs.nox
   (pss_one (ps_ret (pe_not (pe_callB (cr_any rfl) rfl B.any_ boot_any (pa_cons (pe_lc (own := [("at", 1), ("row", 2)]) (g := gTup K 2 (gCons (gName 1) (gCons (gName 2) gNil))) (tt := tYes) rfl sc_is_straight.nd (pi_enum rfl B.enumerate_ (pa_cons (pv 0) pa_nil)) (blkOk_by (N := n_is_straight) (sc := defScope s_is_straight) (by decide +kernel)) (fun _ _ _ _ _ => (pg_tup rfl (pgs_cons (pg_name (i := 1) sc_is_straight.nd rfl (Or.inl rfl)) (pgs_cons (pg_name (i := 2) sc_is_straight.nd rfl (Or.inl rfl)) pgs_nil)))) (fun _ _ _ _ _ => pts_nil) (fun _ _ _ _ _ => (pe_callB (r := rAnyI K) (cr_anyI rfl) rfl B.any_ boot_any (pa_cons (pe_slice (r := rSlL K) sl_list (pv 2) (po_some (pe_op op_add (pv 1) pe_int)) po_none) pa_nil)))) pa_nil))))), ?_⟩)
  · obtain ⟨a, rs, nss, rfl, _⟩ := h
    rfl
  · obtain ⟨a, rs, nss, rfl, ha, hr, hl, q⟩ := h
    simp only [tRet, tNotV, tCB, tCons, tNil]
    simp only [cxK]
    have hlen := hr.len
    refine lcE (fun i y => y = V.bl (((nss.getD i []).drop (i + 1)).any fun n => n != 0)) (fun H1 e Q q => ⟨_, rfl, q H1 (Ex.refl H1)⟩) (Evl.sq_of ha) (by simp; omega) (fun x y => rfl) (fun i x H1 e1 hx H2 e2 Q q => ?_) H (Ex.refl H) _ ?_
    · rw [List.getElem?_map] at hx
      cases hx2 : rs[i]? with
      | none =>
        rw [hx2] at hx
        cases hx
      | some r =>
        rw [hx2] at hx
        cases hx
        obtain ⟨ns, g1, g2⟩ := hr.get hx2
        have hsl : EvL (tSl (rSlL K) (tVar 2) (tPart (tOp (rI0 fun i j => V.int (i + j)) (tVar 1) (tC (V.int 1)))) tNoPart) [some (.ref a), some (.int (i : Nat)), some (.ref r)] H2 (cutV (ns.map V.int) (some ((i : Int) + 1)) none) :=
          Evl.el_sl (Evl.ev_var rfl) (Evl.eo_some (Evl.ev_op (Evl.ev_var rfl) Evl.ev_c Evl.rv_I0)) Evl.eo_none (Evl.sq_of ((e1.trans e2) _ _ g2))
        refine hsl H2 (Ex.refl H2) _ fun p H3 hp e3 h3 => ?_
        have e : cutV (ns.map V.int) (some ((i : Int) + 1)) none = (ns.drop (i + 1)).map V.int := by
          rw [show ((i : Int) + 1) = ((i + 1 : Nat) : Int) by omega, cut_from, List.map_drop]
        rw [e] at h3
        refine ⟨p, ns.drop (i + 1), rfl, Evl.sq_of h3, q _ H3 e3 ?_⟩
        simp [List.getD_eq_getElem?_getD, g1]
    · rintro _ H2 e2 ⟨p, ys, rfl, hp, hp2, hyl, hys⟩
      have hy : ys = ((List.range nss.length).map fun i => ((nss.getD i []).drop (i + 1)).any fun n => n != 0).map V.bl := by
        rw [List.length_map, hlen] at hyl
        apply List.ext_getElem?
        intro k
        rw [List.getElem?_map, List.getElem?_map]
        cases hk : ys[k]? with
        | none =>
          have : nss.length ≤ k := by
            have := List.getElem?_eq_none_iff.mp hk
            omega
          rw [List.getElem?_eq_none (by simpa using this)]
          rfl
        | some y =>
          have hlt : k < nss.length := by
            have := (List.getElem?_eq_some_iff.mp hk).1
            omega
          rw [hys k y hk, List.getElem?_range hlt]
          rfl
      rw [hy] at hp2
      refine ⟨p, _, rfl, Evl.sq_of hp2, _, rfl, ?_⟩
      have z := q H2 e2
      unfold Sm.isStraight at z
      rw [List.any_map]
      exact z
end
end Sr
/-! # S0 -/
namespace Sr
open PySem PySem.Spec PyProof.Rows L2
open Evl (Ex)
theorem hu1 {A : Around} {k : Nat} (hr : Room k A) : A.units + 1 < cLine := by have := hr.un; omega
theorem pe_fldK {X : Cx} {K1 : PySem.W.Frag} {e : Expr} {fn : Str} {pos : Pos} {ta : TE} (hk : X.K = K1) (he : PE X e ta) (hb : attributeBase e fn X.env (eval e X.env) = eval e X.env) : PE X (.Attribute e fn pos) (tFld K1 ta fn) := by
  subst hk
  exact pe_fld he hb
theorem ifT {b : Bool} {A B : Prop} (hb : b = true) (h : A) : if b = true then A else B := by
  rw [if_pos hb]
  exact h
theorem ifF {b : Bool} {A B : Prop} (hb : b = false) (h : B) : if b = true then A else B := by
  rw [hb]
  exact h
theorem foldOk_at {z : Nat} : ∀ {L : List (Nat × Sm.Row)} {x : Sm.Row} {i : Nat} {q : Nat × Sm.Row}, Sm.FoldOk z L x → L[i]? = some q → Sm.Lim z ((L.take i).foldl Sm.redR x) ∧ Sm.Lim z q.2
  | _ :: _, _, 0, _, h, e => by
    cases e
    exact ⟨h.1, h.2.1⟩
  | p :: L, x, i + 1, _, h, e => foldOk_at (L := L) (x := Sm.redR x p) (i := i) h.2.2 e
  | [], _, _, _, _, e => by simp at e
theorem fold_take {L : List (Nat × Sm.Row)} {x : Sm.Row} {i : Nat} {q : Nat × Sm.Row} (e : L[i]? = some q) : (L.take (i + 1)).foldl Sm.redR x = Sm.redR ((L.take i).foldl Sm.redR x) q := by
  rw [List.take_succ, e, List.foldl_append]
  rfl
/-! ### stairs in the heap -/
abbrev zL (z : Nat) : Prop := z < 2 ^ 60000001
theorem mulZ {z : Nat} (hz : zL z) {x y : Int} (hx : x.natAbs ≤ z) (hy : y.natAbs ≤ z) : IntMulOk x y :=
  mulOk_of (Nat.lt_of_le_of_lt hx hz) (Nat.lt_of_le_of_lt hy hz) (by decide) (by decide) (by decide)
theorem mulZ1 {z : Nat} (hz : zL z) {x y : Int} (hx : x.natAbs ≤ 2) (hy : y.natAbs ≤ z) : IntMulOk x y :=
  mulOk_of (a := 2) (Nat.lt_of_le_of_lt hx (by decide)) (Nat.lt_of_le_of_lt hy hz) (by decide) (by decide) (by decide)
theorem lim_mem {z : Nat} {r : Sm.Row} (h : Sm.Lim z r) : ∀ x ∈ r, x.natAbs ≤ z := fun x hx => by
  obtain ⟨i, hi, rfl⟩ := List.mem_iff_getElem.mp hx
  have := h i
  unfold Sm.gf at this
  rw [List.getD_eq_getElem?_getD, List.getElem?_eq_getElem hi] at this
  exact this
theorem atI_gf {r : Sm.Row} {i : Nat} (h : i < r.length) : atI (r.map V.int) (i : Int) = some (V.int (Sm.gf r i)) := by
  unfold atI ixN Sm.gf
  rw [if_pos (by omega), if_pos (by simp; omega)]
  simp [List.getD_eq_getElem?_getD, h]
/-- pairs of a number and a row -/
def PrA (H : Hp) : List Addr → List (Nat × Sm.Row) → Prop
  | [], [] => True
  | t :: ts, q :: L => (∃ r, H t = some (.tup [.int (q.1 : Int), .ref r]) ∧ H r = some (.lst (q.2.map V.int))) ∧ PrA H ts L
  | _, _ => False
section
variable {H H' : Hp}
theorem PrA.ex (e : Ex H H') : ∀ {ts : List Addr} {L : List (Nat × Sm.Row)}, PrA H ts L → PrA H' ts L
  | [], [], _ => trivial
  | _ :: _, _ :: _, h => ⟨h.1.elim fun r h => ⟨r, e _ _ h.1, e _ _ h.2⟩, PrA.ex e h.2⟩
  | [], _ :: _, h => h.elim
  | _ :: _, [], h => h.elim
theorem PrA.len : ∀ {ts : List Addr} {L : List (Nat × Sm.Row)}, PrA H ts L → ts.length = L.length
  | [], [], _ => rfl
  | _ :: _, _ :: _, h => congrArg (· + 1) (PrA.len h.2)
  | [], _ :: _, h => h.elim
  | _ :: _, [], h => h.elim
theorem PrA.get : ∀ {ts : List Addr} {L : List (Nat × Sm.Row)} {i : Nat} {t : Addr}, PrA H ts L → ts[i]? = some t → ∃ q r, L[i]? = some q ∧ H t = some (.tup [.int (q.1 : Int), .ref r]) ∧ H r = some (.lst (q.2.map V.int))
  | _ :: _, _ :: _, 0, _, h, e => by
    cases e
    obtain ⟨r, h1, h2⟩ := h.1
    exact ⟨_, r, rfl, h1, h2⟩
  | _ :: _, _ :: _, i + 1, _, h, e => PrA.get (i := i) h.2 e
  | [], _ :: _, _, _, h, _ => h.elim
  | _ :: _, [], _, _, h, _ => h.elim
  | [], [], _, _, _, e => by simp at e
theorem PrA.app {ts2 : List Addr} {L2 : List (Nat × Sm.Row)} (h2 : PrA H ts2 L2) : ∀ {ts : List Addr} {L : List (Nat × Sm.Row)}, PrA H ts L → PrA H (ts ++ ts2) (L ++ L2)
  | [], [], _ => h2
  | _ :: _, _ :: _, h => ⟨h.1, PrA.app h2 h.2⟩
  | [], _ :: _, h => h.elim
  | _ :: _, [], h => h.elim
/-- but for an address that is no pair and no row -/
theorem PrA.updP {p : Addr} {o : HO} : ∀ {ts : List Addr} {L : List (Nat × Sm.Row)}, PrA H ts L → (∀ t ∈ ts, t ≠ p ∧ ∀ v r, H t = some (.tup [v, .ref r]) → r ≠ p) → PrA (L2.upd H p o) ts L
  | [], [], _, _ => trivial
  | t :: _, _ :: _, h, k => ⟨h.1.elim fun r h => ⟨r, by rw [upd_ne (k t (by simp)).1]; exact h.1, by rw [upd_ne ((k t (by simp)).2 _ _ h.1)]; exact h.2⟩, PrA.updP h.2 fun q hq => k q (by simp [hq])⟩
  | [], _ :: _, h, _ => h.elim
  | _ :: _, [], h, _ => h.elim
end
theorem colsB_nil {S : Sm.Sts} {a : Nat} : S.colsB a a = [] := by
  unfold Sm.Sts.colsB
  rw [Nat.sub_self]
  rfl
theorem nodup_lt : ∀ (n : Nat) (ks : List Nat), ks.Nodup → (∀ c ∈ ks, c < n) → ks.length ≤ n
  | 0, [], _, _ => Nat.le_refl _
  | 0, k :: _, _, h => absurd (h k (by simp)) (Nat.not_lt_zero _)
  | n + 1, ks, hn, h => by
    have ih := nodup_lt n (ks.erase n) (hn.erase n) fun c hc => by
      have h1 := (hn.mem_erase_iff.mp hc)
      have := h c h1.2
      omega
    rw [List.length_erase] at ih
    split at ih <;> omega
/-- the dict of steps -/
structure DicA (H : Hp) (kvs : List (L2.Key × V)) (S : Sm.Sts) : Prop where
  keys : ∃ ks : List Nat, kvs.map (·.1) = ks.map (fun c : Nat => (Sum.inl (c : Int) : L2.Key)) ∧ ks.Nodup ∧ ∀ c ∈ ks, c < S.w
  no : ∀ c : Nat, S.st c = none → valV kvs (Sum.inl (c : Int)) = none
  yes : ∀ (c : Nat) (row : Sm.Row), S.st c = some row → ∃ r, valV kvs (Sum.inl (c : Int)) = some (.ref r) ∧ H r = some (.lst (row.map V.int))
structure StA (H : Hp) (C x d l : Addr) (S : Sm.Sts) : Prop where
  obj : ∃ dx, H x = some (.ins C dx [("_width", .int (S.w : Int)), ("_many", .int (S.m : Int)), ("_steps", .ref d), ("_idle", .ref l)])
  dic : ∃ kvs, H d = some (.dK kvs) ∧ DicA H kvs S
  idl : ∃ ts, H l = some (.lst (ts.map V.ref)) ∧ PrA H ts S.idle
/-- what is needed of stairs to go on -/
structure Sn (S : Sm.Sts) : Prop where
  w : S.w ≤ 40
  m : S.m ≤ 40
  idl : S.idle.length ≤ 40
  gens : ∀ q ∈ S.gens, q.2.length = S.w + S.m ∧ 0 < Sm.gf q.2 q.1 ∧ q.1 < S.w + S.m
theorem sn_of {R : Nat → Sm.Vec} {k : Nat} {S : Sm.Sts} (G : Sm.Good R k S) (hw : S.w ≤ 40) (hm : S.m ≤ 40) (hk : k ≤ S.m) (hi : S.idle.length ≤ 40) : Sn S := by
  refine ⟨hw, hm, hi, fun q hq => ⟨G.len q hq, G.piv q hq, ?_⟩⟩
  rcases Sm.mem_gens.mp hq with h | h
  · have := h.1
    omega
  · have := (G.idw q h).2.2
    omega
section
variable {H H' : Hp} {C x d l : Addr} {S : Sm.Sts} {kvs : List (L2.Key × V)}
theorem DicA.ex (e : Ex H H') (h : DicA H kvs S) : DicA H' kvs S := ⟨h.keys, h.no, fun c row hc => (h.yes c row hc).elim fun r h => ⟨r, h.1, e _ _ h.2⟩⟩
theorem StA.ex (e : Ex H H') (h : StA H C x d l S) : StA H' C x d l S :=
  ⟨h.obj.elim fun dx h => ⟨dx, e _ _ h⟩, h.dic.elim fun kvs h => ⟨kvs, e _ _ h.1, h.2.ex e⟩, h.idl.elim fun ts h => ⟨ts, e _ _ h.1, h.2.ex e⟩⟩
theorem DicA.get (h : DicA H kvs S) (c : Nat) : (S.st c = none ∧ valV kvs (Sum.inl (c : Int)) = none) ∨ ∃ row r, S.st c = some row ∧ valV kvs (Sum.inl (c : Int)) = some (.ref r) ∧ H r = some (.lst (row.map V.int)) := by
  cases e : S.st c with
  | none => exact .inl ⟨rfl, h.no c e⟩
  | some row =>
    obtain ⟨r, h1, h2⟩ := h.yes c row e
    exact .inr ⟨row, r, rfl, h1, h2⟩
theorem DicA.len (h : DicA H kvs S) : kvs.length ≤ S.w := by
  obtain ⟨ks, h1, h2, h3⟩ := h.keys
  have := nodup_lt S.w ks h2 h3
  have e := congrArg List.length h1
  rw [List.length_map, List.length_map] at e
  omega
theorem DicA.lt (h : DicA H kvs S) {c : Nat} {row : Sm.Row} (hc : S.st c = some row) : c < S.w := by
  obtain ⟨ks, h1, h2, h3⟩ := h.keys
  obtain ⟨r, g1, _⟩ := h.yes c row hc
  have h4 : (kvs.any fun kv => decide (kv.1 = (Sum.inl (c : Int) : L2.Key))) = true := by rw [valV_any, g1]; rfl
  rw [List.any_eq_true] at h4
  obtain ⟨kv, hkv, e⟩ := h4
  have e := of_decide_eq_true e
  have : kv.1 ∈ kvs.map (·.1) := List.mem_map.mpr ⟨kv, hkv, rfl⟩
  rw [h1, e] at this
  obtain ⟨a, ha, e2⟩ := List.mem_map.mp this
  injection e2 with e2
  have : a = c := by omega
  exact this ▸ h3 a ha
/-- a step put -/
theorem DicA.put (h : DicA H kvs S) {c : Nat} {row : Sm.Row} {r : Addr} (hc : c < S.w) (hr : H r = some (.lst (row.map V.int))) : DicA H (putK kvs (Sum.inl (c : Int)) (.ref r)) (S.put c row) := by
  have inj : ∀ a b : Nat, (Sum.inl (a : Int) : L2.Key) = Sum.inl (b : Int) ↔ a = b := fun a b => ⟨fun e => by injection e with e; omega, fun e => by rw [e]⟩
  refine ⟨?_, fun b hb => ?_, fun b row' hb => ?_⟩
  · obtain ⟨ks, h1, h2, h3⟩ := h.keys
    unfold putK
    by_cases hm : c ∈ ks
    · have hany : (kvs.any fun kv => decide (kv.1 = (Sum.inl (c : Int) : L2.Key))) = true := by
        rw [List.any_eq_true]
        have : (Sum.inl (c : Int) : L2.Key) ∈ kvs.map (·.1) := by rw [h1]; exact List.mem_map.mpr ⟨c, hm, rfl⟩
        obtain ⟨kv, hkv, e⟩ := List.mem_map.mp this
        exact ⟨kv, hkv, by simp [e]⟩
      rw [if_pos hany]
      refine ⟨ks, ?_, h2, h3⟩
      rw [List.map_map, ← h1]
      refine List.map_congr_left fun kv _ => ?_
      show (if kv.1 = _ then (kv.1, V.ref r) else kv).1 = kv.1
      split <;> rfl
    · have hany : ¬ (kvs.any fun kv => decide (kv.1 = (Sum.inl (c : Int) : L2.Key))) = true := by
        rw [List.any_eq_true]
        rintro ⟨kv, hkv, e⟩
        have e := of_decide_eq_true e
        have : kv.1 ∈ kvs.map (·.1) := List.mem_map.mpr ⟨kv, hkv, rfl⟩
        rw [h1, e] at this
        obtain ⟨a, ha, e2⟩ := List.mem_map.mp this
        exact hm (((inj a c).mp e2) ▸ ha)
      rw [if_neg hany]
      refine ⟨ks ++ [c], by rw [List.map_append, List.map_append, h1]; rfl, ?_, fun a ha => ?_⟩
      · rw [List.nodup_append]
        refine ⟨h2, by simp, fun a ha b hb => ?_⟩
        rw [List.mem_singleton.mp hb]
        exact fun e => hm (e ▸ ha)
      · rcases List.mem_append.mp ha with ha | ha
        · exact h3 a ha
        · rw [List.mem_singleton.mp ha]
          exact hc
  · rw [Sm.put_st] at hb
    rw [valV_put]
    by_cases e : b = c
    · rw [if_pos e] at hb
      cases hb
    · rw [if_neg e] at hb
      rw [if_neg (fun z => e ((inj b c).mp z))]
      exact h.no b hb
  · rw [Sm.put_st] at hb
    rw [valV_put]
    by_cases e : b = c
    · rw [if_pos e] at hb
      rw [if_pos ((inj b c).mpr e), ← Option.some.inj hb]
      exact ⟨r, rfl, hr⟩
    · rw [if_neg e] at hb
      rw [if_neg (fun z => e ((inj b c).mp z))]
      exact h.yes b row' hb
/-- a new dict at d -/
theorem DicA.updD {p : Addr} {o : HO} (h : DicA H kvs S) (hp : ∀ xs, H p ≠ some (.lst xs)) : DicA (upd H p o) kvs S :=
  ⟨h.keys, h.no, fun c row hc => (h.yes c row hc).elim fun r h => ⟨r, h.1, by rw [upd_ne (fun z => hp _ (by rw [← z]; exact h.2))]; exact h.2⟩⟩
theorem PrA.updD {p : Addr} {o : HO} {ts : List Addr} {L : List (Nat × Sm.Row)} (h : PrA H ts L) (hp : ∀ xs, H p ≠ some (.lst xs)) (hp2 : ∀ xs, H p ≠ some (.tup xs)) : PrA (upd H p o) ts L := by
  refine h.updP fun t ht => ⟨fun z => ?_, fun v r hr z => ?_⟩
  · obtain ⟨i, hi⟩ := List.mem_iff_getElem?.mp ht
    obtain ⟨q, r, _, h1, _⟩ := h.get hi
    exact hp2 _ (by rw [← z]; exact h1)
  · obtain ⟨i, hi⟩ := List.mem_iff_getElem?.mp ht
    obtain ⟨q, r', _, h1, h2⟩ := h.get hi
    rw [h1] at hr
    injection hr with hr
    injection hr with hr
    simp only [List.cons.injEq, V.ref.injEq] at hr
    exact hp _ (by rw [← z, ← hr.2.1]; exact h2)
theorem StA.put (h : StA H C x d l S) {kvs : List (L2.Key × V)} (hd : H d = some (.dK kvs)) {c : Nat} {row : Sm.Row} {r : Addr} (hc : c < S.w) (hr : H r = some (.lst (row.map V.int))) : StA (upd H d (.dK (putK kvs (Sum.inl (c : Int)) (.ref r)))) C x d l (S.put c row) := by
  have dl : ∀ xs, H d ≠ some (.lst xs) := fun xs z => by rw [hd] at z; cases z
  have dt : ∀ xs, H d ≠ some (.tup xs) := fun xs z => by rw [hd] at z; cases z
  refine ⟨?_, ⟨_, upd_same, ?_⟩, ?_⟩
  · obtain ⟨dx, ho⟩ := h.obj
    exact ⟨dx, by rw [upd_ne (fun z => by rw [z, hd] at ho; cases ho)]; exact ho⟩
  · obtain ⟨kvs', h1, h2⟩ := h.dic
    rw [hd] at h1
    cases h1
    exact (h2.put hc hr).updD dl
  · obtain ⟨ts, h1, h2⟩ := h.idl
    exact ⟨ts, by rw [upd_ne (fun z => dl _ (by rw [← z]; exact h1))]; exact h1, h2.updD dl dt⟩
/-- a row is not the list of idle ones -/
theorem row_ne {r : Addr} {row : Sm.Row} {ts : List Addr} (hr : H r = some (.lst (row.map V.int))) (h0 : row ≠ []) (hl : H l = some (.lst (ts.map V.ref))) : r ≠ l := fun z => by
  rw [z, hl] at hr
  injection hr with hr
  injection hr with hr
  cases row with
  | nil => exact h0 rfl
  | cons n ns =>
    cases ts with
    | nil => simp at hr
    | cons t ts => simp at hr
/-- a row more that comes to noughts -/
theorem StA.idle (h : StA H C x d l S) {ts : List Addr} (hl : H l = some (.lst (ts.map V.ref))) {t r : Addr} {c : Nat} {row : Sm.Row} (ht : H t = some (.tup [.int (c : Int), .ref r])) (hr : H r = some (.lst (row.map V.int))) (n0 : 0 < S.w + S.m) (hrl : row.length = S.w + S.m) (hg : ∀ q ∈ S.gens, q.2.length = S.w + S.m)
    (hst : ∀ c row, S.st c = some row → c < S.w) : StA (upd H l (.lst ((t :: ts).map V.ref))) C x d l { S with idle := (c, row) :: S.idle } := by
  obtain ⟨dx, ho⟩ := h.obj
  obtain ⟨kvs, hd, hD⟩ := h.dic
  obtain ⟨ts', h1, h2⟩ := h.idl
  have e : ts' = ts := by
    rw [hl] at h1
    injection h1 with h1
    injection h1 with h1
    exact (refs_inj h1).symm
  subst e
  have nl : ∀ (q : Nat × Sm.Row) (r : Addr), q.2.length = S.w + S.m → H r = some (.lst (q.2.map V.int)) → r ≠ l := fun q r hq hr => row_ne hr (fun z => by rw [z] at hq; simp at hq; omega) hl
  refine ⟨⟨dx, by rw [upd_ne (fun z => by rw [z, hl] at ho; cases ho)]; exact ho⟩, ⟨kvs, by rw [upd_ne (fun z => by rw [z, hl] at hd; cases hd)]; exact hd, ⟨hD.keys, hD.no, fun b row' hb => ?_⟩⟩, ⟨t :: ts', upd_same, ⟨r, by rw [upd_ne (fun z => by rw [z, hl] at ht; cases ht)]; exact ht, by rw [upd_ne (nl (c, row) r hrl hr)]; exact hr⟩, ?_⟩⟩
  · obtain ⟨r', g1, g2⟩ := hD.yes b row' hb
    exact ⟨r', g1, by rw [upd_ne (nl (b, row') r' (hg (b, row') (Sm.mem_gens.mpr (.inl ⟨hst b row' hb, hb⟩))) g2)]; exact g2⟩
  · refine h2.updP fun t' ht' => ⟨fun z => ?_, fun v r' hr' z => ?_⟩
    · obtain ⟨i, hi⟩ := List.mem_iff_getElem?.mp ht'
      obtain ⟨q, r'', _, g1, _⟩ := h2.get hi
      rw [z, hl] at g1
      cases g1
    · obtain ⟨i, hi⟩ := List.mem_iff_getElem?.mp ht'
      obtain ⟨q, r'', g0, g1, g2⟩ := h2.get hi
      rw [g1] at hr'
      injection hr' with hr'
      injection hr' with hr'
      simp only [List.cons.injEq, V.ref.injEq] at hr'
      have hq : q ∈ S.gens := Sm.mem_gens.mpr (.inr (List.mem_of_getElem? g0))
      exact nl q r' (hg q hq) (by rw [← hr'.2.1]; exact g2) z
/-- what stays but for the dict and the list -/
def Fr (d l : Addr) (H H' : Hp) : Prop := ∀ b o, b ≠ d → b ≠ l → H b = some o → H' b = some o
theorem Fr.refl : Fr d l H H := fun _ _ _ _ h => h
theorem Fr.trans {H'' : Hp} (a : Fr d l H H') (b : Fr d l H' H'') : Fr d l H H'' := fun p o h1 h2 h => b p o h1 h2 (a p o h1 h2 h)
theorem Fr.of_ex (e : Ex H H') : Fr d l H H' := fun b o _ _ h => e b o h
theorem Fr.updD {o : HO} : Fr d l H (upd H d o) := fun b o h1 _ h => by rw [upd_ne h1]; exact h
theorem Fr.updL {o : HO} : Fr d l H (upd H l o) := fun b o _ h1 h => by rw [upd_ne h1]; exact h
/-- new behind a frame: new ahead -/
theorem Fr.back {H'' : Hp} {p : Addr} {o : HO} (a : Fr d l H H') (h : H' p = none) (hd : ∃ o, H' d = some o) (hl : ∃ o, H' l = some o) : H p = none := by
  cases e : H p with
  | none => rfl
  | some o =>
    exfalso
    have h1 : p ≠ d := fun z => by rw [z] at h; obtain ⟨o, ho⟩ := hd; rw [h] at ho; cases ho
    have h2 : p ≠ l := fun z => by rw [z] at h; obtain ⟨o, ho⟩ := hl; rw [h] at ho; cases ho
    rw [a p o h1 h2 e] at h
    cases h
end
end Sr
/-! # S1 -/
namespace Sr
open PySem PySem.Spec PyProof.Rows L2
open Evl (Ex Ev EvL EvU EvT EvA RetL RetV)
abbrev s_Stairs_init : Stmt := inClass (topS 19) 0
abbrev n_Stairs_init : List Str := ["self", "width", "rows", "at", "row"]
theorem sc_Stairs_init : FnScope n_Stairs_init ["self", "width", "rows"] (defScope s_Stairs_init) := ⟨rfl, rfl, rfl, by decide +kernel, rfl, by decide +kernel, by decide +kernel⟩
abbrev s_Stairs_lay : Stmt := inClass (topS 19) 1
abbrev n_Stairs_lay : List Str := ["self", "at", "long", "column", "sign", "number"]
theorem sc_Stairs_lay : FnScope n_Stairs_lay ["self", "at", "long"] (defScope s_Stairs_lay) := ⟨rfl, rfl, rfl, by decide +kernel, rfl, by decide +kernel, by decide +kernel⟩
abbrev s_Stairs_met : Stmt := inClass (topS 19) 2
abbrev n_Stairs_met : List Str := ["self", "column", "long", "step", "part", "times", "others"]
theorem sc_Stairs_met : FnScope n_Stairs_met ["self", "column", "long"] (defScope s_Stairs_met) := ⟨rfl, rfl, rfl, by decide +kernel, rfl, by decide +kernel, by decide +kernel⟩
abbrev s_Stairs_tidied : Stmt := inClass (topS 19) 3
abbrev n_Stairs_tidied : List Str := ["self", "long", "start", "steps", "column", "step", "many"]
theorem sc_Stairs_tidied : FnScope n_Stairs_tidied ["self", "long", "start"] (defScope s_Stairs_tidied) := ⟨rfl, rfl, rfl, by decide +kernel, rfl, by decide +kernel, by decide +kernel⟩
abbrev s_Stairs_tidy : Stmt := inClass (topS 19) 4
abbrev n_Stairs_tidy : List Str := ["self", "column"]
theorem sc_Stairs_tidy : FnScope n_Stairs_tidy ["self"] (defScope s_Stairs_tidy) := ⟨rfl, rfl, rfl, by decide +kernel, rfl, by decide +kernel, by decide +kernel⟩
abbrev s_Stairs_steps : Stmt := inClass (topS 19) 5
abbrev n_Stairs_steps : List Str := ["self", "column"]
theorem sc_Stairs_steps : FnScope n_Stairs_steps ["self"] (defScope s_Stairs_steps) := ⟨rfl, rfl, rfl, by decide +kernel, rfl, by decide +kernel, by decide +kernel⟩
abbrev s_Stairs_step_times : Stmt := inClass (topS 19) 6
abbrev n_Stairs_step_times : List Str := ["self", "column"]
theorem sc_Stairs_step_times : FnScope n_Stairs_step_times ["self"] (defScope s_Stairs_step_times) := ⟨rfl, rfl, rfl, by decide +kernel, rfl, by decide +kernel, by decide +kernel⟩
abbrev s_Stairs_idle_times : Stmt := inClass (topS 19) 7
abbrev n_Stairs_idle_times : List Str := ["self", "_", "long"]
theorem sc_Stairs_idle_times : FnScope n_Stairs_idle_times ["self"] (defScope s_Stairs_idle_times) := ⟨rfl, rfl, rfl, by decide +kernel, rfl, by decide +kernel, by decide +kernel⟩
abbrev s_Stairs_rest : Stmt := inClass (topS 19) 8
abbrev n_Stairs_rest : List Str := ["self", "row"]
theorem sc_Stairs_rest : FnScope n_Stairs_rest ["self", "row"] (defScope s_Stairs_rest) := ⟨rfl, rfl, rfl, by decide +kernel, rfl, by decide +kernel, by decide +kernel⟩
abbrev s_Stairs_times : Stmt := inClass (topS 19) 9
abbrev n_Stairs_times : List Str := ["self", "row", "long", "number"]
theorem sc_Stairs_times : FnScope n_Stairs_times ["self", "row"] (defScope s_Stairs_times) := ⟨rfl, rfl, rfl, by decide +kernel, rfl, by decide +kernel, by decide +kernel⟩
/-- what the class Stairs must say -/
structure Sc (K : PySem.W.Frag) (C : Addr) : Prop where
  cl : Cls K C
  nW : NoAttr K C "_width"
  nM : NoAttr K C "_many"
  nS : NoAttr K C "_steps"
  nI : NoAttr K C "_idle"
section
variable {P : Program} {w : World} {K : PySem.W.Frag} {mg : Str → Option Value} {base : Heap} {f : Addr} {fd : FuncData}
abbrev fsS (S : Sm.Sts) (d l : Addr) : List (Str × V) := [("_width", .int (S.w : Int)), ("_many", .int (S.m : Int)), ("_steps", .ref d), ("_idle", .ref l)]
theorem lkW (S : Sm.Sts) (d l : Addr) : List.lookup (α := Str) "_width" (fsS S d l) = some (V.int (S.w : Int)) := by
  simp [fsS, List.lookup]
theorem lkM (S : Sm.Sts) (d l : Addr) : List.lookup (α := Str) "_many" (fsS S d l) = some (V.int (S.m : Int)) := by
  have h1 : (("_many" : Str) == "_width") = false := by decide +kernel
  simp [fsS, List.lookup, h1]
theorem lkS (S : Sm.Sts) (d l : Addr) : List.lookup (α := Str) "_steps" (fsS S d l) = some (V.ref d) := by
  have h1 : (("_steps" : Str) == "_width") = false := by decide +kernel
  have h2 : (("_steps" : Str) == "_many") = false := by decide +kernel
  simp [fsS, List.lookup, h1, h2]
theorem lkI (S : Sm.Sts) (d l : Addr) : List.lookup (α := Str) "_idle" (fsS S d l) = some (V.ref l) := by
  have h1 : (("_idle" : Str) == "_width") = false := by decide +kernel
  have h2 : (("_idle" : Str) == "_many") = false := by decide +kernel
  have h3 : (("_idle" : Str) == "_steps") = false := by decide +kernel
  simp [fsS, List.lookup, h1, h2, h3]
theorem lkN (S : Sm.Sts) (d l : Addr) {m : Str} (h1 : (m == ("_width" : Str)) = false) (h2 : (m == ("_many" : Str)) = false) (h3 : (m == ("_steps" : Str)) = false) (h4 : (m == ("_idle" : Str)) = false) : List.lookup m (fsS S d l) = none := by
  simp [fsS, List.lookup, h1, h2, h3, h4]
def spTid (C : Addr) : Sp := fun vs H Q _ => ∃ (x d l p : Addr) (S : Sm.Sts) (x0 : Sm.Row) (a z : Nat), vs = [.ref x, .ref p, .int (a : Int)] ∧ StA H C x d l S ∧ Sn S ∧ zL z ∧ H p = some (.lst (x0.map V.int)) ∧ x0.length = S.w + S.m ∧ a ≤ S.w ∧ Sm.FoldOk z (S.cols a ++ S.idle) x0 ∧
  ∀ q H', Ex H H' → H' q = some (.lst ((S.tidied x0 a).map V.int)) → (q = p ∨ H q = none) → Q (.ref q) H'
theorem ok_tidied {C : Addr} (F : FnP K "_tidied" "Stairs._tidied" s_Stairs_tidied f fd) (B : Bi mg) (hN : base.NoSeer) (hT : P.given.tree = none) (c : Sc K C) (D_mixed : Df P w K mg base CX0 33 "mixed" ["times", "row", "others", "other"] (spMix K)) :
    FnOk P w K mg base CX0 34 f fd ["self", "long", "start"] (spTid C) := by
  refine F.ok sc_Stairs_tidied (fun vs H Q E h => ?_) (fun cdv A outer s H vs Q E hr h => ⟨_, PSs.nox
   (pss_cons (ps_setLc (i := 3) (own := [("column", 4)]) (g := gName 4) rfl sc_Stairs_tidied.nd rfl rfl (sw_true rfl rfl rfl (by decide +kernel)) (pi_range2 rfl B.range_ (pa_cons (pv 2) (pa_cons (pe_fld (pv 0) rfl) pa_nil))) (blkOk_by (N := n_Stairs_tidied) (sc := defScope s_Stairs_tidied) (by decide +kernel)) (fun _ _ _ _ _ => (pg_name (i := 4) sc_Stairs_tidied.nd rfl (Or.inl rfl))) (fun _ _ _ _ _ => (pts_one (pt_cmp (pc_din (by exact hu1 hr) (pv 4) (pe_fldK (K1 := K) rfl (pv 0) rfl))))) (fun _ _ _ _ _ => (pe_tup (pa_cons (pv 4) (pa_cons (pe_dget (by exact hu1 hr) (pe_fldK (K1 := K) rfl (pv 0) rfl) (pv 4) (fun _ _ => rfl)) pa_nil)))))
      (pss_cons (ps_for PassesOwn.never rfl (pi_list (pe_op op_cat (pv 3) (pe_fld (pv 0) rfl))) (pg_tup rfl (pgs_cons (pg_name (i := 4) sc_Stairs_tidied.nd rfl (Or.inl rfl)) (pgs_cons (pg_name (i := 5) sc_Stairs_tidied.nd rfl (Or.inl rfl)) pgs_nil)))
      (pss_cons (ps_set (i := 6) sc_Stairs_tidied.nd rfl (Or.inl rfl) (pe_op (op_fdivZ (big_of hr (by decide) hN hT)) (pe_ix ix_list (pv 1) (pv 4) (fun _ _ => rfl)) (pe_ix ix_list (pv 5) (pv 4) (fun _ _ => rfl))))
        (pss_one (ps_if (pt_cmpR op_ne (pv 6) pe_int (nomark _))
        (pss_one (ps_set (i := 1) sc_Stairs_tidied.nd rfl (Or.inl rfl) (pe_df D_mixed (hr.mono (by decide)) (pa_cons pe_int (pa_cons (pv 1) (pa_cons (pe_un un_neg (pv 6)) (pa_cons (pv 5) pa_nil)))))))
        pss_nil))))
      (pss_one (ps_ret (pv 1))))), ?_⟩)
  · obtain ⟨x, d, l, p, S, x0, a, z, rfl, _⟩ := h
    rfl
  · obtain ⟨x, d, l, p, S, x0, a, z, rfl, hS, sn, hz, hp, hl, ha, ho, k⟩ := h
    simp only [cxK]
    obtain ⟨dx, hob⟩ := hS.obj
    obtain ⟨kvs, hd, hD⟩ := hS.dic
    obtain ⟨is, hl2, hI⟩ := hS.idl
    have wz := sn.w
    refine ⟨_, rfl, _, rfl, x, C, dx, _, _, rfl, hob, c.cl, c.nW, lkW S d l, (a : Int), (S.w : Int), rfl, by omega, fun D hD0 => ?_⟩
    have en : ((S.w : Int) - (a : Int)).toNat = S.w - a := by omega
    rw [en]
    refine lc_range (lo := (a : Int)) (n := S.w - a) (fun i H' => Ex H H' ∧ ∃ ts, H' D = some (.lst (ts.map V.ref)) ∧ PrA (offH H' D) ts (S.colsB a (a + i)) ∧ ts.length ≤ i) ⟨ev_up hD0, [], upd_same, ?_, Nat.le_refl _⟩ ?_ ?_
    · rw [Nat.add_zero, colsB_nil]
      trivial
    · rintro i H' hi ⟨e, ts, h1, h2, h3⟩
      have hd' := e _ _ hd
      have hD' := hD.ex e
      have ex1 : (a : Int) + (i : Int) = ((a + i : Nat) : Int) := by omega
      rw [ex1]
      refine ⟨rfl, _, rfl, _, rfl, x, C, dx, _, _, rfl, e _ _ hob, c.cl, c.nS, lkS S d l, d, _, rfl, DGet.k (k := Sum.inl ((a + i : Nat) : Int)) hd', _, rfl, ?_⟩
      have split : S.colsB a (a + (i + 1)) = S.colsB a (a + i) ++ S.colsB (a + i) (a + i + 1) := Sm.colsB_split (by omega) (by omega)
      rcases hD.get (a + i) with ⟨g1, g2⟩ | ⟨row, r, g1, g2, g3⟩
      · rw [g2]
        refine ifF rfl ⟨e, ts, h1, ?_, by omega⟩
        rw [split, Sm.colsB_none g1, List.append_nil]
        exact h2
      · rw [g2]
        refine ifT rfl ?_
        refine ⟨_, rfl, _, rfl, x, C, dx, _, _, rfl, e _ _ hob, c.cl, c.nS, lkS S d l, _, rfl, d, .ref r, rfl, g2 ▸ DGet.k (k := Sum.inl ((a + i : Nat) : Int)) hd', Evl.sz_of (by simp), fun t ht => ?_⟩
        have tD : t ≠ D := fun z => by rw [z, h1] at ht; cases ht
        have rD : r ≠ D := fun z => by rw [z, hD0] at g3; cases g3
        have eT := ev_up (o := .tup [.int ((a + i : Nat) : Int), .ref r]) ht
        refine ⟨ts.map V.ref, eT _ _ h1, Evl.sz_lt (by simp; omega), Evl.Ex.mut (e.trans eT) hD0, ts ++ [t], by rw [upd_same, List.map_append]; rfl, ?_, by simp; omega⟩
        rw [offH_upd, split, Sm.colsB_one g1]
        refine PrA.app (ts2 := [t]) (L2 := [(a + i, row)]) (show (∃ r, _ ∧ _) ∧ True from ⟨⟨r, ?_, ?_⟩, trivial⟩) (h2.ex (offH_ex eT))
        · unfold offH
          rw [if_neg tD, upd_same]
        · unfold offH
          rw [if_neg rD]
          exact eT _ _ (e _ _ g3)
    · rintro H1 ⟨e, ts, h1, h2, h3⟩
      have ea : a + (S.w - a) = S.w := by omega
      rw [ea] at h2
      have hTs := (h2.ex offH_le).app (hI.ex e)
      have hTs2 : PrA H1 (ts ++ is) (S.cols a ++ S.idle) := PrA.app (hI.ex e) (h2.ex offH_le)
      have li := hI.len
      have lsn := sn.idl
      have gen : ∀ q ∈ S.cols a ++ S.idle, q.2.length = S.w + S.m ∧ 0 < Sm.gf q.2 q.1 ∧ q.1 < S.w + S.m := fun q hq => sn.gens q (by
        rcases List.mem_append.mp hq with hq | hq
        · obtain ⟨c0, s0⟩ := q
          obtain ⟨_, g2, g3⟩ := Sm.mem_cols.mp hq
          exact Sm.mem_gens.mpr (.inl ⟨g2, g3⟩)
        · exact Sm.mem_gens.mpr (.inr hq))
      refine ⟨_, rfl, _, rfl, x, C, dx, _, _, rfl, e _ _ hob, c.cl, c.nI, lkI S d l, D, l, _, _, rfl, rfl, h1, e _ _ hl2, Evl.sz_of (by simp; omega), fun Z hZ => ⟨Z, rfl, ⟨_, Evl.sq_of upd_same⟩, ?_⟩⟩
      have eZ := ev_up (o := .lst (ts.map V.ref ++ is.map V.ref)) hZ
      have hZ2 : upd H1 Z (.lst (ts.map V.ref ++ is.map V.ref)) Z = some (.lst ((ts ++ is).map V.ref)) := by rw [upd_same, List.map_append]
      have hTs3 := hTs2.ex eZ
      have e0 := e.trans eZ
      generalize upd H1 Z (.lst (ts.map V.ref ++ is.map V.ref)) = H2 at hZ2 hTs3 e0
      refine for_list (K := K) (a := Z) (xs := (ts ++ is).map V.ref) (fun i σ' H' => ∃ (q : Addr) (y4 y5 y6 : Option V), σ' = [some (.ref x), some (.ref q), some (.int (a : Int)), some (.ref D), y4, y5, y6] ∧ Ex H2 H' ∧ H' q = some (.lst ((((S.cols a ++ S.idle).take i).foldl Sm.redR x0).map V.int)) ∧ (q = p ∨ H q = none))
        ⟨p, none, none, none, rfl, Ex.refl H2, e0 _ _ hp, .inl rfl⟩ (fun i σ' H' _ ⟨_, _, _, _, _, e1, _⟩ => Evl.sq_of (e1 _ _ hZ2)) ?_ ?_
      · rintro i v σ' H' hv ⟨q, y4, y5, y6, rfl, e1, hq, hqn⟩
        rw [List.getElem?_map] at hv
        cases hv2 : (ts ++ is)[i]? with
        | none => rw [hv2] at hv; cases hv
        | some t =>
          rw [hv2] at hv
          cases hv
          obtain ⟨g, r, g0, g1, g2⟩ := hTs3.get hv2
          obtain ⟨gl, gp, gc⟩ := gen g (List.mem_of_getElem? g0)
          obtain ⟨f1, f2⟩ := foldOk_at ho g0
          have xl : (((S.cols a ++ S.idle).take i).foldl Sm.redR x0).length = S.w + S.m := Sm.foldl_redR_len hl fun q' hq' => (gen q' (List.mem_of_mem_take hq')).1
          rw [fold_take g0]
          generalize ((S.cols a ++ S.idle).take i).foldl Sm.redR x0 = X at hq f1 xl ⊢
          refine ⟨t, _, rfl, Evl.st_of (e1 _ _ g1), rfl, _, _, rfl, _, _, rfl, rfl, ?_⟩
          have nz : Sm.gf g.2 g.1 ≠ 0 := by omega
          refine ⟨_, rfl, _, rfl, q, _, _, _, rfl, rfl, Evl.sq_of hq, atI_gf (by omega), _, rfl, _, rfl, r, _, _, _, rfl, rfl, Evl.sq_of (e1 _ _ g2), atI_gf (by omega), _, _, rfl, rfl, nz, ?_⟩
          refine ⟨_, rfl, rfl, _, rfl, iteB (fun hb => ?_) (fun hb => ?_)⟩
          · have hm : (Sm.gf X g.1).fdiv (Sm.gf g.2 g.1) ≠ 0 := by simpa using hb
            have e2 : Sm.redR X g = Sm.mixed 1 X (-((Sm.gf X g.1).fdiv (Sm.gf g.2 g.1))) g.2 := by
              unfold Sm.redR
              rw [if_pos hm]
            rw [e2]
            have mb := Sm.fdiv_le (Sm.gf X g.1) nz
            have mb2 := f1 g.1
            refine ⟨_, rfl, _, rfl, _, rfl, _, rfl, 1, _, q, r, X, g.2, rfl, Evl.sq_of hq, Evl.sq_of (e1 _ _ g2), by omega, by have := sn.m; omega, fun y hy => mulZ1 hz (by decide) (lim_mem f1 y hy), fun y hy => mulZ hz (by rw [Int.natAbs_neg]; omega) (lim_mem f2 y hy), fun q2 H3 hq3 e3 h3 => ?_⟩
            exact ⟨q2, _, _, _, rfl, e1.trans e3, h3, .inr (Evl.fresh_back (e0.trans e1) hq3)⟩
          · have hm : (Sm.gf X g.1).fdiv (Sm.gf g.2 g.1) = 0 := by simpa using hb
            have e2 : Sm.redR X g = X := by
              unfold Sm.redR
              rw [if_neg (by simpa using hm)]
            rw [e2]
            exact ⟨q, _, _, _, rfl, e1, hq, hqn⟩
      · rintro σ' H' ⟨q, y4, y5, y6, rfl, e1, hq, hqn⟩
        rw [List.length_map, hTs2.len, List.take_length] at hq
        exact ⟨_, rfl, k q H' (e0.trans e1) hq hqn⟩
end
end Sr
/-! # S2 -/
namespace Sr
open PySem PySem.Spec PyProof.Rows L2
open Evl (Ex Ev EvL EvU EvT EvA RetL RetV)
section
variable {P : Program} {w : World} {K : PySem.W.Frag} {mg : Str → Option Value} {base : Heap} {f : Addr} {fd : FuncData}
theorem put_cols {S : Sm.Sts} {c a : Nat} {s : Sm.Row} (h : c < a) : (S.put c s).cols a ++ (S.put c s).idle = S.cols a ++ S.idle := by
  have e : (S.put c s).cols a = S.cols a := Sm.colsB_congr fun d h1 _ => by rw [Sm.put_st, if_neg (by omega)]
  rw [e]
  rfl
theorem lkT (S : Sm.Sts) (d l : Addr) : List.lookup (α := Str) "_tidied" (fsS S d l) = none := lkN S d l (by decide +kernel) (by decide +kernel) (by decide +kernel) (by decide +kernel)
def spMet (C : Addr) : Sp := fun vs H Q _ => ∃ (x d l p : Addr) (S : Sm.Sts) (s x0 : Sm.Row) (c z : Nat), vs = [.ref x, .int (c : Int), .ref p] ∧ StA H C x d l S ∧ Sn S ∧ Sn (S.met c s x0).1 ∧ zL z ∧ c < S.w ∧ S.st c = some s ∧ H p = some (.lst (x0.map V.int)) ∧ x0.length = S.w + S.m ∧ Sm.MetOk z S c s x0 ∧
  ∀ q H', Fr d l H H' → StA H' C x d l (S.met c s x0).1 → H' q = some (.lst ((S.met c s x0).2.map V.int)) → Q (.ref q) H'
theorem ok_met {C : Addr} (F : FnP K "_met" "Stairs._met" s_Stairs_met f fd) (B : Bi mg) (hN : base.NoSeer) (hT : P.given.tree = none) (cl : Sc K C) (D_mixed : Df P w K mg base CX0 33 "mixed" ["times", "row", "others", "other"] (spMix K))
    (D_common : Df P w K mg base CX0 33 "common" ["first", "second"] spCommon) (MT : Mt P w K mg base CX0 34 C "_tidied" ["self", "long", "start"] (spTid C)) :
    FnOk P w K mg base CX0 35 f fd ["self", "column", "long"] (spMet C) := by
  obtain ⟨fT, fdT, FT, mT, bT⟩ := MT
  refine F.ok sc_Stairs_met (fun vs H Q E h => ?_) (fun cdv A outer s H vs Q E hr h => ⟨_, PSs.nox
   (pss_cons (ps_set (i := 3) sc_Stairs_met.nd rfl (Or.inl rfl) (pe_dget (by exact hu1 hr) (pe_fld (pv 0) rfl) (pv 1) (fun _ _ => rfl)))
      (pss_cons (ps_asg (pe_df D_common (hr.mono (by decide)) (pa_cons (pe_ix ix_list (pv 3) (pv 1) (fun _ _ => rfl)) (pa_cons (pe_ix ix_list (pv 2) (pv 1) (fun _ _ => rfl)) pa_nil))) (pg_tup rfl (pgs_cons (pg_name (i := 4) sc_Stairs_met.nd rfl (Or.inl rfl)) (pgs_cons (pg_name (i := 5) sc_Stairs_met.nd rfl (Or.inl rfl)) (pgs_cons (pg_name (i := 6) sc_Stairs_met.nd rfl (Or.inl rfl)) pgs_nil)))))
      (Evl.pss_cut (ps_if (pt_cmpR op_ne (pv 6) pe_int (nomark _))
      (pss_one (ps_dput (by exact hu1 hr) (pe_fld (pv 0) rfl) (pv 1) (pe_meth (pv 0) cl.cl mT FT (hr.mono (by decide)) bT .nil pass0 (pa_cons (pe_df D_mixed (hr.mono (by decide)) (pa_cons (pv 5) (pa_cons (pv 3) (pa_cons (pv 6) (pa_cons (pv 2) pa_nil))))) (pa_cons (pe_op op_add (pv 1) pe_int) pa_nil))) rfl))
      pss_nil)
      (pss_one (ps_ret (pe_meth (pv 0) cl.cl mT FT (hr.mono (by decide)) bT .nil pass0 (pa_cons (pe_df D_mixed (hr.mono (by decide)) (pa_cons (pe_op (op_fdivZ (big_of hr (by decide) hN hT)) (pe_ix ix_list (pv 3) (pv 1) (fun _ _ => rfl)) (pv 4)) (pa_cons (pv 2) (pa_cons (pe_un un_neg (pe_op (op_fdivZ (big_of hr (by decide) hN hT)) (pe_ix ix_list (pv 2) (pv 1) (fun _ _ => rfl)) (pv 4))) (pa_cons (pv 3) pa_nil))))) (pa_cons (pe_op op_add (pv 1) pe_int) pa_nil)))))))), ?_⟩)
  · obtain ⟨x, d, l, p, S, s, x0, c, z, rfl, _⟩ := h
    rfl
  · obtain ⟨x, d, l, p, S, st, x0, c, z, rfl, hS, sn, sn2, hz, hc, hst, hp, hl, ho, k⟩ := h
    simp only [cxK]
    obtain ⟨dx, hob⟩ := hS.obj
    obtain ⟨kvs, hd, hD⟩ := hS.dic
    obtain ⟨is, hl2, hI⟩ := hS.idl
    obtain ⟨r, g2, g3⟩ := hD.yes c st hst
    obtain ⟨o1, o2, o3, o4, o5, o6⟩ := ho
    obtain ⟨sl, sp, _⟩ := sn.gens (c, st) (Sm.mem_gens.mpr (.inl ⟨hc, hst⟩))
    have sl : st.length = S.w + S.m := sl
    have sp : 0 < Sm.gf st c := sp
    obtain ⟨k1, k2, k3, k4⟩ := Sm.common_ok (b := Sm.gf x0 c) sp
    refine ⟨_, rfl, x, C, dx, _, _, rfl, hob, cl.cl, cl.nS, lkS S d l, _, rfl, d, .ref r, rfl, g2 ▸ DGet.k (k := Sum.inl (c : Int)) hd, ?_⟩
    refine ⟨_, rfl, _, rfl, r, _, _, _, rfl, rfl, Evl.sq_of g3, atI_gf (by omega), _, rfl, _, rfl, p, _, _, _, rfl, rfl, Evl.sq_of hp, atI_gf (by omega), _, _, rfl, sp, ⟨60000001, by decide, Nat.lt_of_le_of_lt (o1 c) hz, Nat.lt_of_le_of_lt (o2 c) hz⟩, fun t H1 e1 ht ht1 => ?_⟩
    refine ⟨t, _, rfl, Evl.st_of ht1, rfl, _, _, rfl, _, _, rfl, _, _, rfl, rfl, ?_⟩
    have hS1 := hS.ex e1
    have hd1 := e1 _ _ hd
    have hob1 := e1 _ _ hob
    have hp1 := e1 _ _ hp
    have g31 := e1 _ _ g3
    have fr1 : Fr d l H H1 := Fr.of_ex e1
    have pd : ∀ xs, H1 p = some (.lst xs) → p ≠ d := fun xs e z => by rw [z, hd1] at e; cases e
    have pd1 : p ≠ d := pd _ hp1
    have rd1 : r ≠ d := fun z => by rw [z, hd1] at g31; cases g31
    have xd1 : x ≠ d := fun z => by rw [z, hd1] at hob1; cases hob1
    clear hd hob g3 hp hS
    generalize hS1e : (S.met c st x0).1 = S1 at *
    refine ⟨fun σ'' H'' => σ'' = [some (.ref x), some (.int (c : Int)), some (.ref p), some (.ref r), some (.int (Sm.common (Sm.gf st c) (Sm.gf x0 c)).1), some (.int (Sm.common (Sm.gf st c) (Sm.gf x0 c)).2.1), some (.int (Sm.common (Sm.gf st c) (Sm.gf x0 c)).2.2)] ∧ Fr d l H H'' ∧ StA H'' C x d l S1 ∧ H'' p = some (.lst (x0.map V.int)) ∧ H'' r = some (.lst (st.map V.int)), ?_, ?_⟩
    · refine ⟨_, rfl, rfl, _, rfl, iteB (fun hb => ?_) (fun hb => ?_)⟩
      · have hb : (Sm.common (Sm.gf st c) (Sm.gf x0 c)).2.2 ≠ 0 := by simpa using hb
        have eS : S1 = S.put c (S.tidied (Sm.mixed (Sm.common (Sm.gf st c) (Sm.gf x0 c)).2.1 st (Sm.common (Sm.gf st c) (Sm.gf x0 c)).2.2 x0) (c + 1)) := by
          rw [← hS1e]
          unfold Sm.Sts.met
          exact if_pos hb
        refine ⟨_, rfl, x, dx, _, rfl, hob1, lkT S d l, _, rfl, _, rfl, _, rfl, _, rfl, _, _, r, p, st, x0, rfl, Evl.sq_of g31, Evl.sq_of hp1, by omega, by have := sn.w; have := sn.m; omega, fun y hy => mulZ hz o3 (lim_mem o1 y hy), fun y hy => mulZ hz o4 (lim_mem o2 y hy), fun q2 H3 hq3 e3 h3 => ?_⟩
        refine ⟨_, rfl, _, _, rfl, rfl, x, d, l, q2, S, _, c + 1, z, rfl, hS1.ex e3, sn, hz, h3, by rw [Sm.mixed_len (by omega)]; omega, by omega, o5, fun q4 H4 e4 h4 _ => ?_⟩
        have e14 := e3.trans e4
        refine ⟨_, rfl, x, C, dx, _, _, rfl, e14 _ _ hob1, cl.cl, cl.nS, lkS S d l, _, rfl, d, _, rfl, DPut.k (k := Sum.inl (c : Int)) (e14 _ _ hd1) (Evl.sz_lt (by have := hD.len; have := sn.w; omega)), rfl, ?_, ?_, ?_, ?_⟩
        · exact (fr1.trans (Fr.of_ex e14)).trans Fr.updD
        · rw [eS]
          exact (hS1.ex e14).put (e14 _ _ hd1) hc h4
        · rw [upd_ne pd1]
          exact e14 _ _ hp1
        · rw [upd_ne rd1]
          exact e14 _ _ g31
      · have hb : (Sm.common (Sm.gf st c) (Sm.gf x0 c)).2.2 = 0 := by simpa using hb
        have eS : S1 = S := by
          rw [← hS1e]
          unfold Sm.Sts.met
          exact if_neg (by simpa using hb)
        exact ⟨rfl, fr1, by rw [eS]; exact hS1, hp1, g31⟩
    · rintro _ H2 ⟨rfl, fr2, hS2, hp2, hr2⟩
      have eW : S1.w = S.w ∧ S1.m = S.m ∧ S1.cols (c + 1) ++ S1.idle = S.cols (c + 1) ++ S.idle := by
        rw [← hS1e]
        unfold Sm.Sts.met
        dsimp only
        split
        · exact ⟨rfl, rfl, put_cols (by omega)⟩
        · exact ⟨rfl, rfl, rfl⟩
      obtain ⟨eW, eM, eC⟩ := eW
      obtain ⟨dx2, hob2⟩ := hS2.obj
      have kp : (Sm.common (Sm.gf st c) (Sm.gf x0 c)).1 ≠ 0 := by omega
      have m1 := Sm.fdiv_le (Sm.gf st c) kp
      have m2 := Sm.fdiv_le (Sm.gf x0 c) kp
      have m3 := o1 c
      have m4 := o2 c
      refine ⟨_, rfl, x, dx2, _, rfl, hob2, lkT S1 d l, _, rfl, _, rfl, r, _, _, _, rfl, rfl, Evl.sq_of hr2, atI_gf (by omega), _, rfl, _, _, rfl, rfl, kp, ?_⟩
      refine ⟨_, rfl, _, rfl, _, rfl, p, _, _, _, rfl, rfl, Evl.sq_of hp2, atI_gf (by omega), _, rfl, _, _, rfl, rfl, kp, _, rfl, _, rfl, _, _, p, r, x0, st, rfl, Evl.sq_of hp2, Evl.sq_of hr2, by omega, by have := sn.w; have := sn.m; omega, fun y hy => mulZ hz (by omega) (lim_mem o2 y hy), fun y hy => mulZ hz (by rw [Int.natAbs_neg]; omega) (lim_mem o1 y hy), fun q2 H3 hq3 e3 h3 => ?_⟩
      refine ⟨_, rfl, _, _, rfl, rfl, x, d, l, q2, S1, _, c + 1, z, rfl, hS2.ex e3, sn2, hz, h3, by rw [Sm.mixed_len (by omega)]; omega, by omega, by rw [eC]; exact o6, fun q4 H4 e4 h4 _ => ?_⟩
      refine k q4 H4 (fr2.trans (Fr.of_ex (e3.trans e4))) (hS2.ex (e3.trans e4)) ?_
      rw [h4, ← hS1e]
      rfl
end
end Sr
/-! # S3 -/
namespace Sr
open PySem PySem.Spec PyProof.Rows L2
open Evl (Ex Ev EvL EvU EvT EvA RetL RetV)
section
variable {P : Program} {w : World} {K : PySem.W.Frag} {mg : Str → Option Value} {base : Heap} {f : Addr} {fd : FuncData}
theorem lkMet (S : Sm.Sts) (d l : Addr) : List.lookup (α := Str) "_met" (fsS S d l) = none := lkN S d l (by decide +kernel) (by decide +kernel) (by decide +kernel) (by decide +kernel)
theorem range_cons {c n : Nat} : List.range' c (n + 1) = c :: List.range' (c + 1) n := rfl
def spLay (C : Addr) : Sp := fun vs H Q _ => ∃ (x d l p : Addr) (S : Sm.Sts) (x0 : Sm.Row) (R : Nat → Sm.Vec) (at_ z : Nat), vs = [.ref x, .int (at_ : Int), .ref p] ∧ StA H C x d l S ∧ Sm.Mid R at_ 0 S x0 ∧ S.w ≤ 40 ∧ S.m ≤ 40 ∧ S.idle.length ≤ 39 ∧ zL z ∧ H p = some (.lst (x0.map V.int)) ∧ Sm.LayOk z at_ (List.range S.w) S x0 ∧
  ∀ H', Fr d l H H' → StA H' C x d l (Sm.Sts.lay at_ (List.range S.w) S x0) → Q .non H'
theorem ok_lay {C : Addr} (F : FnP K "_lay" "Stairs._lay" s_Stairs_lay f fd) (B : Bi mg) (cl : Sc K C) (MM : Mt P w K mg base CX0 35 C "_met" ["self", "column", "long"] (spMet C)) :
    FnOk P w K mg base CX0 36 f fd ["self", "at", "long"] (spLay C) := by
  obtain ⟨fM, fdM, FM, mM, bM⟩ := MM
  refine F.ok sc_Stairs_lay (fun vs H Q E h => ?_) (fun cdv A outer s H vs Q E hr h => ⟨_, PSs.nox
   (pss_cons (ps_for PassesOwn.never rfl (pi_range1 rfl B.range_ (pa_cons (pe_fld (pv 0) rfl) pa_nil)) (pg_name (i := 3) sc_Stairs_lay.nd rfl (Or.inl rfl))
      (pss_cons (ps_if (pt_cmpR op_eq (pe_ix ix_list (pv 2) (pv 3) (fun _ _ => rfl)) pe_int (nomark _))
        (pss_one ps_continue)
        pss_nil)
        (pss_cons (ps_if (pt_cmp (pc_dnotin (by exact hu1 hr) (pv 3) (pe_fld (pv 0) rfl)))
        (pss_cons (ps_set (i := 4) sc_Stairs_lay.nd rfl (Or.inr rfl) (pe_ifExp (pt_cmpR op_gt (pe_ix ix_list (pv 2) (pv 3) (fun _ _ => rfl)) pe_int (nomark _)) pe_int (pe_un un_neg pe_int)))
          (pss_cons (ps_dput (by exact hu1 hr) (pe_fld (pv 0) rfl) (pv 3) (pe_lc (own := [("number", 5)]) (g := gName 5) (tt := tYes) rfl sc_Stairs_lay.nd (pi_list (pv 2)) (blkOk_by (N := n_Stairs_lay) (sc := defScope s_Stairs_lay) (by decide +kernel)) (fun _ _ _ _ _ => (pg_name (i := 5) sc_Stairs_lay.nd rfl (Or.inl rfl))) (fun _ _ _ _ _ => pts_nil) (fun _ _ _ _ _ => (pe_op op_mulZ (pv 4) (pv 5)))) rfl)
          (pss_one ps_retN)))
        pss_nil)
        (pss_one (ps_set (i := 2) sc_Stairs_lay.nd rfl (Or.inl rfl) (pe_meth (pv 0) cl.cl mM FM (hr.mono (by decide)) bM .nil pass0 (pa_cons (pv 3) (pa_cons (pv 2) pa_nil))))))))
      (pss_one (ps_expr (pe_bm PySem.F.plainAttrs_list PySem.F.slot_list_insert PySem.F.type_list_insert mt_insert (pe_fld (pv 0) rfl) (pa_cons pe_int (pa_cons (pe_tup (pa_cons (pe_op op_add (pe_fld (pv 0) rfl) (pv 1)) (pa_cons (pv 2) pa_nil))) pa_nil)))))), ?_⟩)
  · obtain ⟨x, d, l, p, S, x0, R, at_, z, rfl, _⟩ := h
    rfl
  · obtain ⟨x, d, l, p, S, x0, R, at_, z, rfl, hS, M0, hw, hm, hi, hz, hp, ho, k⟩ := h
    simp only [cxK]
    obtain ⟨dx, hob⟩ := hS.obj
    refine ⟨_, rfl, x, C, dx, _, _, rfl, hob, cl.cl, cl.nW, lkW S d l, (S.w : Int), rfl, by omega, by omega, ?_⟩
    have en : ((S.w : Int)).toNat = S.w := by omega
    rw [en]
    rw [List.range_eq_range'] at ho k
    obtain ⟨T, hT⟩ : ∃ T, T = Sm.Sts.lay at_ (List.range' 0 S.w) S x0 := ⟨_, rfl⟩
    rw [← hT] at k
    refine for_range (n := S.w) (fun c σ' H' => ∃ (q : Addr) (Sc : Sm.Sts) (xc : Sm.Row) (y3 y4 y5 : Option V), σ' = [some (.ref x), some (.int (at_ : Int)), some (.ref q), y3, y4, y5] ∧ Fr d l H H' ∧ StA H' C x d l Sc ∧ H' q = some (.lst (xc.map V.int)) ∧ Sm.Mid R at_ c Sc xc ∧ Sc.w = S.w ∧ Sc.m = S.m ∧ Sc.idle = S.idle ∧
      Sm.LayOk z at_ (List.range' c (S.w - c)) Sc xc ∧ Sm.Sts.lay at_ (List.range' c (S.w - c)) Sc xc = T) ⟨p, S, x0, none, none, none, rfl, Fr.refl, hS, hp, M0, rfl, rfl, rfl, ho, hT.symm⟩ ?_ ?_
    · rintro c σ' H' hc ⟨q, Sc, xc, y3, y4, y5, rfl, fr, hSc, hq, M, eW, eM, eI, lo, le⟩
      have e0 : (0 : Int) + (c : Int) = (c : Int) := Int.zero_add _
      rw [e0]
      obtain ⟨dxc, hobc⟩ := hSc.obj
      obtain ⟨kvs, hd, hD⟩ := hSc.dic
      have er : List.range' c (S.w - c) = c :: List.range' (c + 1) (S.w - (c + 1)) := by
        rw [show S.w - c = (S.w - (c + 1)) + 1 by omega]
        rfl
      rw [er] at lo le
      unfold Sm.LayOk at lo
      unfold Sm.Sts.lay at le
      obtain ⟨lz, lo⟩ := lo
      have xl := M.xlen
      refine ⟨_, rfl, _, rfl, q, _, _, _, rfl, rfl, Evl.sq_of hq, atI_gf (by omega), rfl, _, rfl, iteB (fun hb => ?_) (fun hb => ?_)⟩
      · have hb : Sm.gf xc c = 0 := by simpa using hb
        rw [if_pos hb] at lo le
        exact ⟨q, Sc, xc, _, _, _, rfl, fr, hSc, hq, ⟨M.g, M.am, fun d' s' h1 => M.new d' s' (by omega), M.newI, M.xlen, M.xtru, M.xcof, M.xpos, fun j hj => by
          rcases Nat.lt_succ_iff_lt_or_eq.mp hj with h | h
          · exact M.xz j h
          · rw [h]; exact hb, M.xid⟩, eW, eM, eI, lo, le⟩
      · have hb : Sm.gf xc c ≠ 0 := by simpa using hb
        rw [if_neg hb] at lo le
        have snc : Sn Sc := sn_of M.g (by omega) (by omega) (by have := M.am; omega) (by rw [eI]; omega)
        rcases hD.get c with ⟨g1, g2⟩ | ⟨row, r, g1, g2, g3⟩
        · rw [g1] at le
          refine ⟨_, rfl, _, rfl, x, C, dxc, _, _, rfl, hobc, cl.cl, cl.nS, lkS Sc d l, d, _, rfl, g2 ▸ DGet.k (k := Sum.inl (c : Int)) hd, _, rfl, ?_⟩
          refine ifT rfl ?_
          have tail : ∀ (sg : Int) (y5 : Option V), sg = (if 0 < Sm.gf xc c then 1 else -1) → EvL (tLc (iList K (tVar 2)) (gName 5) tYes (tOp (rI IntMulOk fun i j => V.int (i * j)) (tVar 4) (tVar 5)) [5]) [some (.ref x), some (.int (at_ : Int)), some (.ref q), some (.int (c : Int)), some (.int sg), y5] H' ((Sm.sgnR c xc).map V.int) := fun sg y5 hsg => by
            have hv : (Sm.sgnR c xc).map V.int = (List.range (xc.map V.int).length).map fun i => V.int (sg * xc.getD i 0) := by
              rw [List.length_map]
              apply List.ext_getElem?
              intro i
              unfold Sm.sgnR
              rw [← hsg]
              by_cases hi : i < xc.length
              · simp [hi, List.getD_eq_getElem?_getD]
              · simp [hi]
            rw [hv]
            refine lcLf (fun i => V.int (sg * xc.getD i 0)) (Evl.ev_var rfl) (Evl.sq_of hq) (by rw [List.length_map]; omega) (fun x => rfl) (fun i y H1 e1 hy => ?_)
            rw [List.getElem?_map] at hy
            cases hy2 : xc[i]? with
            | none => rw [hy2] at hy; cases hy
            | some n =>
              rw [hy2] at hy
              cases hy
              intro H2 e2 Q2 q2
              refine ⟨_, rfl, _, rfl, sg, n, rfl, rfl, mulZ1 hz (by rw [hsg]; split <;> decide) (lim_mem lz n (List.mem_of_getElem? hy2)), q2 _ H2 (Ex.refl H2) ?_⟩
              simp [List.getD_eq_getElem?_getD, hy2]
          have fin : ∀ (sg : Int) (y5 : Option V), sg = (if 0 < Sm.gf xc c then 1 else -1) → ∀ (H1 : Hp) (r : Addr), Ex H' H1 → H1 r = some (.lst ((Sm.sgnR c xc).map V.int)) → Q .non (upd H1 d (.dK (putK kvs (Sum.inl (c : Int)) (.ref r)))) := fun sg y5 hsg H1 r e1 h1 => by
            refine k _ ((fr.trans (Fr.of_ex e1)).trans Fr.updD) ?_
            rw [← le]
            exact (hSc.ex e1).put (e1 _ _ hd) (by omega) h1
          have hlen : kvs.length < sizeLine := Evl.sz_lt (by have := hD.len; omega)
          refine ⟨_, rfl, _, rfl, q, _, _, _, rfl, rfl, Evl.sq_of hq, atI_gf (by omega), _, _, rfl, rfl, _, rfl, iteB (fun hs => ?_) (fun hs => ?_)⟩
          · have hs := of_decide_eq_true hs
            simp only [tC, gName, tSeq, sDPut]
            refine tail 1 y5 (by rw [if_pos hs]) H' (Ex.refl H') _ fun r H1 hr e1 h1 => ?_
            exact ⟨_, rfl, x, C, dxc, _, _, rfl, e1 _ _ hobc, cl.cl, cl.nS, lkS Sc d l, _, rfl, d, _, rfl, DPut.k (k := Sum.inl (c : Int)) (e1 _ _ hd) hlen, fin 1 y5 (by rw [if_pos hs]) H1 r e1 h1⟩
          · have hs := of_decide_eq_false hs
            refine ⟨1, rfl, ?_⟩
            simp only [tC, gName, tSeq, sDPut]
            refine tail (-1) y5 (by rw [if_neg hs]) H' (Ex.refl H') _ fun r H1 hr e1 h1 => ?_
            exact ⟨_, rfl, x, C, dxc, _, _, rfl, e1 _ _ hobc, cl.cl, cl.nS, lkS Sc d l, _, rfl, d, _, rfl, DPut.k (k := Sum.inl (c : Int)) (e1 _ _ hd) hlen, fin (-1) y5 (by rw [if_neg hs]) H1 r e1 h1⟩
        · rw [g1] at lo le
          obtain ⟨lo1, lo2⟩ := lo
          obtain ⟨M2, w2, m2, _⟩ := M.met (by omega) g1 hb
          have i2 : (Sc.met c row xc).1.idle = Sc.idle := by
            unfold Sm.Sts.met
            dsimp only
            split <;> rfl
          have sn2 : Sn (Sc.met c row xc).1 := sn_of M2.g (by omega) (by omega) (by have := M2.am; omega) (by rw [i2, eI]; omega)
          refine ⟨_, rfl, _, rfl, x, C, dxc, _, _, rfl, hobc, cl.cl, cl.nS, lkS Sc d l, d, _, rfl, g2 ▸ DGet.k (k := Sum.inl (c : Int)) hd, _, rfl, ?_⟩
          refine ifF rfl ?_
          refine ⟨_, rfl, x, dxc, _, rfl, hobc, lkMet Sc d l, _, rfl, _, rfl, x, d, l, q, Sc, row, xc, c, z, rfl, hSc, snc, sn2, hz, by omega, g1, hq, xl, lo1, fun q4 H4 fr4 hS4 h4 => ?_⟩
          exact ⟨q4, _, _, _, _, _, rfl, fr.trans fr4, hS4, h4, M2, by omega, by omega, by rw [i2, eI], lo2, le⟩
    · rintro σ' H' ⟨q, Sc, xc, y3, y4, y5, rfl, fr, hSc, hq, M, eW, eM, eI, lo, le⟩
      obtain ⟨dxc, hobc⟩ := hSc.obj
      obtain ⟨ts, hl2, hI⟩ := hSc.idl
      have li := hI.len
      rw [Nat.sub_self] at le
      have le : { Sc with idle := (Sc.w + at_, xc) :: Sc.idle } = T := le
      have xl := M.xlen
      refine ⟨_, rfl, x, C, dxc, _, _, rfl, hobc, cl.cl, cl.nI, lkI Sc d l, Or.inl ⟨rfl, _, Or.inl (Or.inl hl2)⟩, ?_⟩
      refine ⟨_, rfl, x, C, dxc, _, _, rfl, hobc, cl.cl, cl.nW, lkW Sc d l, _, rfl, _, _, rfl, rfl, _, rfl, Evl.sz_of (by simp), fun t ht => ?_⟩
      have eT := ev_up (o := .tup [.int ((Sc.w : Int) + (at_ : Int)), .ref q]) ht
      refine ⟨l, ts.map V.ref, 0, .ref t, rfl, rfl, eT _ _ hl2, Evl.sz_lt (by rw [List.length_map, li, eI]; omega), by decide, by decide, ?_⟩
      have ht2 : upd H' t (.tup [.int ((Sc.w : Int) + (at_ : Int)), .ref q]) t = some (.tup [.int ((Sc.w + at_ : Nat) : Int), .ref q]) := upd_same
      have am := M.am
      have z := (hSc.ex eT).idle (eT _ _ hl2) ht2 (eT _ _ hq) (by omega) xl M.g.len fun c' row' hc' => by
        obtain ⟨kvs, hd, hD⟩ := hSc.dic
        exact hD.lt hc'
      rw [le] at z
      exact k _ ((fr.trans (Fr.of_ex eT)).trans Fr.updL) z
end
end Sr
/-! # S4 -/
namespace Sr
open PySem PySem.Spec PyProof.Rows L2
open Evl (Ex Ev EvL EvU EvT EvA RetL RetV)
section
variable {P : Program} {w : World} {K : PySem.W.Frag} {mg : Str → Option Value} {base : Heap} {f : Addr} {fd : FuncData}
def spTidy (C : Addr) : Sp := fun vs H Q _ => ∃ (x d l : Addr) (S : Sm.Sts) (R : Nat → Sm.Vec) (k z : Nat), vs = [.ref x] ∧ StA H C x d l S ∧ Sm.Good R k S ∧ k ≤ S.m ∧ S.w ≤ 40 ∧ S.m ≤ 40 ∧ S.idle.length ≤ 40 ∧ zL z ∧ Sm.TidyOk z (List.range S.w) S ∧
  ∀ H', Fr d l H H' → StA H' C x d l (Sm.Sts.tidy (List.range S.w) S) → Q .non H'
theorem ok_tidy {C : Addr} (F : FnP K "_tidy" "Stairs._tidy" s_Stairs_tidy f fd) (B : Bi mg) (cl : Sc K C) (MT : Mt P w K mg base CX0 34 C "_tidied" ["self", "long", "start"] (spTid C)) :
    FnOk P w K mg base CX0 35 f fd ["self"] (spTidy C) := by
  obtain ⟨fT, fdT, FT, mT, bT⟩ := MT
  refine F.ok sc_Stairs_tidy (fun vs H Q E h => ?_) (fun cdv A outer s H vs Q E hr h => ⟨_, PSs.nox
   (pss_one (ps_for PassesOwn.never rfl (pi_range1 rfl B.range_ (pa_cons (pe_fld (pv 0) rfl) pa_nil)) (pg_name (i := 1) sc_Stairs_tidy.nd rfl (Or.inl rfl))
      (pss_one (ps_if (pt_cmp (pc_din (by exact hu1 hr) (pv 1) (pe_fld (pv 0) rfl)))
        (pss_one (ps_dput (by exact hu1 hr) (pe_fld (pv 0) rfl) (pv 1) (pe_meth (pv 0) cl.cl mT FT (hr.mono (by decide)) bT .nil pass0 (pa_cons (pe_dget (by exact hu1 hr) (pe_fld (pv 0) rfl) (pv 1) (fun _ _ => rfl)) (pa_cons (pe_op op_add (pv 1) pe_int) pa_nil))) rfl))
        pss_nil)))), ?_⟩)
  · obtain ⟨x, d, l, S, R, k, z, rfl, _⟩ := h
    rfl
  · obtain ⟨x, d, l, S, R, k, z, rfl, hS, G0, hk, hw, hm, hi, hz, ho, kk⟩ := h
    simp only [cxK]
    obtain ⟨dx, hob⟩ := hS.obj
    refine ⟨_, rfl, x, C, dx, _, _, rfl, hob, cl.cl, cl.nW, lkW S d l, (S.w : Int), rfl, by omega, by omega, ?_⟩
    have en : ((S.w : Int)).toNat = S.w := by omega
    rw [en]
    rw [List.range_eq_range'] at ho kk
    obtain ⟨T, hT⟩ : ∃ T, T = Sm.Sts.tidy (List.range' 0 S.w) S := ⟨_, rfl⟩
    rw [← hT] at kk
    refine for_range (n := S.w) (fun c σ' H' => ∃ (Sc : Sm.Sts) (y1 : Option V), σ' = [some (.ref x), y1] ∧ Fr d l H H' ∧ StA H' C x d l Sc ∧ Sm.Good R k Sc ∧ Sc.w = S.w ∧ Sc.m = S.m ∧ Sc.idle = S.idle ∧
      Sm.TidyOk z (List.range' c (S.w - c)) Sc ∧ Sm.Sts.tidy (List.range' c (S.w - c)) Sc = T) ⟨S, none, rfl, Fr.refl, hS, G0, rfl, rfl, rfl, ho, hT.symm⟩ ?_ ?_
    · rintro c σ' H' hc ⟨Sc, y1, rfl, fr, hSc, G, eW, eM, eI, lo, le⟩
      have e0 : (0 : Int) + (c : Int) = (c : Int) := Int.zero_add _
      rw [e0]
      obtain ⟨dxc, hobc⟩ := hSc.obj
      obtain ⟨kvs, hd, hD⟩ := hSc.dic
      have er : List.range' c (S.w - c) = c :: List.range' (c + 1) (S.w - (c + 1)) := by
        rw [show S.w - c = (S.w - (c + 1)) + 1 by omega]
        rfl
      rw [er] at lo le
      unfold Sm.TidyOk at lo
      unfold Sm.Sts.tidy at le
      have snc : Sn Sc := sn_of G (by omega) (by omega) (by omega) (by rw [eI]; omega)
      rcases hD.get c with ⟨g1, g2⟩ | ⟨row, r, g1, g2, g3⟩
      · rw [g1] at lo le
        refine ⟨_, rfl, _, rfl, x, C, dxc, _, _, rfl, hobc, cl.cl, cl.nS, lkS Sc d l, d, _, rfl, g2 ▸ DGet.k (k := Sum.inl (c : Int)) hd, _, rfl, ?_⟩
        exact ifF rfl ⟨Sc, _, rfl, fr, hSc, G, eW, eM, eI, lo, le⟩
      · rw [g1] at lo le
        obtain ⟨lo1, lo2⟩ := lo
        have rl := G.len (c, row) (Sm.mem_gens.mpr (.inl ⟨by show c < Sc.w; omega, g1⟩))
        refine ⟨_, rfl, _, rfl, x, C, dxc, _, _, rfl, hobc, cl.cl, cl.nS, lkS Sc d l, d, _, rfl, g2 ▸ DGet.k (k := Sum.inl (c : Int)) hd, _, rfl, ?_⟩
        refine ifT rfl ?_
        refine ⟨_, rfl, x, dxc, _, rfl, hobc, lkT Sc d l, ?_⟩
        refine ⟨_, rfl, x, C, dxc, _, _, rfl, hobc, cl.cl, cl.nS, lkS Sc d l, _, rfl, d, .ref r, rfl, g2 ▸ DGet.k (k := Sum.inl (c : Int)) hd, _, rfl, _, _, rfl, rfl, x, d, l, r, Sc, row, c + 1, z, rfl, hSc, snc, hz, g3, rl, by omega, lo1, fun q4 H4 e4 h4 _ => ?_⟩
        refine ⟨_, rfl, x, C, dxc, _, _, rfl, e4 _ _ hobc, cl.cl, cl.nS, lkS Sc d l, _, rfl, d, _, rfl, DPut.k (k := Sum.inl (c : Int)) (e4 _ _ hd) (Evl.sz_lt (by have := hD.len; omega)), ?_⟩
        exact ⟨_, _, rfl, (fr.trans (Fr.of_ex e4)).trans Fr.updD, (hSc.ex e4).put (e4 _ _ hd) (by omega) h4, G.tidy1 (by omega) g1, eW, eM, eI, lo2, le⟩
    · rintro σ' H' ⟨Sc, y1, rfl, fr, hSc, G, eW, eM, eI, lo, le⟩
      rw [Nat.sub_self] at le
      have le : Sc = T := le
      rw [le] at hSc
      exact kk H' fr hSc
end
end Sr
/-! # S5 -/
namespace Sr
open PySem PySem.Spec PyProof.Rows L2
open Evl (Ex Ev EvL EvU EvT EvA RetL RetV)
section
variable {P : Program} {w : World} {K : PySem.W.Frag} {mg : Str → Option Value} {base : Heap} {f : Addr} {fd : FuncData}
theorem lkLay (S : Sm.Sts) (d l : Addr) : List.lookup (α := Str) "_lay" (fsS S d l) = none := lkN S d l (by decide +kernel) (by decide +kernel) (by decide +kernel) (by decide +kernel)
theorem lkTidy (S : Sm.Sts) (d l : Addr) : List.lookup (α := Str) "_tidy" (fsS S d l) = none := lkN S d l (by decide +kernel) (by decide +kernel) (by decide +kernel) (by decide +kernel)
theorem stairs_fs (n m p q : V) : putF "_idle" q (putF "_steps" p (putF "_many" m (putF "_width" n []))) = [(("_width" : Str), n), (("_many" : Str), m), (("_steps" : Str), p), (("_idle" : Str), q)] := by
  have h1 : ("_width" : Str) ≠ "_many" := by decide +kernel
  have h2 : ("_width" : Str) ≠ "_steps" := by decide +kernel
  have h3 : ("_many" : Str) ≠ "_steps" := by decide +kernel
  have h4 : ("_width" : Str) ≠ "_idle" := by decide +kernel
  have h5 : ("_many" : Str) ≠ "_idle" := by decide +kernel
  have h6 : ("_steps" : Str) ≠ "_idle" := by decide +kernel
  simp [putF, h1, h2, h3, h4, h5, h6]
theorem putF_lt1 {f : Str} {v : V} : (putF f v []).length < 1000 := Nat.lt_of_le_of_lt (putF_len _ _ _) (by show 1 < 1000; decide)
theorem putF_lt2 {f g : Str} {v u : V} : (putF f v (putF g u [])).length < 1000 := Nat.lt_of_le_of_lt (Nat.le_trans (putF_len _ _ _) (Nat.succ_le_succ (putF_len _ _ _))) (by show 2 < 1000; decide)
theorem putF_lt3 {f g h : Str} {v u t : V} : (putF f v (putF g u (putF h t []))).length < 1000 := Nat.lt_of_le_of_lt (Nat.le_trans (putF_len _ _ _) (Nat.succ_le_succ (Nat.le_trans (putF_len _ _ _) (Nat.succ_le_succ (putF_len _ _ _))))) (by show 3 < 1000; decide)
abbrev S0 (n m : Nat) : Sm.Sts := ⟨n, m, fun _ => none, []⟩
def spSInit (C : Addr) : Sp := fun vs H Q _ => ∃ (x dx a : Addr) (n : Nat) (rs : List Addr) (nss : List (List Int)) (z : Nat), vs = [.ref x, .int (n : Int), .ref a] ∧ H x = some (.ins C dx []) ∧ H a = some (.lst (rs.map V.ref)) ∧ RowsL H rs nss ∧ (∀ ns ∈ nss, ns.length = n) ∧ n ≤ 40 ∧ nss.length ≤ 40 ∧ zL z ∧
  Sm.AllOk z nss 0 (S0 n nss.length) ∧ ∀ H' d l, (∀ b o, b ≠ x → H b = some o → H' b = some o) → H d = none → H l = none → StA H' C x d l (Sm.stairs n nss) → Q .non H'
theorem ok_sinit {C : Addr} (F : FnP K "__init__" "Stairs.__init__" s_Stairs_init f fd) (B : Bi mg) (cl : Sc K C) (D_unit : Df P w K mg base CX0 1 "unit" ["at", "width"] spUnit)
    (ML : Mt P w K mg base CX0 36 C "_lay" ["self", "at", "long"] (spLay C)) (MT : Mt P w K mg base CX0 35 C "_tidy" ["self"] (spTidy C)) :
    FnOk P w K mg base CX0 37 f fd ["self", "width", "rows"] (spSInit C) := by
  obtain ⟨fT, fdT, FT, mT, bT⟩ := MT
  obtain ⟨fL, fdL, FL, mL, bL⟩ := ML
  refine F.ok sc_Stairs_init (fun vs H Q E h => ?_) (fun cdv A outer s H vs Q E hr h => ⟨_, PSs.nox
   (pss_cons (ps_fld (pv 0) (pv 1) rfl)
      (pss_cons (ps_fld (pv 0) (pe_callB call_len_seq rfl B.len_ boot_len (pa_cons (pv 2) pa_nil)) rfl)
      (pss_cons (ps_fld (pv 0) pe_dnewK rfl)
      (pss_cons (ps_fld (pv 0) (pe_lst pa_nil) rfl)
      (pss_one (ps_for PassesOwn.never rfl (pi_enum rfl B.enumerate_ (pa_cons (pv 2) pa_nil)) (pg_tup rfl (pgs_cons (pg_name (i := 3) sc_Stairs_init.nd rfl (Or.inl rfl)) (pgs_cons (pg_name (i := 4) sc_Stairs_init.nd rfl (Or.inl rfl)) pgs_nil)))
      (pss_cons (ps_expr (pe_meth (pv 0) cl.cl mL FL (hr.mono (by decide)) bL .nil pass0 (pa_cons (pv 3) (pa_cons (pe_op op_cat (pv 4) (pe_df D_unit (hr.mono (by decide)) (pa_cons (pv 3) (pa_cons (pe_fld (pv 0) rfl) pa_nil)))) pa_nil))))
        (pss_one (ps_expr (pe_meth0 (pv 0) cl.cl mT FT (hr.mono (by decide)) bT .nil pass0)))))))))), ?_⟩)
  · obtain ⟨x, dx, a, n, rs, nss, z, rfl, _⟩ := h
    rfl
  · obtain ⟨x, dx, a, n, rs, nss, z, rfl, hx, ha, hr1, hn, hn2, hm2, hz, ho, k⟩ := h
    simp only [cxK]
    have hlen := hr1.len
    have ax : a ≠ x := fun z => by rw [z, hx] at ha; cases ha
    refine ⟨_, rfl, _, rfl, x, C, dx, _, rfl, hx, cl.cl, cl.nW, by simp, ?_⟩
    have a1 : upd H x (.ins C dx (putF "_width" (.int (n : Int)) [])) a = some (.lst (rs.map V.ref)) := by rw [upd_ne ax]; exact ha
    have f1 : (putF "_width" (.int (n : Int)) []).length < 1000 := putF_lt1
    refine ⟨_, rfl, a, _, rfl, .inl (Evl.sq_of a1), _, rfl, x, C, dx, _, rfl, upd_same, cl.cl, cl.nM, f1, ?_⟩
    rw [upd_upd]
    have f2 : (putF "_many" (.int ((rs.map V.ref).length : Int)) (putF "_width" (.int (n : Int)) [])).length < 1000 := putF_lt2
    have f3 : ∀ d0 : Addr, (putF "_steps" (.ref d0) (putF "_many" (.int ((rs.map V.ref).length : Int)) (putF "_width" (.int (n : Int)) []))).length < 1000 := fun d0 => putF_lt3
    intro d hd
    have dx1 : d ≠ x := fun z => by rw [z, upd_same] at hd; cases hd
    have hd0 : H d = none := by rw [upd_ne dx1] at hd; exact hd
    have o2 : upd (upd H x (.ins C dx (putF "_many" (.int ((rs.map V.ref).length : Int)) (putF "_width" (.int (n : Int)) [])))) d (.dK []) x = some (.ins C dx (putF "_many" (.int ((rs.map V.ref).length : Int)) (putF "_width" (.int (n : Int)) []))) := by rw [upd_ne (Ne.symm dx1), upd_same]
    refine ⟨_, rfl, x, C, dx, _, rfl, o2, cl.cl, cl.nS, f2, ?_⟩
    refine ⟨Evl.sz_of (by simp), fun l hl => ?_⟩
    have lx1 : l ≠ x := fun z => by rw [z, upd_same] at hl; cases hl
    have ld1 : l ≠ d := fun z => by rw [z, upd_ne dx1, upd_same] at hl; cases hl
    have hl0 : H l = none := by rw [upd_ne lx1, upd_ne ld1, upd_ne lx1] at hl; exact hl
    have o3 : upd (upd (upd (upd H x (.ins C dx (putF "_many" (.int ((rs.map V.ref).length : Int)) (putF "_width" (.int (n : Int)) [])))) d (.dK [])) x (.ins C dx (putF "_steps" (.ref d) (putF "_many" (.int ((rs.map V.ref).length : Int)) (putF "_width" (.int (n : Int)) []))))) l (.lst []) x = some (.ins C dx (putF "_steps" (.ref d) (putF "_many" (.int ((rs.map V.ref).length : Int)) (putF "_width" (.int (n : Int)) [])))) := by rw [upd_ne (Ne.symm lx1), upd_same]
    refine ⟨_, rfl, x, C, dx, _, rfl, o3, cl.cl, cl.nI, f3 d, ?_⟩
    have em : ((rs.map V.ref).length : Int) = ((nss.length : Nat) : Int) := by rw [List.length_map, hlen]
    rw [stairs_fs, em]
    have frx : ∀ b o, b ≠ x → H b = some o → upd (upd (upd (upd (upd H x (.ins C dx (putF "_many" (.int (nss.length : Int)) (putF "_width" (.int (n : Int)) [])))) d (.dK [])) x (.ins C dx (putF "_steps" (.ref d) (putF "_many" (.int (nss.length : Int)) (putF "_width" (.int (n : Int)) []))))) l (.lst [])) x (.ins C dx (fsS (S0 n nss.length) d l)) b = some o := fun b o hb e => by
      have bd : b ≠ d := fun z => by rw [z, hd0] at e; cases e
      have bl : b ≠ l := fun z => by rw [z, hl0] at e; cases e
      rw [upd_ne hb, upd_ne bl, upd_ne hb, upd_ne bd, upd_ne hb]
      exact e
    have stx : StA (upd (upd (upd (upd (upd H x (.ins C dx (putF "_many" (.int (nss.length : Int)) (putF "_width" (.int (n : Int)) [])))) d (.dK [])) x (.ins C dx (putF "_steps" (.ref d) (putF "_many" (.int (nss.length : Int)) (putF "_width" (.int (n : Int)) []))))) l (.lst [])) x (.ins C dx (fsS (S0 n nss.length) d l))) C x d l (S0 n nss.length) := by
      refine ⟨⟨dx, upd_same⟩, ⟨[], ?_, ⟨[], rfl, List.nodup_nil, fun c hc => nomatch hc⟩, fun c hc => rfl, fun c row hc => nomatch hc⟩, ⟨[], ?_, trivial⟩⟩
      · rw [upd_ne dx1, upd_ne (Ne.symm ld1), upd_ne dx1, upd_same]
      · rw [upd_ne lx1, upd_same]
        rfl
    simp only [List.length_map, hlen] at frx stx ⊢
    generalize upd (upd (upd (upd (upd H x (.ins C dx (putF "_many" (.int (nss.length : Int)) (putF "_width" (.int (n : Int)) [])))) d (.dK [])) x (.ins C dx (putF "_steps" (.ref d) (putF "_many" (.int (nss.length : Int)) (putF "_width" (.int (n : Int)) []))))) l (.lst [])) x (.ins C dx (fsS (S0 n nss.length) d l)) = He at frx stx ⊢
    have adn : a ≠ d := fun z => by rw [z, hd0] at ha; cases ha
    have aln : a ≠ l := fun z => by rw [z, hl0] at ha; cases ha
    refine ⟨_, rfl, a, _, rfl, Evl.sq_of (frx _ _ ax ha), for_enum (xs := rs.map V.ref) (fun i σ' H' => ∃ (Si : Sm.Sts) (y3 y4 : Option V), σ' = [some (.ref x), some (.int (n : Int)), some (.ref a), y3, y4] ∧ Fr d l He H' ∧ StA H' C x d l Si ∧ Sm.Fin (Sm.rowsR nss) i Si ∧ Si.w = n ∧ Si.m = nss.length ∧ Sm.AllOk z (nss.drop i) i Si ∧ Sm.Sts.all (nss.drop i) i Si = Sm.stairs n nss)
      ⟨S0 n nss.length, none, none, rfl, Fr.refl, stx, Sm.fin0, rfl, rfl, ho, rfl⟩ (fun i σ' H' _ ⟨_, _, _, _, fr, _⟩ => Evl.sq_of (fr _ _ adn aln (frx _ _ ax ha))) ?_ ?_⟩
    · rintro i v σ' H' T hv ⟨Si, y3, y4, rfl, fr, hS, FI, eW, eM, lo, le⟩ hT
      rw [List.getElem?_map] at hv
      cases hv2 : rs[i]? with
      | none => rw [hv2] at hv; cases hv
      | some r =>
        rw [hv2] at hv
        cases hv
        obtain ⟨ns, g1, g2⟩ := hr1.get hv2
        have hi : i < nss.length := (List.getElem?_eq_some_iff.mp g1).1
        have hns : ns.length = n := hn ns (List.mem_of_getElem? g1)
        have ed : nss.drop i = ns :: nss.drop (i + 1) := by
          rw [List.drop_eq_getElem_cons hi]
          congr 1
          exact (List.getElem?_eq_some_iff.mp g1).2
        rw [ed] at lo le
        obtain ⟨⟨lo1, lo2⟩, lo3⟩ := lo
        have rx : r ≠ x := fun z => by rw [z, hx] at g2; cases g2
        have rdn : r ≠ d := fun z => by rw [z, hd0] at g2; cases g2
        have rln : r ≠ l := fun z => by rw [z, hl0] at g2; cases g2
        have eT := ev_up (o := .tup [.int (i : Nat), .ref r]) hT
        refine ⟨T, _, rfl, Evl.st_of upd_same, rfl, _, _, rfl, _, _, rfl, rfl, ?_⟩
        have hrH := eT _ _ (fr _ _ rdn rln (frx _ _ rx g2))
        have hST := hS.ex eT
        have frT := fr.trans (Fr.of_ex (d := d) (l := l) eT)
        generalize upd H' T (.tup [.int (i : Nat), .ref r]) = H1 at hrH hST frT ⊢
        obtain ⟨dx1, ho1⟩ := hST.obj
        refine ⟨_, rfl, x, dx1, _, rfl, ho1, lkLay Si d l, _, rfl, _, rfl, _, rfl, _, rfl, x, C, dx1, _, _, rfl, ho1, cl.cl, cl.nM, lkM Si d l, i, Si.m, rfl, by omega, fun u H2 hu e2 hu2 => ?_⟩
        have hul : (Sm.unit i Si.m).length = Si.m := by simp [Sm.unit]
        refine ⟨r, u, _, _, rfl, rfl, e2 _ _ hrH, hu2, Evl.sz_of (by rw [List.length_map, List.length_map, hul]; omega), fun t ht => ?_⟩
        have e3 := e2.trans (ev_up (o := .lst (ns.map V.int ++ (Sm.unit i Si.m).map V.int)) ht)
        have h3 : upd H2 t (.lst (ns.map V.int ++ (Sm.unit i Si.m).map V.int)) t = some (.lst ((ns ++ Sm.unit i Si.m).map V.int)) := by rw [upd_same, List.map_append]
        generalize upd H2 t (.lst (ns.map V.int ++ (Sm.unit i Si.m).map V.int)) = H3 at e3 h3 ⊢
        have hrow : ∀ j, j < Si.w → Sm.gf ns j = Sm.rowsR nss i j := fun j hj => by
          rw [Sm.rowsR_at hi]
          congr 1
          exact (List.getElem?_eq_some_iff.mp g1).2.symm
        have M := Sm.mid_start (row := ns) FI.g (by omega) (by omega) hrow
        have cn := FI.cnt
        unfold Sm.Sts.gens at cn
        rw [List.length_append] at cn
        refine ⟨x, d, l, t, Si, _, Sm.rowsR nss, i, z, rfl, hST.ex e3, M, by omega, by omega, by omega, hz, h3, lo1, fun H4 fr4 hS4 => ?_⟩
        have L := Sm.lay_ok (at_ := i) Si.w 0 Si (ns ++ Sm.unit i Si.m) (by omega) M
        rw [← List.range_eq_range'] at L
        have lc := L.cnt
        unfold Sm.Sts.gens at lc
        rw [List.length_append, List.length_append] at lc
        have lW := L.w
        have lM := L.m
        have tw : (Si.turn i ns) = Sm.Sts.tidy (List.range Si.w) (Sm.Sts.lay i (List.range Si.w) Si (ns ++ Sm.unit i Si.m)) := rfl
        obtain ⟨F1, w1, m1⟩ := Sm.turn_ok (row := ns) FI (by omega) (by omega) hrow
        generalize Sm.Sts.lay i (List.range Si.w) Si (ns ++ Sm.unit i Si.m) = T4 at hS4 L lc lW lM lo2 tw
        obtain ⟨dx4, ho4⟩ := hS4.obj
        refine ⟨_, rfl, x, dx4, _, rfl, ho4, lkTidy T4 d l, x, d, l, T4, Sm.rowsR nss, i + 1, z, rfl, hS4, L.g, by omega, by omega, by omega, by omega, hz, by rw [lW]; exact lo2, fun H5 fr5 hS5 => ?_⟩
        rw [lW, ← tw] at hS5
        exact ⟨Si.turn i ns, _, _, rfl, ((frT.trans (Fr.of_ex e3)).trans fr4).trans fr5, hS5, F1, by omega, by omega, lo3, le⟩
    · rintro σ' H' ⟨Si, y3, y4, rfl, fr, hS, FI, eW, eM, lo, le⟩
      rw [List.length_map, hlen, List.drop_length] at le
      have le : Si = Sm.stairs n nss := le
      rw [le] at hS
      refine k H' d l (fun b o hb e => ?_) hd0 hl0 hS
      have bd : b ≠ d := fun z => by rw [z, hd0] at e; cases e
      have bl : b ≠ l := fun z => by rw [z, hl0] at e; cases e
      exact fr b o bd bl (frx b o hb e)
end
end Sr
/-! # S6 -/
namespace Sr
open PySem PySem.Spec PyProof.Rows L2
open Evl (Ex Ev EvL EvU EvT EvA RetL RetV)
section
variable {P : Program} {w : World} {K : PySem.W.Frag} {mg : Str → Option Value} {base : Heap} {f : Addr} {fd : FuncData}
/-! ### stairs made by others -/
structure StMk (P : Program) (w : World) (K : PySem.W.Frag) (mg : Str → Option Value) (base : Heap) (C : Addr) : Prop where
  ex : ∃ f fd, Mk K C f ∧ FnOk P w K mg base CX0 37 f fd ["self", "width", "rows"] (spSInit C) ∧ Binds K fd ["self", "width", "rows"] []
  g : mg "Stairs" = some (.ref C)
theorem st_make {C : Addr} {n : Nat} {a : Addr} {rs : List Addr} {nss : List (List Int)} {z : Nat} {H : Hp} {Q : Addr → Hp → Prop} (ha : H a = some (.lst (rs.map V.ref))) (hr : RowsL H rs nss) (hn : ∀ ns ∈ nss, ns.length = n) (h40 : n ≤ 40) (hm : nss.length ≤ 40) (hz : zL z) (ho : Sm.AllOk z nss 0 (S0 n nss.length))
    (q : ∀ x d l H', Ex H H' → H x = none → H d = none → H l = none → StA H' C x d l (Sm.stairs n nss) → Q x H') :
    ∀ x dx, H x = none → H dx = none → dx ≠ x → spSInit C [.ref x, .int (n : Int), .ref a] (upd (upd H dx (.own x)) x (.ins C dx [])) (fun v H2 => v = .non ∧ Q x H2) E0 := by
  intro x dx hx hdx hne
  have e0 : Ex H (upd (upd H dx (.own x)) x (.ins C dx [])) := by
    refine (ev_up hdx).trans (ev_up ?_)
    rw [upd_ne (Ne.symm hne)]
    exact hx
  have hx0 : upd (upd H dx (.own x)) x (.ins C dx []) x = some (.ins C dx []) := upd_same
  generalize upd (upd H dx (.own x)) x (.ins C dx []) = H0 at e0 hx0 ⊢
  refine ⟨x, dx, a, n, rs, nss, z, rfl, hx0, e0 _ _ ha, hr.ex e0, hn, h40, hm, hz, ho, fun H' d l fr hd hl hS => ⟨rfl, q x d l H' (fun b o e => fr b o (fun z => by rw [z, hx] at e; cases e) (e0 _ _ e)) hx (Evl.fresh_back e0 hd) (Evl.fresh_back e0 hl) hS⟩⟩
/-! ### a copy for each pair -/
theorem lcRowsT {a : Addr} {ts : List Addr} {L : List (Nat × Sm.Row)} {tl te : TE} {σ : L2.St} {H : Hp} {K : PySem.W.Frag} {j1 j2 : Nat} {vs : List Nat} (gs : List (List Int)) (h : Ev tl σ H (.ref a)) (hx : SqL K H a (ts.map V.ref)) (hL : PrA H ts L) (hg : gs.length = L.length) (hz : ts.length ≤ 40000)
    (hw : ∀ x y, wipe (((wipe σ vs).set j1 (some x)).set j2 (some y)) vs = wipe σ vs)
    (he : ∀ (i : Nat) (q : Nat × Sm.Row) (r : Addr) (ns : List Int) H1, Ex H H1 → L[i]? = some q → H1 r = some (.lst (q.2.map V.int)) → gs[i]? = some ns → EvL te (((wipe σ vs).set j1 (some (.int (q.1 : Int)))).set j2 (some (.ref r))) H1 (ns.map V.int)) :
    EvX (tLc (iList K tl) (gTup K 2 (gCons (gName j1) (gCons (gName j2) gNil))) tYes te vs) σ H (fun v H2 => ∃ p qs, v = .ref p ∧ H p = none ∧ H2 p = some (.lst (qs.map V.ref)) ∧ RowsL H2 qs gs ∧ ∀ q ∈ qs, H q = none ∧ q ≠ p) := fun H0 e Q q => h H0 e _ fun H1 e1 => ⟨a, rfl, ⟨_, Evl.ex_l (e.trans e1) hx⟩, fun Dl hD => by
  have hlen := hL.len
  refine lc_list (xs := ts.map V.ref) (Cwr H1 gs Dl) ⟨hD, Evl.Ex.new hD, [], upd_same, trivial, fun q hq => by cases hq⟩ (fun i H' _ p => Evl.ex_l ((e.trans e1).trans p.2.1) hx) (fun i x H' hi p => ?_) (fun H' ⟨p1, p2, qs, p3, p4, p5⟩ => ?_)
  · rw [List.getElem?_map] at hi
    cases hi2 : ts[i]? with
    | none => rw [hi2] at hi; cases hi
    | some t =>
      rw [hi2] at hi
      cases hi
      obtain ⟨q', r, g0, g1, g2⟩ := hL.get hi2
      obtain ⟨p1, p2, qs, p3, p4, p5⟩ := p
      have e2 := (e.trans e1).trans p2
      have hlt : i < L.length := (List.getElem?_eq_some_iff.mp g0).1
      have hgi : gs[i]? = some gs[i] := List.getElem?_eq_getElem (by omega)
      refine ⟨t, _, rfl, Evl.st_of (e2 _ _ g1), rfl, _, _, rfl, _, _, rfl, rfl, hw _ _, ?_⟩
      show te _ H' fun y H4 => _
      refine he i q' r gs[i] H' e2 g0 (e2 _ _ g2) hgi H' (Ex.refl H') _ fun r' H4 hr e4 h4 => ?_
      have rD : r' ≠ Dl := fun z => by
        rw [z, p3] at hr
        cases hr
      refine ⟨qs.map V.ref, e4 Dl _ p3, ?_, p1, Evl.Ex.mut (p2.trans e4) p1, qs ++ [r'], ?_, ?_, ?_⟩
      · have := p4.len
        rw [List.length_map, this, List.length_take]
        exact Evl.sz_lt (by omega)
      · rw [upd_same, List.map_append]
        rfl
      · rw [List.take_succ, hgi]
        refine RowsL.app ?_ ?_
        · exact ⟨by rw [upd_ne rD]; exact h4, trivial⟩
        · exact (p4.ex e4).upd fun q hq => (p5 q hq).2
      · intro q hq
        rcases List.mem_append.mp hq with hq | hq
        · exact p5 q hq
        · rw [List.mem_singleton.mp hq]
          exact ⟨Evl.fresh_back p2 hr, rD⟩
  · rw [List.length_map, List.take_of_length_le (by omega)] at p4
    exact q (.ref Dl) H' (e1.trans p2) ⟨Dl, qs, rfl, Evl.fresh_back e (Evl.fresh_back e1 p1), p3, p4, fun r hr => ⟨Evl.fresh_back e (Evl.fresh_back e1 (p5 r hr).1), (p5 r hr).2⟩⟩⟩
theorem lcRowsD {a : Addr} {xs : List V} {te : TE} {σ : L2.St} {H : Hp} {K : PySem.W.Frag} {j : Nat} {vs : List Nat} {Dl : Addr} {Qd : Hp → Prop} (gs : List (List Int)) (hD : H Dl = none) (hx : SqL K H a xs) (hg : gs.length = xs.length) (hz : xs.length ≤ 40000) (hw : ∀ x, wipe ((wipe σ vs).set j (some x)) vs = wipe σ vs)
    (he : ∀ (i : Nat) (x : V) (ns : List Int) H1, Ex H H1 → xs[i]? = some x → gs[i]? = some ns → EvL te ((wipe σ vs).set j (some x)) H1 (ns.map V.int))
    (q : ∀ qs H2, Ex H H2 → H2 Dl = some (.lst (qs.map V.ref)) → RowsL H2 qs gs → (∀ r ∈ qs, H r = none ∧ r ≠ Dl) → Qd H2) :
    ∃ W : Nat → Nat → Hp → Prop, (∃ m, W 0 m (upd H Dl (.lst []))) ∧ ∀ i m H', W i m H' →
      ((Itl K a).stop i H' ∧ Qd H') ∨ ((Itl K a).go i H' ∧ ∃ Nx : Hp → Prop, (∀ H'', Nx H'' → ∃ m', m' < m ∧ W (i + 1) m' H'') ∧ ∀ x H'', (Itl K a).yld i H' x H'' → gName j x (wipe σ vs) H'' fun σ2 H2 => wipe σ2 vs = wipe σ vs ∧ tYes σ2 H2 fun b H3 =>
        if b = true then te σ2 H3 fun y H4 => ∃ acc, H4 Dl = some (.lst acc) ∧ acc.length < sizeLine ∧ Nx (upd H4 Dl (.lst (acc ++ [y]))) else Nx H3) := by
  refine lc_list (xs := xs) (Cwr H gs Dl) ⟨hD, Evl.Ex.new hD, [], upd_same, trivial, fun q hq => by cases hq⟩ (fun i H' _ p => Evl.ex_l p.2.1 hx) (fun i x H' hi p => ⟨hw x, ?_⟩) (fun H' ⟨p1, p2, qs, p3, p4, p5⟩ => ?_)
  · obtain ⟨p1, p2, qs, p3, p4, p5⟩ := p
    have hlt : i < xs.length := (List.getElem?_eq_some_iff.mp hi).1
    have hgi : gs[i]? = some gs[i] := List.getElem?_eq_getElem (by omega)
    show te _ H' fun y H4 => _
    refine he i x gs[i] H' p2 hi hgi H' (Ex.refl H') _ fun r H4 hr e4 h4 => ?_
    have rD : r ≠ Dl := fun z => by
      rw [z, p3] at hr
      cases hr
    refine ⟨qs.map V.ref, e4 Dl _ p3, ?_, p1, Evl.Ex.mut (p2.trans e4) p1, qs ++ [r], ?_, ?_, ?_⟩
    · have := p4.len
      rw [List.length_map, this, List.length_take]
      exact Evl.sz_lt (by omega)
    · rw [upd_same, List.map_append]
      rfl
    · rw [List.take_succ, hgi]
      refine RowsL.app ?_ ?_
      · exact ⟨by rw [upd_ne rD]; exact h4, trivial⟩
      · exact (p4.ex e4).upd fun q hq => (p5 q hq).2
    · intro q hq
      rcases List.mem_append.mp hq with hq | hq
      · exact p5 q hq
      · rw [List.mem_singleton.mp hq]
        exact ⟨Evl.fresh_back p2 hr, rD⟩
  · rw [List.take_of_length_le (by omega)] at p4
    exact q qs H' p2 p3 p4 p5
theorem cut_to (xs : List V) (k : Nat) : cutV xs none (some (k : Int)) = xs.take k := by
  unfold cutV
  rw [HT.sIx_nat, HT.sIx_none]
  by_cases h : k ≤ xs.length
  · rw [Nat.min_eq_left h]
    simp
  · rw [Nat.min_eq_right (by omega), List.take_of_length_le (i := k) (by omega)]
    simp
/-- the keys in order -/
theorem DicA.sorted {H : Hp} {kvs : List (L2.Key × V)} {S : Sm.Sts} (h : DicA H kvs S) : ∃ ks : List Int, kvs.map (·.1) = ks.map Sum.inl ∧ ks.length ≤ S.w ∧ ∀ ys : List Int, ys.Perm ks → ys.Pairwise (· ≤ ·) → ys = (S.cols 0).map fun q => (q.1 : Int) := by
  obtain ⟨ks, h1, h2, h3⟩ := h.keys
  refine ⟨ks.map fun c : Nat => (c : Int), by rw [h1, List.map_map]; rfl, by rw [List.length_map]; exact nodup_lt _ _ h2 h3, fun ys hp hs => ?_⟩
  have mem : ∀ c, c ∈ ks ↔ S.st c ≠ none := fun c => by
    have v : (kvs.any fun kv => decide (kv.1 = (Sum.inl (c : Int) : L2.Key))) = true ↔ c ∈ ks := by
      rw [List.any_eq_true]
      constructor
      · rintro ⟨kv, hkv, e⟩
        have e := of_decide_eq_true e
        have : kv.1 ∈ kvs.map (·.1) := List.mem_map.mpr ⟨kv, hkv, rfl⟩
        rw [h1, e] at this
        obtain ⟨a, ha, e2⟩ := List.mem_map.mp this
        injection e2 with e2
        have : a = c := by omega
        exact this ▸ ha
      · intro hm
        have : (Sum.inl (c : Int) : L2.Key) ∈ kvs.map (·.1) := by rw [h1]; exact List.mem_map.mpr ⟨c, hm, rfl⟩
        obtain ⟨kv, hkv, e⟩ := List.mem_map.mp this
        exact ⟨kv, hkv, by simp [e]⟩
    rw [← v, valV_any]
    rcases h.get c with ⟨g1, g2⟩ | ⟨row, r, g1, g2, _⟩
    · rw [g1, g2]; simp
    · rw [g1, g2]; simp
  have pw : ((S.cols 0).map fun q => q.1).Pairwise (· < ·) := by
    unfold Sm.Sts.cols Sm.Sts.colsB
    rw [List.map_filterMap, List.pairwise_filterMap]
    refine (List.pairwise_lt_range' (s := 0) (n := S.w - 0) 1 (by decide)).imp fun {a b} hab x hx y hy => ?_
    cases ha : S.st a with
    | none => rw [ha] at hx; cases hx
    | some u =>
      cases hb : S.st b with
      | none => rw [hb] at hy; cases hy
      | some v =>
        rw [ha] at hx
        rw [hb] at hy
        cases hx
        cases hy
        exact hab
  have nd : ((S.cols 0).map fun q => q.1).Nodup := pw.imp fun h => Nat.ne_of_lt h
  have pm : ks.Perm ((S.cols 0).map fun q => q.1) := by
    rw [List.perm_ext_iff_of_nodup h2 nd]
    intro c
    rw [mem, List.mem_map]
    constructor
    · intro hc
      obtain ⟨row, hr⟩ := Option.ne_none_iff_exists'.mp hc
      exact ⟨(c, row), Sm.mem_cols.mpr ⟨Nat.zero_le _, h.lt hr, hr⟩, rfl⟩
    · rintro ⟨⟨d, row⟩, hq, rfl⟩
      have := (Sm.mem_cols.mp hq).2.2
      show S.st d ≠ none
      rw [this]
      exact fun z => nomatch z
  have e : ((S.cols 0).map fun q => (q.1 : Int)) = ((S.cols 0).map fun q => q.1).map fun c : Nat => (c : Int) := by rw [List.map_map]; rfl
  rw [e]
  refine List.Perm.eq_of_pairwise (le := (· ≤ ·)) (fun a b _ _ h1 h2 => Int.le_antisymm h1 h2) hs ?_ (hp.trans (pm.map _))
  rw [List.pairwise_map]
  exact pw.imp fun h => by omega
def RetR (gs : List (List Int)) (H : Hp) (Q : VK) : Prop := ∀ p qs H', H p = none → Ex H H' → H' p = some (.lst (qs.map V.ref)) → RowsL H' qs gs → (∀ q ∈ qs, H q = none ∧ q ≠ p) → Q (.ref p) H'
def spStep (C : Addr) (g : Sm.Sts → List (List Int)) : Sp := fun vs H Q _ => ∃ (x d l : Addr) (S : Sm.Sts), vs = [.ref x] ∧ StA H C x d l S ∧ S.w ≤ 40 ∧ S.idle.length ≤ 40 ∧ RetR (g S) H Q
theorem ok_steps {C : Addr} (F : FnP K "steps" "Stairs.steps" s_Stairs_steps f fd) (Bsorted : mg "sorted" = none) (cl : Sc K C) : FnOk P w K mg base CX0 1 f fd ["self"] (spStep C Sm.Sts.steps) := by
  refine F.ok sc_Stairs_steps (fun vs H Q E h => ?_) (fun cdv A outer s H vs Q E hr h => ⟨_, PSs.nox
   (pss_one (ps_ret (pe_lc (own := [("column", 1)]) (g := gName 1) (tt := tYes) rfl sc_Stairs_steps.nd (pi_list (pe_callB (call_sortedDI rfl) rfl Bsorted boot_sorted (pa_cons (pe_fld (pv 0) rfl) pa_nil))) (blkOk_by (N := n_Stairs_steps) (sc := defScope s_Stairs_steps) (by decide +kernel)) (fun _ _ _ _ _ => (pg_name (i := 1) sc_Stairs_steps.nd rfl (Or.inl rfl))) (fun _ _ _ _ _ => pts_nil) (fun _ _ _ _ _ => (pe_slice (r := rSlL K) sl_list (pe_dget (by exact hu1 hr) (pe_fldK (K1 := K) rfl (pv 0) rfl) (pv 1) (fun _ _ => rfl)) po_none (po_some (pe_fldK (K1 := K) rfl (pv 0) rfl))))))), ?_⟩)
  · obtain ⟨x, d, l, S, rfl, _⟩ := h
    rfl
  · obtain ⟨x, d, l, S, rfl, hS, hw, hi, k⟩ := h
    simp only [cxK]
    obtain ⟨dx, hob⟩ := hS.obj
    obtain ⟨kvs, hd, hD⟩ := hS.dic
    obtain ⟨ks, k1, k2, k3⟩ := hD.sorted
    refine ⟨_, rfl, x, C, dx, _, _, rfl, hob, cl.cl, cl.nS, lkS S d l, d, kvs, ks, rfl, .inl hd, k1, by omega, fun ys p pm ps hp => ?_⟩
    have ey := k3 ys pm ps
    have eP := ev_up (o := .lst (ys.map V.int)) hp
    have hp1 : upd H p (.lst (ys.map V.int)) p = some (.lst (ys.map V.int)) := upd_same
    generalize upd H p (.lst (ys.map V.int)) = H1 at eP hp1 ⊢
    have yl : ys.length = (S.cols 0).length := by rw [ey, List.length_map]
    have cl0 : (S.cols 0).length ≤ S.w := Sm.colsB_len (S := S) (a := 0) (b := S.w)
    refine lcRows (tl := tC (.ref p)) S.steps Evl.ev_c (Evl.sq_of hp1) (by rw [List.length_map, yl, Sm.steps_len]) (by rw [List.length_map]; omega) (fun x => rfl) (fun i v ns H2 e2 hv hn => ?_) H1 (Ex.refl H1) _ ?_
    · rw [ey, List.map_map, List.getElem?_map] at hv
      unfold Sm.Sts.steps at hn
      rw [List.getElem?_map] at hn
      cases hq : (S.cols 0)[i]? with
      | none => rw [hq] at hv; cases hv
      | some q =>
        rw [hq] at hv hn
        cases hv
        cases hn
        obtain ⟨c, row⟩ := q
        have hst := (Sm.mem_cols.mp (List.mem_of_getElem? hq)).2.2
        obtain ⟨r, g2, g3⟩ := hD.yes c row hst
        have e3 := eP.trans e2
        intro H3 e4 Q1 q1
        have e5 := e3.trans e4
        refine ⟨_, rfl, x, C, dx, _, _, rfl, e5 _ _ hob, cl.cl, cl.nS, lkS S d l, _, rfl, d, .ref r, rfl, g2 ▸ DGet.k (k := Sum.inl (c : Int)) (e5 _ _ hd), ?_⟩
        refine ⟨_, rfl, x, C, dx, _, _, rfl, e5 _ _ hob, cl.cl, cl.nW, lkW S d l, _, rfl, ?_⟩
        refine ⟨r, _, rfl, Evl.sq_of (e5 _ _ g3), fun u hu => q1 u _ hu (ev_up hu) ?_⟩
        rw [upd_same, cut_to, List.map_take]
    · rintro _ H2 e2 ⟨p2, qs, rfl, hp2, hp3, hq, hqs⟩
      exact k p2 qs H2 (Evl.fresh_back eP hp2) (eP.trans e2) hp3 hq fun r hr => ⟨Evl.fresh_back eP (hqs r hr).1, (hqs r hr).2⟩
theorem ok_step_times {C : Addr} (F : FnP K "step_times" "Stairs.step_times" s_Stairs_step_times f fd) (Bsorted : mg "sorted" = none) (cl : Sc K C) : FnOk P w K mg base CX0 1 f fd ["self"] (spStep C Sm.Sts.stepTimes) := by
  refine F.ok sc_Stairs_step_times (fun vs H Q E h => ?_) (fun cdv A outer s H vs Q E hr h => ⟨_, PSs.nox
   (pss_one (ps_ret (pe_lc (own := [("column", 1)]) (g := gName 1) (tt := tYes) rfl sc_Stairs_step_times.nd (pi_list (pe_callB (call_sortedDI rfl) rfl Bsorted boot_sorted (pa_cons (pe_fld (pv 0) rfl) pa_nil))) (blkOk_by (N := n_Stairs_step_times) (sc := defScope s_Stairs_step_times) (by decide +kernel)) (fun _ _ _ _ _ => (pg_name (i := 1) sc_Stairs_step_times.nd rfl (Or.inl rfl))) (fun _ _ _ _ _ => pts_nil) (fun _ _ _ _ _ => (pe_slice (r := rSlL K) sl_list (pe_dget (by exact hu1 hr) (pe_fldK (K1 := K) rfl (pv 0) rfl) (pv 1) (fun _ _ => rfl)) (po_some (pe_fldK (K1 := K) rfl (pv 0) rfl)) po_none))))), ?_⟩)
  · obtain ⟨x, d, l, S, rfl, _⟩ := h
    rfl
  · obtain ⟨x, d, l, S, rfl, hS, hw, hi, k⟩ := h
    simp only [cxK]
    obtain ⟨dx, hob⟩ := hS.obj
    obtain ⟨kvs, hd, hD⟩ := hS.dic
    obtain ⟨ks, k1, k2, k3⟩ := hD.sorted
    refine ⟨_, rfl, x, C, dx, _, _, rfl, hob, cl.cl, cl.nS, lkS S d l, d, kvs, ks, rfl, .inl hd, k1, by omega, fun ys p pm ps hp => ?_⟩
    have ey := k3 ys pm ps
    have eP := ev_up (o := .lst (ys.map V.int)) hp
    have hp1 : upd H p (.lst (ys.map V.int)) p = some (.lst (ys.map V.int)) := upd_same
    generalize upd H p (.lst (ys.map V.int)) = H1 at eP hp1 ⊢
    have yl : ys.length = (S.cols 0).length := by rw [ey, List.length_map]
    have cl0 : (S.cols 0).length ≤ S.w := Sm.colsB_len (S := S) (a := 0) (b := S.w)
    have sl : S.stepTimes.length = (S.cols 0).length := by unfold Sm.Sts.stepTimes; rw [List.length_map]
    refine lcRows (tl := tC (.ref p)) S.stepTimes Evl.ev_c (Evl.sq_of hp1) (by rw [List.length_map, yl, sl]) (by rw [List.length_map]; omega) (fun x => rfl) (fun i v ns H2 e2 hv hn => ?_) H1 (Ex.refl H1) _ ?_
    · rw [ey, List.map_map, List.getElem?_map] at hv
      unfold Sm.Sts.stepTimes at hn
      rw [List.getElem?_map] at hn
      cases hq : (S.cols 0)[i]? with
      | none => rw [hq] at hv; cases hv
      | some q =>
        rw [hq] at hv hn
        cases hv
        cases hn
        obtain ⟨c, row⟩ := q
        have hst := (Sm.mem_cols.mp (List.mem_of_getElem? hq)).2.2
        obtain ⟨r, g2, g3⟩ := hD.yes c row hst
        have e3 := eP.trans e2
        intro H3 e4 Q1 q1
        have e5 := e3.trans e4
        refine ⟨_, rfl, x, C, dx, _, _, rfl, e5 _ _ hob, cl.cl, cl.nS, lkS S d l, _, rfl, d, .ref r, rfl, g2 ▸ DGet.k (k := Sum.inl (c : Int)) (e5 _ _ hd), ?_⟩
        refine ⟨_, rfl, x, C, dx, _, _, rfl, e5 _ _ hob, cl.cl, cl.nW, lkW S d l, _, rfl, ?_⟩
        refine ⟨r, _, rfl, Evl.sq_of (e5 _ _ g3), fun u hu => q1 u _ hu (ev_up hu) ?_⟩
        rw [upd_same, cut_from, List.map_drop]
    · rintro _ H2 e2 ⟨p2, qs, rfl, hp2, hp3, hq, hqs⟩
      exact k p2 qs H2 (Evl.fresh_back eP hp2) (eP.trans e2) hp3 hq fun r hr => ⟨Evl.fresh_back eP (hqs r hr).1, (hqs r hr).2⟩
theorem ok_idle_times {C : Addr} (F : FnP K "idle_times" "Stairs.idle_times" s_Stairs_idle_times f fd) (cl : Sc K C) : FnOk P w K mg base CX0 1 f fd ["self"] (spStep C Sm.Sts.idleTimes) := by
  refine F.ok sc_Stairs_idle_times (fun vs H Q E h => ?_) (fun cdv A outer s H vs Q E hr h => ⟨_, PSs.nox
   (pss_one (ps_ret (pe_lc (own := [("_", 1), ("long", 2)]) (g := gTup K 2 (gCons (gName 1) (gCons (gName 2) gNil))) (tt := tYes) rfl sc_Stairs_idle_times.nd (pi_list (pe_fld (pv 0) rfl)) (blkOk_by (N := n_Stairs_idle_times) (sc := defScope s_Stairs_idle_times) (by decide +kernel)) (fun _ _ _ _ _ => (pg_tup rfl (pgs_cons (pg_name (i := 1) sc_Stairs_idle_times.nd rfl (Or.inl rfl)) (pgs_cons (pg_name (i := 2) sc_Stairs_idle_times.nd rfl (Or.inl rfl)) pgs_nil)))) (fun _ _ _ _ _ => pts_nil) (fun _ _ _ _ _ => (pe_slice (r := rSlL K) sl_list (pv 2) (po_some (pe_fldK (K1 := K) rfl (pv 0) rfl)) po_none))))), ?_⟩)
  · obtain ⟨x, d, l, S, rfl, _⟩ := h
    rfl
  · obtain ⟨x, d, l, S, rfl, hS, hw, hi, k⟩ := h
    simp only [cxK]
    obtain ⟨dx, hob⟩ := hS.obj
    obtain ⟨is, hl2, hI⟩ := hS.idl
    have li := hI.len
    have sl : S.idleTimes.length = S.idle.length := by unfold Sm.Sts.idleTimes; rw [List.length_map]
    refine ⟨_, rfl, x, C, dx, _, _, rfl, hob, cl.cl, cl.nI, lkI S d l, ?_⟩
    refine lcRowsT (tl := tC (.ref l)) (L := S.idle) S.idleTimes Evl.ev_c (Evl.sq_of hl2) hI sl (by omega) (fun x y => rfl) (fun i q r ns H1 e1 hq hr1 hn => ?_) H (Ex.refl H) _ ?_
    · unfold Sm.Sts.idleTimes at hn
      rw [List.getElem?_map, hq] at hn
      cases hn
      intro H3 e4 Q1 q1
      have e5 := e1.trans e4
      refine ⟨_, rfl, _, rfl, x, C, dx, _, _, rfl, e5 _ _ hob, cl.cl, cl.nW, lkW S d l, _, rfl, ?_⟩
      refine ⟨r, _, rfl, Evl.sq_of (e4 _ _ hr1), fun u hu => q1 u _ hu (ev_up hu) ?_⟩
      rw [upd_same, cut_from, List.map_drop]
    · rintro _ H2 e2 ⟨p2, qs, rfl, hp2, hp3, hq, hqs⟩
      exact k p2 qs H2 hp2 e2 hp3 hq hqs
end
end Sr
/-! # S7 -/
namespace Sr
open PySem PySem.Spec PyProof.Rows L2
open Evl (Ex Ev EvL EvU EvT EvA RetL RetV)
section
variable {P : Program} {w : World} {K : PySem.W.Frag} {mg : Str → Option Value} {base : Heap} {f : Addr} {fd : FuncData}
theorem map_getD {β : Type} (g : Int → β) (ys : List Int) : ys.map g = (List.range ys.length).map fun i => g (ys.getD i 0) := by
  apply List.ext_getElem?
  intro i
  by_cases hi : i < ys.length
  · simp [hi, List.getD_eq_getElem?_getD]
  · simp [hi]
abbrev pad (S : Sm.Sts) (row : Sm.Row) : Sm.Row := row ++ List.replicate S.m 0
def spRest (C : Addr) : Sp := fun vs H Q _ => ∃ (x d l p : Addr) (S : Sm.Sts) (row : Sm.Row) (z : Nat), vs = [.ref x, .ref p] ∧ StA H C x d l S ∧ Sn S ∧ zL z ∧ H p = some (.lst (row.map V.int)) ∧ row.length = S.w ∧ Sm.FoldOk z (S.cols 0 ++ S.idle) (pad S row) ∧ RetL ((S.rest row).map V.int) H Q
theorem tidied_len {S : Sm.Sts} (sn : Sn S) {x : Sm.Row} {a : Nat} (h : x.length = S.w + S.m) : (S.tidied x a).length = S.w + S.m := Sm.foldl_redR_len h fun q hq => (sn.gens q (by
  rcases List.mem_append.mp hq with hq | hq
  · obtain ⟨c0, s0⟩ := q
    obtain ⟨_, g2, g3⟩ := Sm.mem_cols.mp hq
    exact Sm.mem_gens.mpr (.inl ⟨g2, g3⟩)
  · exact Sm.mem_gens.mpr (.inr hq))).1
theorem ok_rest {C : Addr} (F : FnP K "rest" "Stairs.rest" s_Stairs_rest f fd) (cl : Sc K C) (MT : Mt P w K mg base CX0 34 C "_tidied" ["self", "long", "start"] (spTid C)) : FnOk P w K mg base CX0 35 f fd ["self", "row"] (spRest C) := by
  obtain ⟨fT, fdT, FT, mT, bT⟩ := MT
  refine F.ok sc_Stairs_rest (fun vs H Q E h => ?_) (fun cdv A outer s H vs Q E hr h => ⟨_, PSs.nox
   (pss_one (ps_ret (pe_slice sl_list (pe_meth (pv 0) cl.cl mT FT (hr.mono (by decide)) bT .nil pass0 (pa_cons (pe_op op_cat (pv 1) (pe_op op_rep (pe_lst (pa_cons pe_int pa_nil)) (pe_fld (pv 0) rfl))) (pa_cons pe_int pa_nil))) po_none (po_some (pe_fld (pv 0) rfl))))), ?_⟩)
  · obtain ⟨x, d, l, p, S, row, z, rfl, _⟩ := h
    rfl
  · obtain ⟨x, d, l, p, S, row, z, rfl, hS, sn, hz, hp, hl, ho, k⟩ := h
    simp only [cxK]
    obtain ⟨dx, hob⟩ := hS.obj
    have s1 := sn.w
    have s2 := sn.m
    have pl : (pad S row).length = S.w + S.m := by simp [hl]
    refine ⟨_, rfl, x, dx, _, rfl, hob, lkT S d l, _, rfl, ?_⟩
    refine el_rep (x := .int 0) (n := (S.m : Int)) (H := H) (σ := [some (.ref x), some (.ref p)]) (fun H1 e1 Q1 q1 => ⟨_, rfl, x, C, dx, _, _, rfl, e1 _ _ hob, cl.cl, cl.nM, lkM S d l, q1 H1 (Ex.refl H1)⟩) (ek_l (Evl.el_lst (Evl.ea_cons Evl.ev_c Evl.ea_nil) (by simp))) (by omega) (by omega) H (Ex.refl H) _ fun u H1 hu e1 hu1 => ?_
    refine ⟨p, u, _, _, rfl, rfl, e1 _ _ hp, hu1, Evl.sz_of (by simp; omega), fun t ht => ?_⟩
    have ez : row.map V.int ++ List.replicate (S.m : Int).toNat (V.int 0) = (pad S row).map V.int := by
      rw [List.map_append, List.map_replicate]
      rfl
    rw [ez]
    have eT := e1.trans (ev_up (o := .lst ((pad S row).map V.int)) ht)
    have ht1 : upd H1 t (.lst ((pad S row).map V.int)) t = some (.lst ((pad S row).map V.int)) := upd_same
    generalize upd H1 t (.lst ((pad S row).map V.int)) = H2 at eT ht1 ⊢
    refine ⟨x, d, l, t, S, pad S row, 0, z, rfl, hS.ex eT, sn, hz, ht1, pl, Nat.zero_le _, ho, fun q H3 e3 h3 _ => ?_⟩
    refine ⟨_, rfl, x, C, dx, _, _, rfl, e3 _ _ (eT _ _ hob), cl.cl, cl.nW, lkW S d l, _, rfl, q, _, rfl, Evl.sq_of h3, fun v hv => ?_⟩
    rw [cut_to, ← List.map_take]
    exact k v _ (Evl.fresh_back (eT.trans e3) hv) ((eT.trans e3).trans (ev_up hv)) upd_same
/-- how many times: None where something is left -/
def RetT (S : Sm.Sts) (row : Sm.Row) (H : Hp) (Q : VK) : Prop := if ((S.rest row).any fun n => n != 0) = true then ∀ H', Ex H H' → Q .non H' else RetL ((S.timesOf row).map V.int) H Q
def spTimes (C : Addr) : Sp := fun vs H Q _ => ∃ (x d l p : Addr) (S : Sm.Sts) (row : Sm.Row) (z : Nat), vs = [.ref x, .ref p] ∧ StA H C x d l S ∧ Sn S ∧ zL z ∧ H p = some (.lst (row.map V.int)) ∧ row.length = S.w ∧ Sm.FoldOk z (S.cols 0 ++ S.idle) (pad S row) ∧ RetT S row H Q
theorem ok_times {C : Addr} (F : FnP K "times" "Stairs.times" s_Stairs_times f fd) (B : Bi mg) (cl : Sc K C) (MT : Mt P w K mg base CX0 34 C "_tidied" ["self", "long", "start"] (spTid C)) : FnOk P w K mg base CX0 35 f fd ["self", "row"] (spTimes C) := by
  obtain ⟨fT, fdT, FT, mT, bT⟩ := MT
  refine F.ok sc_Stairs_times (fun vs H Q E h => ?_) (fun cdv A outer s H vs Q E hr h => ⟨_, PSs.nox
   (pss_cons (ps_set (i := 2) sc_Stairs_times.nd rfl (Or.inl rfl) (pe_meth (pv 0) cl.cl mT FT (hr.mono (by decide)) bT .nil pass0 (pa_cons (pe_op op_cat (pv 1) (pe_op op_rep (pe_lst (pa_cons pe_int pa_nil)) (pe_fld (pv 0) rfl))) (pa_cons pe_int pa_nil))))
      (pss_cons (ps_if (pt_val (pe_callB (r := rAnyI K) (cr_anyI rfl) rfl B.any_ boot_any (pa_cons (pe_slice sl_list (pv 2) po_none (po_some (pe_fld (pv 0) rfl))) pa_nil)))
      (pss_one (ps_ret pe_non))
      pss_nil)
      (pss_one (ps_ret (pe_lc (own := [("number", 3)]) (g := gName 3) (tt := tYes) rfl sc_Stairs_times.nd (pi_list (pe_slice sl_list (pv 2) (po_some (pe_fld (pv 0) rfl)) po_none)) (blkOk_by (N := n_Stairs_times) (sc := defScope s_Stairs_times) (by decide +kernel)) (fun _ _ _ _ _ => (pg_name (i := 3) sc_Stairs_times.nd rfl (Or.inl rfl))) (fun _ _ _ _ _ => pts_nil) (fun _ _ _ _ _ => (pe_un un_neg (pv 3)))))))), ?_⟩)
  · obtain ⟨x, d, l, p, S, row, z, rfl, _⟩ := h
    rfl
  · obtain ⟨x, d, l, p, S, row, z, rfl, hS, sn, hz, hp, hl, ho, k⟩ := h
    simp only [cxK]
    obtain ⟨dx, hob⟩ := hS.obj
    have s1 := sn.w
    have s2 := sn.m
    have pl : (pad S row).length = S.w + S.m := by simp [hl]
    refine ⟨_, rfl, x, dx, _, rfl, hob, lkT S d l, _, rfl, ?_⟩
    refine el_rep (x := .int 0) (n := (S.m : Int)) (H := H) (σ := L2.start n_Stairs_times [V.ref x, V.ref p]) (fun H1 e1 Q1 q1 => ⟨_, rfl, x, C, dx, _, _, rfl, e1 _ _ hob, cl.cl, cl.nM, lkM S d l, q1 H1 (Ex.refl H1)⟩) (ek_l (Evl.el_lst (Evl.ea_cons Evl.ev_c Evl.ea_nil) (by simp))) (by omega) (by omega) H (Ex.refl H) _ fun u H1 hu e1 hu1 => ?_
    refine ⟨p, u, _, _, rfl, rfl, e1 _ _ hp, hu1, Evl.sz_of (by simp; omega), fun t ht => ?_⟩
    have ez : row.map V.int ++ List.replicate (S.m : Int).toNat (V.int 0) = (pad S row).map V.int := by
      rw [List.map_append, List.map_replicate]
      rfl
    rw [ez]
    have eT := e1.trans (ev_up (o := .lst ((pad S row).map V.int)) ht)
    have ht1 : upd H1 t (.lst ((pad S row).map V.int)) t = some (.lst ((pad S row).map V.int)) := upd_same
    generalize upd H1 t (.lst ((pad S row).map V.int)) = H2 at eT ht1 ⊢
    refine ⟨x, d, l, t, S, pad S row, 0, z, rfl, hS.ex eT, sn, hz, ht1, pl, Nat.zero_le _, ho, fun q H3 e3 h3 _ => ?_⟩
    have e03 := eT.trans e3
    have tl := tidied_len sn (a := 0) pl
    have er : S.rest row = (S.tidied (pad S row) 0).take S.w := rfl
    have et : S.timesOf row = ((S.tidied (pad S row) 0).drop S.w).map fun n => -n := rfl
    generalize S.tidied (pad S row) 0 = Y at h3 tl er et
    refine ⟨_, rfl, _, rfl, x, C, dx, _, _, rfl, e03 _ _ hob, cl.cl, cl.nW, lkW S d l, _, rfl, q, _, rfl, Evl.sq_of h3, fun v hv => ?_⟩
    rw [cut_to, ← List.map_take]
    have eV := e03.trans (ev_up (o := .lst ((Y.take S.w).map V.int)) hv)
    have hq4 := (ev_up (o := .lst ((Y.take S.w).map V.int)) hv) _ _ h3
    have hv4 : upd H3 v (.lst ((Y.take S.w).map V.int)) v = some (.lst ((Y.take S.w).map V.int)) := upd_same
    generalize upd H3 v (.lst ((Y.take S.w).map V.int)) = H4 at eV hq4 hv4 ⊢
    unfold RetT at k
    rw [er] at k
    refine ⟨v, _, rfl, Evl.sq_of hv4, _, rfl, iteB (fun hb => ?_) (fun hb => ?_)⟩
    · rw [if_pos hb] at k
      exact k H4 eV
    · rw [hb] at k
      have k := (show RetL ((S.timesOf row).map V.int) H Q from k)
      rw [et] at k
      refine ⟨_, rfl, _, rfl, x, C, dx, _, _, rfl, eV _ _ hob, cl.cl, cl.nW, lkW S d l, _, rfl, q, _, rfl, Evl.sq_of hq4, fun u hu => ?_⟩
      rw [cut_from, ← List.map_drop]
      have eU := eV.trans (ev_up (o := .lst ((Y.drop S.w).map V.int)) hu)
      have hu5 : upd H4 u (.lst ((Y.drop S.w).map V.int)) u = some (.lst ((Y.drop S.w).map V.int)) := upd_same
      generalize upd H4 u (.lst ((Y.drop S.w).map V.int)) = H5 at eU hu5 ⊢
      have hv : ((Y.drop S.w).map fun n => -n).map V.int = (List.range ((Y.drop S.w).map V.int).length).map fun i => V.int (-((Y.drop S.w).getD i 0)) := by
        rw [List.length_map, List.map_map]
        exact map_getD (fun n => V.int (-n)) (Y.drop S.w)
      refine lcLf (tl := tC (.ref u)) (fun i => V.int (-((Y.drop S.w).getD i 0))) Evl.ev_c (Evl.sq_of hu5) (by rw [List.length_map, List.length_drop]; omega) (fun x => rfl) (fun i y H6 e6 hy => ?_) H5 (Ex.refl H5) _ ?_
      · rw [List.getElem?_map] at hy
        cases hy2 : (Y.drop S.w)[i]? with
        | none => rw [hy2] at hy; cases hy
        | some n =>
          rw [hy2] at hy
          cases hy
          intro H7 e7 Q2 q2
          refine ⟨_, rfl, n, rfl, q2 _ H7 (Ex.refl H7) ?_⟩
          rw [List.getD_eq_getElem?_getD, hy2]
          rfl
      · intro p2 H6 hp2 e6 h6
        rw [← hv] at h6
        exact k p2 H6 (Evl.fresh_back eU hp2) (eU.trans e6) h6
end
end Sr
/-! # S8 -/
namespace Sr
open PySem PySem.Spec PyProof.Rows L2
open Evl (Ex Ev EvL EvU EvT EvA RetL RetV)
abbrev s_levelled : Stmt := topS 22
abbrev n_levelled : List Str := ["width", "steps", "weights", "free", "rows", "upright", "kinds", "at", "times", "row"]
theorem sc_levelled : FnScope n_levelled ["width", "steps"] (defScope s_levelled) := ⟨rfl, rfl, rfl, by decide +kernel, rfl, by decide +kernel, by decide +kernel⟩
section
variable {P : Program} {w : World} {K : PySem.W.Frag} {mg : Str → Option Value} {base : Heap} {f : Addr} {fd : FuncData}
def RwA (H : Hp) (p : Addr) (nss : List (List Int)) : Prop := ∃ rs, H p = some (.lst (rs.map V.ref)) ∧ RowsL H rs nss
theorem RwA.ex {H H' : Hp} {p : Addr} {nss : List (List Int)} (e : Ex H H') (h : RwA H p nss) : RwA H' p nss := h.elim fun rs h => ⟨rs, e _ _ h.1, h.2.ex e⟩
theorem lcED {a : Addr} {xs : List V} {te : TE} {σ : L2.St} {H : Hp} {K : PySem.W.Frag} {j1 j2 : Nat} {vs : List Nat} {Dl : Addr} {Qd : Hp → Prop} (f : Nat → V) (hD : H Dl = none) (hx : SqL K H a xs) (hz : xs.length ≤ 40000)
    (hw : ∀ x y, wipe (((wipe σ vs).set j1 (some x)).set j2 (some y)) vs = wipe σ vs)
    (he : ∀ (i : Nat) (x : V) H1, Ex H H1 → xs[i]? = some x → EvX te (((wipe σ vs).set j1 (some (.int (i : Int)))).set j2 (some x)) H1 (fun y _ => y = f i))
    (q : ∀ H2, Ex H H2 → H2 Dl = some (.lst ((List.range xs.length).map f)) → Qd H2) :
    ∃ W : Nat → Nat → Hp → Prop, (∃ m, W 0 m (upd H Dl (.lst []))) ∧ ∀ i m H', W i m H' →
      ((Ite K a).stop i H' ∧ Qd H') ∨ ((Ite K a).go i H' ∧ ∃ Nx : Hp → Prop, (∀ H'', Nx H'' → ∃ m', m' < m ∧ W (i + 1) m' H'') ∧ ∀ x H'', (Ite K a).yld i H' x H'' → gTup K 2 (gCons (gName j1) (gCons (gName j2) gNil)) x (wipe σ vs) H'' fun σ2 H2 => wipe σ2 vs = wipe σ vs ∧ tYes σ2 H2 fun b H3 =>
        if b = true then te σ2 H3 fun y H4 => ∃ acc, H4 Dl = some (.lst acc) ∧ acc.length < sizeLine ∧ Nx (upd H4 Dl (.lst (acc ++ [y]))) else Nx H3) := by
  refine ⟨fun i m H' => m = xs.length - i ∧ i ≤ xs.length ∧ Cwf H f Dl i H', ⟨xs.length, by simp, Nat.zero_le _, hD, Evl.Ex.new hD, upd_same⟩, ?_⟩
  rintro i m H' ⟨rfl, hi, p⟩
  have hx' : SqL K H' a xs := Evl.ex_l p.2.1 hx
  by_cases hlt : i < xs.length
  · refine Or.inr ⟨⟨xs, xs[i], hx', by simp [hlt]⟩, Cwf H f Dl (i + 1), fun H2 p2 => ⟨xs.length - (i + 1), by omega, rfl, by omega, p2⟩, ?_⟩
    rintro x H2 ⟨T, y, rfl, hT, rfl, hy⟩
    have hy' := hy xs hx'
    have eT : Ex H' (upd H' T (.tup [.int (i : Nat), y])) := Evl.Ex.new hT
    refine ⟨T, [.int (i : Nat), y], rfl, Evl.st_of upd_same, rfl, _, _, rfl, _, _, rfl, rfl, hw _ _, ?_⟩
    exact cwf_turn ⟨p.1, p.2.1.trans eT, eT _ _ p.2.2⟩ (by omega) (he i y H (Ex.refl H) hy')
  · refine Or.inl ⟨⟨xs, hx', by omega⟩, ?_⟩
    obtain ⟨p1, p2, p3⟩ := p
    have : i = xs.length := by omega
    subst this
    exact q H' p2 p3
theorem atI_ref {rs : List Addr} {i : Nat} {r : Addr} (h : rs[i]? = some r) : atI (rs.map V.ref) (i : Int) = some (V.ref r) := by
  have hl := (List.getElem?_eq_some_iff.mp h).1
  unfold atI ixN
  rw [if_pos (by omega), if_pos (by simp; omega)]
  simp [h]
theorem RowsL.set {H : Hp} : ∀ {rs : List Addr} {nss : List (List Int)} {i : Nat} {q : Addr} {ns : List Int}, RowsL H rs nss → H q = some (.lst (ns.map V.int)) → RowsL H (rs.set i q) (nss.set i ns)
  | [], [], _, _, _, _, _ => trivial
  | _ :: _, _ :: _, 0, _, _, h, hq => ⟨hq, h.2⟩
  | _ :: _, _ :: _, i + 1, _, _, h, hq => ⟨h.1, RowsL.set (i := i) h.2 hq⟩
  | [], _ :: _, _, _, _, h, _ => h.elim
  | _ :: _, [], _, _, _, h, _ => h.elim
theorem lkIT (S : Sm.Sts) (d l : Addr) : List.lookup (α := Str) "idle_times" (fsS S d l) = none := lkN S d l (by decide +kernel) (by decide +kernel) (by decide +kernel) (by decide +kernel)
theorem lkST (S : Sm.Sts) (d l : Addr) : List.lookup (α := Str) "step_times" (fsS S d l) = none := lkN S d l (by decide +kernel) (by decide +kernel) (by decide +kernel) (by decide +kernel)
theorem lkSteps (S : Sm.Sts) (d l : Addr) : List.lookup (α := Str) "steps" (fsS S d l) = none := lkN S d l (by decide +kernel) (by decide +kernel) (by decide +kernel) (by decide +kernel)
theorem lim_take {T : Nat} {t : Sm.Row} (h : Sm.Lim T t) (i : Nat) : Sm.Lim T (t.take i) := fun j => by
  unfold Sm.gf
  rw [List.getD_eq_getElem?_getD, List.getElem?_take]
  split
  · have := h j
    unfold Sm.gf at this
    rw [List.getD_eq_getElem?_getD] at this
    exact this
  · simp
theorem woven_ok {n z T w : Nat} {t : Sm.Row} {W : List Sm.Row} (hz : zL z) (ht : Sm.Lim T t) (hw : Sm.Within w W) (hl : t.length = W.length) (hr : ∀ r ∈ W, r.length = n) (h1 : W.length * (T * w) ≤ z) (hT : T ≤ z) (hw2 : w ≤ z) :
    (∀ i, ∀ x ∈ Sm.woven (t.take i) (W.take i) n, IntMulOk 1 x) ∧ ∀ t' ∈ t, ∀ ns ∈ W, ∀ x ∈ ns, IntMulOk t' x := by
  refine ⟨fun i x hx => ?_, fun t' ht' ns hns x hx => ?_⟩
  · obtain ⟨j, hj, rfl⟩ := List.mem_iff_getElem.mp hx
    have b := Sm.within_woven (t := t.take i) (W := W.take i) (T := T) (w := w) (n := n) (by rw [List.length_take, List.length_take, hl]) (fun r hr' => hr r (List.mem_of_mem_take hr')) (lim_take ht i) (fun r hr' => hw r (List.mem_of_mem_take hr')) j
    have e : Sm.gf (Sm.woven (t.take i) (W.take i) n) j = (Sm.woven (t.take i) (W.take i) n)[j] := by
      unfold Sm.gf
      rw [List.getD_eq_getElem?_getD, List.getElem?_eq_getElem hj]
      rfl
    rw [e] at b
    have h2 : (W.take i).length * (T * w) ≤ W.length * (T * w) := Nat.mul_le_mul_right _ (by rw [List.length_take]; omega)
    exact mulZ1 hz (by decide) (by omega)
  · refine mulZ hz (Nat.le_trans (lim_mem ht t' ht') hT) (Nat.le_trans (lim_mem (fun j => hw ns hns j) x hx) hw2)
/-- what a state of levelling must be -/
structure LvH (n : Nat) (s : Sm.LvS) : Prop where
  wr : ∀ r ∈ s.1, r.length = n
  fr : ∀ r ∈ s.2.1, r.length = n
  rr : ∀ r ∈ s.2.2, r.length = s.1.length
  wl : s.1.length ≤ n
  fl : s.2.1.length ≤ n
  rl : s.2.2.length ≤ n
  nx : ∃ k Pm a, Sm.LvI n k Pm (Sm.lvRound n s.1 s.2.1 s.2.2) a
theorem LvH.of {n k : Nat} {Pm : Sm.Vec → Prop} {s : Sm.LvS} {a : Nat → Int} (I : Sm.LvI n k Pm s a) : LvH n s :=
  ⟨I.wr, I.fr, fun r hr => by rw [I.tri.row r hr, I.wl], by have := I.wl; have := I.cnt; omega, by have := I.cnt; omega, by have := I.tri.len; have := I.cnt; omega, ⟨k, Pm, _, (Sm.lvI_round I).1⟩⟩
def spLev (C : Addr) : Sp := fun vs H Q _ => ∃ (n : Nat) (p : Addr) (rs : List Addr) (st : List (List Int)) (z fu : Nat) (r : Sm.Row × List Sm.Row), vs = [.int (n : Int), .ref p] ∧ H p = some (.lst (rs.map V.ref)) ∧ RowsL H rs st ∧ n ≤ 20 ∧ zL z ∧ LvH n (Sm.units n, [], st) ∧ Sm.LvSz z n fu (Sm.units n, [], st) ∧ Sm.lv n fu (Sm.units n, [], st) = some r ∧
  ∀ t pk pg gs H', Ex H H' → H' t = some (.tup [.ref pk, .ref pg]) → H' pk = some (.lst (r.1.map V.int)) → H' pg = some (.lst (gs.map V.ref)) → RowsL H' gs r.2 → Q (.ref t) H'
theorem ok_levelled {C : Addr} (F : FnP K "levelled" "levelled" s_levelled f fd) (B : Bi mg) (cl : Sc K C) (SM : StMk P w K mg base C) (D_unit : Df P w K mg base CX0 1 "unit" ["at", "width"] spUnit) (D_turned : Df P w K mg base CX0 1 "turned" ["rows", "width"] (spTurned K)) (D_woven : Df P w K mg base CX0 34 "woven" ["times", "rows", "width"] (spWoven K))
    (D_mixed : Df P w K mg base CX0 33 "mixed" ["times", "row", "others", "other"] (spMix K)) (D_is_straight : Df P w K mg base CX0 1 "is_straight" ["rows"] (spStraight K)) (D_uneven : Df P w K mg base CX0 1 "uneven" ["kinds"] (spUneven K))
    (MS : Mt P w K mg base CX0 1 C "steps" ["self"] (spStep C Sm.Sts.steps)) (MP : Mt P w K mg base CX0 1 C "step_times" ["self"] (spStep C Sm.Sts.stepTimes)) (MI : Mt P w K mg base CX0 1 C "idle_times" ["self"] (spStep C Sm.Sts.idleTimes)) :
    FnOk P w K mg base CX0 39 f fd ["width", "steps"] (spLev C) := by
  obtain ⟨fK, fdK, MK, FK, bK⟩ := SM.ex
  obtain ⟨fS, fdS, FS, mS, bS⟩ := MS
  obtain ⟨fP, fdP, FP, mP, bP⟩ := MP
  obtain ⟨fI, fdI, FI, mI, bI⟩ := MI
  refine F.ok sc_levelled (fun vs H Q E h => ?_) (fun cdv A outer s H vs Q E hr h => ⟨_, PSs.nox
   (pss_cons (ps_set (i := 2) sc_levelled.nd rfl (Or.inr rfl) (pe_lc (own := [("at", 7)]) (g := gName 7) (tt := tYes) rfl sc_levelled.nd (pi_range1 rfl B.range_ (pa_cons (pv 0) pa_nil)) (blkOk_by (N := n_levelled) (sc := defScope s_levelled) (by decide +kernel)) (fun _ _ _ _ _ => (pg_name (i := 7) sc_levelled.nd rfl (Or.inl rfl))) (fun _ _ _ _ _ => pts_nil) (fun _ _ _ _ _ => (pe_df D_unit (hr.mono (by decide)) (pa_cons (pv 7) (pa_cons (pv 0) pa_nil))))))
      (pss_cons (ps_set (i := 3) sc_levelled.nd rfl (Or.inl rfl) (pe_lst pa_nil))
      (pss_cons (ps_set (i := 4) sc_levelled.nd rfl (Or.inl rfl) (pv 1))
      (pss_one (ps_while PassesOwn.never (pt_val pe_bl)
      (pss_cons (ps_set (i := 5) sc_levelled.nd rfl (Or.inl rfl) (pe_make MK FK (hr.mono (by decide)) rfl SM.g bK .nil pass0 (pa_cons (pe_callB call_len_seq rfl B.len_ boot_len (pa_cons (pv 4) pa_nil)) (pa_cons (pe_df D_turned (hr.mono (by decide)) (pa_cons (pv 4) (pa_cons (pe_callB call_len_seq rfl B.len_ boot_len (pa_cons (pv 2) pa_nil)) pa_nil))) pa_nil))))
        (pss_cons (ps_set (i := 3) sc_levelled.nd rfl (Or.inl rfl) (pe_op op_cat (pv 3) (pe_lc (own := [("times", 8)]) (g := gName 8) (tt := tYes) rfl sc_levelled.nd (pi_list (pe_meth0 (pv 5) cl.cl mI FI (hr.mono (by decide)) bI .nil pass0)) (blkOk_by (N := n_levelled) (sc := defScope s_levelled) (by decide +kernel)) (fun _ _ _ _ _ => (pg_name (i := 8) sc_levelled.nd rfl (Or.inl rfl))) (fun _ _ _ _ _ => pts_nil) (fun _ _ _ _ _ => (pe_df D_woven (hr.mono (by decide)) (pa_cons (pv 8) (pa_cons (pv 2) (pa_cons (pv 0) pa_nil))))))))
        (pss_cons (ps_set (i := 2) sc_levelled.nd rfl (Or.inr rfl) (pe_lc (own := [("times", 8)]) (g := gName 8) (tt := tYes) rfl sc_levelled.nd (pi_list (pe_meth0 (pv 5) cl.cl mP FP (hr.mono (by decide)) bP .nil pass0)) (blkOk_by (N := n_levelled) (sc := defScope s_levelled) (by decide +kernel)) (fun _ _ _ _ _ => (pg_name (i := 8) sc_levelled.nd rfl (Or.inl rfl))) (fun _ _ _ _ _ => pts_nil) (fun _ _ _ _ _ => (pe_df D_woven (hr.mono (by decide)) (pa_cons (pv 8) (pa_cons (pv 2) (pa_cons (pv 0) pa_nil)))))))
        (pss_cons (ps_set (i := 4) sc_levelled.nd rfl (Or.inl rfl) (pe_meth0 (pe_make MK FK (hr.mono (by decide)) rfl SM.g bK .nil pass0 (pa_cons (pe_callB call_len_seq rfl B.len_ boot_len (pa_cons (pv 2) pa_nil)) (pa_cons (pe_df D_turned (hr.mono (by decide)) (pa_cons (pe_meth0 (pv 5) cl.cl mS FS (hr.mono (by decide)) bS .nil pass0) (pa_cons (pe_callB call_len_seq rfl B.len_ boot_len (pa_cons (pv 4) pa_nil)) pa_nil))) pa_nil))) cl.cl mS FS (hr.mono (by decide)) bS .nil pass0))
        (pss_one (ps_if (pt_val (pe_df D_is_straight (hr.mono (by decide)) (pa_cons (pv 4) pa_nil)))
        (pss_cons (ps_setLc (i := 6) (own := [("at", 7), ("row", 9)]) (g := gTup K 2 (gCons (gName 7) (gCons (gName 9) gNil))) (tt := tYes) rfl sc_levelled.nd rfl rfl (sw_true rfl rfl rfl (by decide +kernel)) (pi_enum rfl B.enumerate_ (pa_cons (pv 4) pa_nil)) (blkOk_by (N := n_levelled) (sc := defScope s_levelled) (by decide +kernel)) (fun _ _ _ _ _ => (pg_tup rfl (pgs_cons (pg_name (i := 7) sc_levelled.nd rfl (Or.inl rfl)) (pgs_cons (pg_name (i := 9) sc_levelled.nd rfl (Or.inl rfl)) pgs_nil)))) (fun _ _ _ _ _ => pts_nil) (fun _ _ _ _ _ => (pe_ix (r := rIxL K) ix_list (pv 9) (pv 7) (fun _ _ => rfl))))
          (pss_cons (ps_set (i := 7) sc_levelled.nd rfl (Or.inl rfl) (pe_df D_uneven (hr.mono (by decide)) (pa_cons (pv 6) pa_nil)))
          (pss_cons (ps_if (pt_cmp (pc_isN (pv 7)))
          (pss_one (ps_ret (pe_tup (pa_cons (pe_op op_cat (pv 6) (pe_op op_rep (pe_lst (pa_cons pe_int pa_nil)) (pe_callB call_len_seq rfl B.len_ boot_len (pa_cons (pv 3) pa_nil)))) (pa_cons (pe_op op_cat (pv 2) (pv 3)) pa_nil)))))
          pss_nil)
          (pss_one (ps_asg (pe_df D_mixed (hr.mono (by decide)) (pa_cons pe_int (pa_cons (pe_ix ix_list (pv 4) (pv 7) (fun _ _ => rfl)) (pa_cons pe_int (pa_cons (pe_ix ix_list (pv 4) (pe_op op_add (pv 7) pe_int) (fun _ _ => rfl)) pa_nil))))) (pg_sub (pv 4) (pv 7) set_list))))))
        pss_nil))))))))))), ?_⟩)
  · obtain ⟨n, p, rs, st, z, fu, r, rfl, _⟩ := h
    rfl
  · obtain ⟨n, p, rs, st, z, fu, r, rfl, hp, hr1, hn, hz, hH, hsz, hlv, k⟩ := h
    simp only [cxK]
    have hul : (Sm.units n).length = n := Sm.units_len
    simp only [tSeq, tAsg]
    refine lcRowsR (n := (n : Int)) (Sm.units n) (fun H1 e Q q => ⟨_, rfl, q H1 (Ex.refl H1)⟩) (by rw [hul]) (by omega) (fun x => rfl) (fun i ns H1 e1 hi => ?_) H (Ex.refl H) _ ?_
    · have hin : i < n := by
        have := (List.getElem?_eq_some_iff.mp hi).1
        omega
      have e : ns = Sm.unit i n := by
        unfold Sm.units at hi
        rw [List.getElem?_map, List.getElem?_range hin] at hi
        exact (Option.some.inj hi).symm
      subst e
      exact fun H2 e2 Q q => ⟨_, rfl, _, rfl, i, n, rfl, by omega, fun p H3 hp e3 h3 => q p H3 hp e3 h3⟩
    rintro _ H1 e1 ⟨pw, qw, rfl, hpw, hpw1, hqw, _⟩
    refine ⟨Evl.sz_of (by simp), fun pf hpf => ⟨_, rfl, ?_⟩⟩
    have eF := e1.trans (ev_up (o := .lst []) hpf)
    have hW0 : RwA (upd H1 pf (.lst [])) pw (Sm.units n) := ⟨qw, (ev_up hpf) _ _ hpw1, hqw.ex (ev_up hpf)⟩
    have hF0 : RwA (upd H1 pf (.lst [])) pf [] := ⟨[], upd_same, trivial⟩
    have hR0 : RwA (upd H1 pf (.lst [])) p st := ⟨rs, eF _ _ hp, hr1.ex eF⟩
    generalize upd H1 pf (.lst []) = H2 at eF hW0 hF0 hR0 ⊢
    refine ⟨fun m σ' H' => ∃ (pw pf pr : Addr) (s : Sm.LvS) (y5 y6 y7 y8 y9 : Option V), σ' = [some (.int (n : Int)), some (.ref p), some (.ref pw), some (.ref pf), some (.ref pr), y5, y6, y7, y8, y9] ∧ Ex H H' ∧ RwA H' pw s.1 ∧ RwA H' pf s.2.1 ∧ RwA H' pr s.2.2 ∧ LvH n s ∧ Sm.LvSz z n m s ∧ Sm.lv n m s = some r,
      ⟨fu, pw, pf, p, (Sm.units n, [], st), none, none, none, none, none, rfl, eF, hW0, hF0, hR0, hH, hsz, hlv⟩, ?_⟩
    rintro m σ' H' ⟨pw, pf, pr, s, y5, y6, y7, y8, y9, rfl, eH, ⟨rsw, hw1, hw2⟩, ⟨rsf, hf1, hf2⟩, ⟨rsr, hr2, hr3⟩, hH, hsz, hlv⟩
    clear hW0 hF0 hR0 hpw hpw1 hqw
    cases m with
    | zero => cases hlv
    | succ fl =>
    obtain ⟨⟨sz1, ⟨T, v, sT, sv, sTv, sTz, svz⟩, sz2, sz3⟩, szN⟩ := hsz
    have lw := hw2.len
    have lf := hf2.len
    have lr := hr3.len
    have l1 := hH.wl
    have l2 := hH.fl
    have l3 := hH.rl
    obtain ⟨UF, Uw, Um⟩ := Sm.up_fin (W := s.1) (rows := s.2.2)
    have ucnt := UF.cnt
    unfold Sm.Sts.gens at ucnt
    rw [List.length_append] at ucnt
    obtain ⟨kk, Pm, aa, LI⟩ := hH.nx
    have LT := LI.tri
    have hk1000 : kk ≤ 900 := by have := LI.cnt; omega
    have hf1000 : (Sm.lvRound n s.1 s.2.1 s.2.2).2.1.length ≤ 900 := by have := LI.cnt; omega
    refine ⟨_, rfl, ifT rfl ⟨fun σ'' H'' => ∃ (pw pf pr : Addr) (s : Sm.LvS) (y5 y6 y7 y8 y9 : Option V), σ'' = [some (.int (n : Int)), some (.ref p), some (.ref pw), some (.ref pf), some (.ref pr), y5, y6, y7, y8, y9] ∧ Ex H H'' ∧ RwA H'' pw s.1 ∧ RwA H'' pf s.2.1 ∧ RwA H'' pr s.2.2 ∧ LvH n s ∧ Sm.LvSz z n fl s ∧ Sm.lv n fl s = some r, fun σ'' H'' hh => ⟨fl, Nat.lt_succ_self _, hh⟩, ?_⟩⟩
    have elw : (rsw.map V.ref).length = s.1.length := by rw [List.length_map, lw]
    have elr : (rsr.map V.ref).length = s.2.2.length := by rw [List.length_map, lr]
    refine ⟨_, rfl, pr, _, rfl, .inl (Evl.sq_of hr2), _, rfl, _, rfl, pw, _, rfl, .inl (Evl.sq_of hw1), pr, rsr, s.2.2, (rsw.map V.ref).length, rfl, hr2, hr3, (fun ns hns => by rw [elw, hH.rr ns hns]; omega), by omega, by omega, fun pt qt H3 hpt e3 hpt3 hqt _ => ?_⟩
    rw [elw] at hqt
    refine st_make (n := (rsr.map V.ref).length) (z := z) hpt3 hqt (fun ns hns => by rw [Sm.turned_rows ns hns, elr]) (by omega) (by rw [Sm.turned_len]; omega) hz (by rw [elr]; exact sz1) fun x d l H4 e4 hx4 hd4 hl4 hS => ?_
    rw [elr] at hS
    have hS : StA H4 C x d l (Sm.Up s.1 s.2.2) := hS
    have e34 := e3.trans e4
    have hf4 := e34 _ _ hf1
    have hw4 := e34 _ _ hw1
    have hr4 := e34 _ _ hr2
    have hf24 := hf2.ex e34
    have hw24 := hw2.ex e34
    have hr34 := hr3.ex e34
    have e0 := eH.trans e34
    clear hw1 hf1 hr2 hw2 hf2 hr3 hpt3 hqt hpt e3 e4 e34 eH
    obtain ⟨dx4, ho4⟩ := hS.obj
    have wok : ∀ q ∈ (Sm.Up s.1 s.2.2).gens, (∀ i, ∀ x ∈ Sm.woven ((q.2.drop s.2.2.length).take i) (s.1.take i) n, IntMulOk 1 x) ∧ ∀ t' ∈ q.2.drop s.2.2.length, ∀ ns ∈ s.1, ∀ x ∈ ns, IntMulOk t' x := fun q hq => woven_ok hz (sT q hq) sv (Sm.up_len hq) hH.wr sTv sTz svz
    -- free
    refine ⟨_, rfl, _, rfl, x, dx4, _, rfl, ho4, lkIT (Sm.Up s.1 s.2.2) d l, x, d, l, Sm.Up s.1 s.2.2, rfl, hS, by omega, by omega, fun pi qi H5 hpi e5 hpi5 hqi _ => ?_⟩
    have il : (Sm.Up s.1 s.2.2).idleTimes.length = (Sm.Up s.1 s.2.2).idle.length := by unfold Sm.Sts.idleTimes; rw [List.length_map]
    have iil := hqi.len
    refine ⟨pi, rfl, ⟨_, Evl.sq_of hpi5⟩, fun pn hpn => ?_⟩
    refine lcRowsD ((Sm.Up s.1 s.2.2).idleTimes.map fun t => Sm.woven t s.1 n) hpn (Evl.sq_of hpi5) (by rw [List.length_map, List.length_map, iil]) (by rw [List.length_map]; omega) (by intro x; rfl) (fun i y ns H6 e6 hy hns => ?_) fun qn H6 e6 hpn6 hqn hqns => ?_
    · rw [List.getElem?_map] at hy hns
      cases hy2 : qi[i]? with
      | none => rw [hy2] at hy; cases hy
      | some u =>
        rw [hy2] at hy
        cases hy
        obtain ⟨t, g1, g2⟩ := hqi.get hy2
        rw [g1] at hns
        cases hns
        have ht : ∃ q ∈ (Sm.Up s.1 s.2.2).gens, t = q.2.drop s.2.2.length := by
          have := List.mem_of_getElem? g1
          unfold Sm.Sts.idleTimes at this
          obtain ⟨q, hq, e⟩ := List.mem_map.mp this
          exact ⟨q, Sm.mem_gens.mpr (.inr hq), by rw [← e, Uw]⟩
        obtain ⟨q, hq, rfl⟩ := ht
        intro H7 e7 Q1 q1
        have e57 := e6.trans e7
        exact ⟨_, rfl, _, rfl, _, rfl, u, pw, _, rsw, s.1, n, rfl, Evl.sq_of (e57 _ _ g2), (e5.trans e57) _ _ hw4, (hw24.ex (e5.trans e57)), Sm.up_len hq, by omega, by omega, hH.wr, (wok q hq).1, (wok q hq).2, fun p2 H8 hp2 e8 h8 => q1 p2 H8 hp2 e8 h8⟩
    have hf6 := (e5.trans e6) _ _ hf4
    refine ⟨pf, pn, _, _, rfl, rfl, hf6, hpn6, Evl.sz_of (by have := hqn.len; simp at this ⊢; omega), fun pf' hpf' => ?_⟩
    have e57 := (e5.trans e6).trans (ev_up (o := .lst (rsf.map V.ref ++ qn.map V.ref)) hpf')
    have hf7 : upd H6 pf' (.lst (rsf.map V.ref ++ qn.map V.ref)) pf' = some (.lst ((rsf ++ qn).map V.ref)) := by rw [upd_same, List.map_append]
    have hfr7 : RowsL (upd H6 pf' (.lst (rsf.map V.ref ++ qn.map V.ref))) (rsf ++ qn) (Sm.lvRound n s.1 s.2.1 s.2.2).2.1 := RowsL.app (hqn.ex (ev_up hpf')) (hf24.ex e57)
    generalize upd H6 pf' (.lst (rsf.map V.ref ++ qn.map V.ref)) = H7 at e57 hf7 hfr7 ⊢
    have hS7 := hS.ex e57
    have hw7 := e57 _ _ hw4
    have hw27 := hw24.ex e57
    have hr7 := e57 _ _ hr4
    have hr37 := hr34.ex e57
    have e07 := e0.trans e57
    clear hf6 hpn6 hqn hqns hpi5 hqi hpi hpn hpf' e5 e6 e57 hS hw4 hw24 hr4 hr34 e0 ho4 hf4 hf24
    -- weights
    obtain ⟨dx7, ho7⟩ := hS7.obj
    refine ⟨_, rfl, x, dx7, _, rfl, ho7, lkST (Sm.Up s.1 s.2.2) d l, x, d, l, Sm.Up s.1 s.2.2, rfl, hS7, by omega, by omega, fun pi qi H8 hpi e8 hpi8 hqi _ => ?_⟩
    have sl : (Sm.Up s.1 s.2.2).stepTimes.length = ((Sm.Up s.1 s.2.2).cols 0).length := by unfold Sm.Sts.stepTimes; rw [List.length_map]
    have sil := hqi.len
    refine ⟨pi, rfl, ⟨_, Evl.sq_of hpi8⟩, fun pw' hpw' => ?_⟩
    refine lcRowsD ((Sm.Up s.1 s.2.2).stepTimes.map fun t => Sm.woven t s.1 n) hpw' (Evl.sq_of hpi8) (by rw [List.length_map, List.length_map, sil]) (by rw [List.length_map]; omega) (by intro x; rfl) (fun i y ns H9 e9 hy hns => ?_) fun qw' H9 e9 hpw9 hqw hqws => ?_
    · rw [List.getElem?_map] at hy hns
      cases hy2 : qi[i]? with
      | none => rw [hy2] at hy; cases hy
      | some u =>
        rw [hy2] at hy
        cases hy
        obtain ⟨t, g1, g2⟩ := hqi.get hy2
        rw [g1] at hns
        cases hns
        have ht : ∃ q ∈ (Sm.Up s.1 s.2.2).gens, t = q.2.drop s.2.2.length := by
          have := List.mem_of_getElem? g1
          unfold Sm.Sts.stepTimes at this
          obtain ⟨q, hq, e⟩ := List.mem_map.mp this
          exact ⟨q, List.mem_append.mpr (.inl hq), by rw [← e, Uw]⟩
        obtain ⟨q, hq, rfl⟩ := ht
        intro H10 e10 Q1 q1
        have e810 := e9.trans e10
        exact ⟨_, rfl, _, rfl, _, rfl, u, pw, _, rsw, s.1, n, rfl, Evl.sq_of (e810 _ _ g2), (e8.trans e810) _ _ hw7, (hw27.ex (e8.trans e810)), Sm.up_len hq, by omega, by omega, hH.wr, (wok q hq).1, (wok q hq).2, fun p2 H11 hp2 e11 h11 => q1 p2 H11 hp2 e11 h11⟩
    have hW9 : RowsL H9 qw' (Sm.lvRound n s.1 s.2.1 s.2.2).1 := hqw
    have e89 := e8.trans e9
    have hS9 := hS7.ex e89
    have hf9 := e89 _ _ hf7
    have hfr9 := hfr7.ex e89
    have hr9 := e89 _ _ hr7
    have e09 := e07.trans e89
    obtain ⟨dx9, ho9⟩ := hS9.obj
    clear hqw hqws hpi8 hqi hpi e8 e9 e89 hS7 hf7 hfr7 hw7 hw27 hr7 hr37 e07 ho7 hpw'
    -- rows
    have wl9 := hW9.len
    have LIw := LI.wl
    have LIc := LI.cnt
    have elw9 : (qw'.map V.ref).length = (Sm.lvRound n s.1 s.2.1 s.2.2).1.length := by rw [List.length_map, wl9]
    refine ⟨_, rfl, pw', _, rfl, .inl (Evl.sq_of hpw9), _, rfl, x, dx9, _, rfl, ho9, lkSteps (Sm.Up s.1 s.2.2) d l, x, d, l, Sm.Up s.1 s.2.2, rfl, hS9, by omega, by omega, fun ps qs H10 hps e10 hps10 hqs _ => ?_⟩
    have cw : ((Sm.Up s.1 s.2.2).cols 0).length ≤ (Sm.Up s.1 s.2.2).w := Sm.colsB_len (S := Sm.Up s.1 s.2.2) (a := 0) (b := (Sm.Up s.1 s.2.2).w)
    have sl2 : (Sm.Up s.1 s.2.2).steps.length = ((Sm.Up s.1 s.2.2).cols 0).length := Sm.steps_len
    have qsl := hqs.len
    have wl9' : (Sm.lvRound n s.1 s.2.1 s.2.2).1.length = ((Sm.Up s.1 s.2.2).cols 0).length := by rw [Sm.lv_Wlen]
    refine ⟨_, rfl, pr, _, rfl, .inl (Evl.sq_of (e10 _ _ hr9)), ps, qs, (Sm.Up s.1 s.2.2).steps, (rsr.map V.ref).length, rfl, hps10, hqs, (fun ns hns => by rw [elr, Sm.steps_rows UF ns hns]; omega), by omega, by omega, fun pt qt H11 hpt e11 hpt11 hqt _ => ?_⟩
    rw [elr] at hqt
    refine st_make (n := (qw'.map V.ref).length) (z := z) hpt11 hqt (fun ns hns => by rw [Sm.turned_rows ns hns, elw9, wl9', sl2]) (by omega) (by rw [Sm.turned_len]; omega) hz (by rw [elw9]; exact sz2) fun x2 d2 l2 H12 e12 hx12 hd12 hl12 hS2 => ?_
    rw [elw9] at hS2
    obtain ⟨dx12, ho12⟩ := hS2.obj
    obtain ⟨VF, Vw, Vm⟩ := Sm.stairs_ok (w := (Sm.lvRound n s.1 s.2.1 s.2.2).1.length) (rows := Sm.turned (Sm.Up s.1 s.2.2).steps s.2.2.length) (fun ns hns => by rw [Sm.turned_rows ns hns, wl9', sl2])
    have vcnt := VF.cnt
    unfold Sm.Sts.gens at vcnt
    rw [List.length_append, Sm.turned_len] at vcnt
    refine ⟨x2, dx12, _, rfl, ho12, lkSteps _ d2 l2, x2, d2, l2, _, rfl, hS2, by omega, by omega, fun pr' qr H13 hpr e13 hpr13 hqr hqrs => ?_⟩
    have hR13 : RowsL H13 qr (Sm.lvRound n s.1 s.2.1 s.2.2).2.2 := hqr
    have e913 := ((e10.trans e11).trans e12).trans e13
    have e912 := (e10.trans e11).trans e12
    have hf13 := e913 _ _ hf9
    have hfr13 := hfr9.ex e913
    have hw13 := e913 _ _ hpw9
    have hW13 := hW9.ex e913
    have e013 := e09.trans e913
    have npr : ∀ b o, H9 b = some o → b ≠ pr' := fun b o hb z => by
      rw [← z, e912 _ _ hb] at hpr
      cases hpr
    have nprH : H pr' = none := Evl.fresh_back (e09.trans e912) hpr
    clear hqr hpt11 hqt hpt hps10 hqs hps e10 e11 e12 e13 hS2 ho12 hS9 ho9 hr9 hx12 hd12 hl12 VF Vw Vm vcnt e912
    generalize hs' : Sm.lvRound n s.1 s.2.1 s.2.2 = s' at *
    have hlv' : (match Sm.lvEnd s' with | .inl r => some r | .inr t => Sm.lv n fl t) = some r := by
      rw [← hs']
      exact hlv
    have rl13 := hR13.len
    have q1000 : qr.length ≤ 900 := Nat.le_trans (Nat.le_of_eq (rl13.trans LT.len)) hk1000
    refine ⟨_, rfl, pr', qr, s'.2.2, rfl, hpr13, hR13, Nat.le_trans q1000 (by decide), fun H14 e14 => ⟨_, rfl, iteB (fun hb => ?_) (fun hb => ?_)⟩⟩
    · have hpr14 := e14 _ _ hpr13
      have hR14 := hR13.ex e14
      refine ⟨_, rfl, pr', _, rfl, Evl.sq_of hpr14, fun pk hpk => ?_⟩
      refine lcED (fun i => V.int (Sm.gf (s'.2.2.getD i []) i)) hpk (Evl.sq_of hpr14) (by rw [List.length_map]; exact Nat.le_trans q1000 (by decide)) (by intro x y; rfl) (fun i y H15 e15 hy => ?_) fun H15 e15 hpk15 => ?_
      · rw [List.getElem?_map] at hy
        cases hy2 : qr[i]? with
        | none => rw [hy2] at hy; cases hy
        | some u =>
          rw [hy2] at hy
          cases hy
          obtain ⟨ns, g1, g2⟩ := hR14.get hy2
          have hik : i < kk := by
            have h1 := (List.getElem?_eq_some_iff.mp g1).1
            have h2 := LT.len
            exact h2 ▸ h1
          have hl : i < ns.length := by rw [LT.row ns (List.mem_of_getElem? g1)]; exact hik
          intro H16 e16 Q1 q1
          refine ⟨_, rfl, _, rfl, u, _, _, _, rfl, rfl, Evl.sq_of ((e15.trans e16) _ _ g2), atI_gf hl, q1 _ H16 (Ex.refl H16) ?_⟩
          rw [List.getD_eq_getElem?_getD, g1]
          rfl
      have ek : (List.range (qr.map V.ref).length).map (fun i => V.int (Sm.gf (s'.2.2.getD i []) i)) = (Sm.diag s'.2.2).map V.int := by
        unfold Sm.diag
        rw [List.map_map, List.length_map, rl13]
        rfl
      rw [ek] at hpk15
      have dl : (Sm.diag s'.2.2).length = s'.2.2.length := Sm.diag_len
      have e1415 := e14.trans e15
      have hpr15 := e15 _ _ hpr14
      have hR15 := hR14.ex e15
      have hf15 := e1415 _ _ hf13
      have hfr15 := hfr13.ex e1415
      have hw15 := e1415 _ _ hw13
      have hW15 := hW13.ex e1415
      have e015 := e013.trans e1415
      refine ⟨_, rfl, pk, _, rfl, Evl.sq_of hpk15, by rw [dl, ← rl13]; exact Nat.le_trans q1000 (by decide), fun y hy => ?_, ?_⟩
      · obtain ⟨i, hi, rfl⟩ := List.mem_iff_getElem.mp hy
        have hi2 : i < s'.2.2.length := dl ▸ hi
        have h1 := Sm.gf_diag hi2
        have h2 : Sm.gf (Sm.diag s'.2.2) i = (Sm.diag s'.2.2)[i] := by
          unfold Sm.gf
          rw [List.getD_eq_getElem?_getD, List.getElem?_eq_getElem hi]
          rfl
        have hik : i < kk := LT.len ▸ hi2
        rw [← h2, h1, LT.dia i hik]
        exact fun z => absurd (LT.pos i hik) (by rw [z]; decide)
      clear hpr14 hR14 hpr13 hR13 hf13 hfr13 hw13 hW13 e013 e14 e15 e1415
      have szR : Sm.Within z s'.2.2 := sz3
      cases hu : Sm.uneven (Sm.diag s'.2.2) with
      | none =>
        have eN : Sm.lvEnd s' = .inl (Sm.diag s'.2.2 ++ List.replicate s'.2.1.length 0, s'.1 ++ s'.2.1) := by
          unfold Sm.lvEnd
          rw [if_pos hb, hu]
        rw [eN] at hlv'
        have hr := Option.some.inj hlv'
        refine ⟨_, rfl, _, rfl, ifT (by simp [atV]) ?_⟩
        have lenF : ((rsf ++ qn).map V.ref).length = s'.2.1.length := by rw [List.length_map, hfr15.len]
        refine ⟨_, rfl, ?_⟩
        refine el_rep (x := .int 0) (n := (((rsf ++ qn).map V.ref).length : Int)) (H := H15) (σ := [some (.int (n : Int)), some (.ref p), some (.ref pw'), some (.ref pf'), some (.ref pr'), some (.ref x), some (.ref pk), some (atV none), y8, y9]) (fun H16 e16 Q1 q1 => ⟨_, rfl, pf', _, rfl, .inl (Evl.sq_of (e16 _ _ hf15)), q1 H16 (Ex.refl H16)⟩) (ek_l (Evl.el_lst (Evl.ea_cons Evl.ev_c Evl.ea_nil) (by simp))) (Int.natCast_nonneg _) (by rw [lenF]; exact Int.ofNat_le.mpr (Nat.le_trans hf1000 (by decide))) H15 (Ex.refl H15) _ fun u H16 hu16 e16 hu161 => ?_
        refine ⟨pk, u, _, _, rfl, rfl, e16 _ _ hpk15, hu161, Evl.sz_of (by rw [List.length_map, dl, ← rl13, List.length_replicate, lenF, Int.toNat_natCast]; exact Nat.le_trans (Nat.add_le_add q1000 hf1000) (by decide)), fun pkk hpkk => ?_⟩
        have e17 := e16.trans (ev_up (o := .lst ((Sm.diag s'.2.2).map V.int ++ List.replicate (((rsf ++ qn).map V.ref).length : Int).toNat (V.int 0))) hpkk)
        have hk17 : upd H16 pkk (.lst ((Sm.diag s'.2.2).map V.int ++ List.replicate (((rsf ++ qn).map V.ref).length : Int).toNat (V.int 0))) pkk = some (.lst (r.1.map V.int)) := by
          have e9 : (Sm.diag s'.2.2 ++ List.replicate s'.2.1.length 0).map V.int = (Sm.diag s'.2.2).map V.int ++ List.replicate s'.2.1.length (V.int 0) := by rw [List.map_append, List.map_replicate]
          rw [upd_same, ← hr, Int.toNat_natCast, lenF]
          exact congrArg (fun l => some (HO.lst l)) e9.symm
        generalize upd H16 pkk (.lst ((Sm.diag s'.2.2).map V.int ++ List.replicate (((rsf ++ qn).map V.ref).length : Int).toNat (V.int 0))) = H17 at e17 hk17 ⊢
        have w1000 : (qw'.map V.ref).length ≤ 900 := by rw [elw9, LIw]; exact hk1000
        refine ⟨_, rfl, _, rfl, pw', pf', _, _, rfl, rfl, e17 _ _ hw15, e17 _ _ hf15, Evl.sz_of (by rw [lenF]; exact Nat.le_trans (Nat.add_le_add w1000 hf1000) (by decide)), fun pg hpg => ?_⟩
        have e18 := ev_up (o := .lst (qw'.map V.ref ++ (rsf ++ qn).map V.ref)) hpg
        refine ⟨Evl.sz_of (by show 2 ≤ 100000; decide), fun t ht => ?_⟩
        have e19 := ev_up (o := .tup [.ref pkk, .ref pg]) ht
        refine k t pkk pg (qw' ++ (rsf ++ qn)) _ (((e015.trans e17).trans e18).trans e19) upd_same (e19 _ _ (e18 _ _ hk17)) (e19 _ _ (by rw [upd_same]; simp only [List.map_append])) ?_
        rw [← hr]
        exact (RowsL.app (hfr15.ex e17) (hW15.ex e17)).ex (e18.trans e19)
      | some a =>
        have eN : Sm.lvEnd s' = .inr (s'.1, s'.2.1, s'.2.2.set a (Sm.mixed 1 (s'.2.2.getD a []) 1 (s'.2.2.getD (a + 1) []))) := by
          unfold Sm.lvEnd
          rw [if_pos hb, hu]
        rw [eN] at szN hlv'
        refine ⟨_, rfl, _, rfl, ifF (by simp [atV]) ?_⟩
        have ha := (Sm.uneven_some hu).1
        rw [dl] at ha
        have hak : a < s'.2.2.length := Nat.lt_of_succ_lt ha
        have haq : a < qr.length := rl13 ▸ hak
        have haq1 : a + 1 < qr.length := rl13 ▸ ha
        have q0 : qr[a]? = some qr[a] := List.getElem?_eq_getElem haq
        have q1 : qr[a + 1]? = some qr[a + 1] := List.getElem?_eq_getElem haq1
        obtain ⟨ns0, g0, h0⟩ := hR15.get q0
        obtain ⟨ns1, g1, h1⟩ := hR15.get q1
        have m0 := List.mem_of_getElem? g0
        have m1 := List.mem_of_getElem? g1
        have d0 : s'.2.2.getD a [] = ns0 := by rw [List.getD_eq_getElem?_getD, g0]; rfl
        have d1 : s'.2.2.getD (a + 1) [] = ns1 := by rw [List.getD_eq_getElem?_getD, g1]; rfl
        rw [d0, d1] at szN hlv'
        have l0 : ns0.length = kk := LT.row ns0 m0
        have l1' : ns1.length = kk := LT.row ns1 m1
        refine ⟨_, rfl, _, rfl, pr', _, _, _, rfl, rfl, Evl.sq_of hpr15, atI_ref q0, ?_⟩
        refine ⟨_, rfl, _, rfl, a, 1, rfl, rfl, pr', _, _, _, rfl, rfl, Evl.sq_of hpr15, atI_ref q1, ?_⟩
        refine ⟨1, 1, qr[a], qr[a + 1], ns0, ns1, rfl, Evl.sq_of h0, Evl.sq_of h1, by rw [l0, l1'], by rw [l0]; exact Nat.le_trans hk1000 (by decide), fun y hy => mulZ1 hz (by decide) (lim_mem (fun j => szR ns0 m0 j) y hy), fun y hy => mulZ1 hz (by decide) (lim_mem (fun j => szR ns1 m1 j) y hy), fun q2 H16 hq2 e16 h16 => ?_⟩
        have hpr16 := e16 _ _ hpr15
        have q2n : q2 ≠ pr' := fun z => by rw [z, hpr15] at hq2; cases hq2
        refine ⟨_, rfl, _, rfl, pr', _, a, a, rfl, rfl, hpr16, ?_, ?_⟩
        · unfold ixN
          rw [if_pos (Int.natCast_nonneg a), if_pos (by rw [List.length_map]; exact Int.ofNat_lt.mpr haq)]
          rfl
        have frU : ∀ b o, b ≠ pr' → H16 b = some o → upd H16 pr' (.lst ((qr.map V.ref).set a (.ref q2))) b = some o := fun b o hb e => by rw [upd_ne hb]; exact e
        have rowsU : ∀ {rs : List Addr} {nss : List (List Int)}, RowsL H16 rs nss → (∀ r ∈ rs, r ≠ pr') → RowsL (upd H16 pr' (.lst ((qr.map V.ref).set a (.ref q2)))) rs nss := fun h hne => h.upd hne
        refine ⟨pw', pf', pr', (s'.1, s'.2.1, s'.2.2.set a (Sm.mixed 1 (s'.2.2.getD a []) 1 (s'.2.2.getD (a + 1) []))), _, _, _, _, _, rfl, Evl.Ex.mut (e015.trans e16) nprH, ⟨qw', frU _ _ (npr _ _ hpw9) (e16 _ _ hw15), rowsU (hW15.ex e16) fun r hr => ?_⟩, ⟨rsf ++ qn, frU _ _ (npr _ _ hf9) (e16 _ _ hf15), rowsU (hfr15.ex e16) fun r hr => ?_⟩, ⟨qr.set a q2, ?_, ?_⟩, LvH.of (Sm.lv_mend LI hb hu).1, ?_, ?_⟩
        · obtain ⟨i, hi⟩ := List.mem_iff_getElem?.mp hr
          obtain ⟨ms, _, h2⟩ := hW9.get hi
          exact npr _ _ h2
        · obtain ⟨i, hi⟩ := List.mem_iff_getElem?.mp hr
          obtain ⟨ms, _, h2⟩ := hfr9.get hi
          exact npr _ _ h2
        · rw [upd_same, List.map_set]
        · rw [d0, d1]
          refine RowsL.upd (RowsL.set (hR15.ex e16) h16) fun r hr => ?_
          rcases List.mem_or_eq_of_mem_set hr with h | h
          · exact (hqrs r h).2
          · rw [h]; exact q2n
        · rw [d0, d1]; exact szN
        · rw [d0, d1]; exact hlv'
    · have eN : Sm.lvEnd s' = .inr s' := by
        unfold Sm.lvEnd
        rw [if_neg (by rw [hb]; decide)]
      rw [eN] at szN hlv'
      exact ⟨pw', pf', pr', s', _, _, _, _, _, rfl, e013.trans e14, ⟨qw', e14 _ _ hw13, hW13.ex e14⟩, ⟨_, e14 _ _ hf13, hfr13.ex e14⟩, ⟨qr, e14 _ _ hpr13, hR13.ex e14⟩, LvH.of LI, szN, hlv'⟩
end
end Sr
/-! # S9 -/
namespace Sr
open PySem PySem.Spec PyProof.Rows L2
open Evl (Ex Ev EvL EvU EvT EvA RetL RetV)
abbrev s_Plan_init : Stmt := inClass (topS 23) 0
abbrev n_Plan_init : List Str := ["self", "letters", "nothings", "moduli", "gauges", "corners", "kept", "at", "weight"]
theorem sc_Plan_init : FnScope n_Plan_init ["self", "letters", "nothings"] (defScope s_Plan_init) := ⟨rfl, rfl, rfl, by decide +kernel, rfl, by decide +kernel, by decide +kernel⟩
abbrev s_Plan_spot : Stmt := inClass (topS 23) 1
abbrev n_Plan_spot : List Str := ["self", "one", "weights", "kind"]
theorem sc_Plan_spot : FnScope n_Plan_spot ["self", "one"] (defScope s_Plan_spot) := ⟨rfl, rfl, rfl, by decide +kernel, rfl, by decide +kernel, by decide +kernel⟩
abbrev s_Plan_sum_at : Stmt := inClass (topS 23) 2
abbrev n_Plan_sum_at : List Str := ["self", "spot"]
theorem sc_Plan_sum_at : FnScope n_Plan_sum_at ["self", "spot"] (defScope s_Plan_sum_at) := ⟨rfl, rfl, rfl, by decide +kernel, rfl, by decide +kernel, by decide +kernel⟩
abbrev s_Plan_gauge : Stmt := inClass (topS 23) 3
abbrev n_Plan_gauge : List Str := ["self", "gap"]
theorem sc_Plan_gauge : FnScope n_Plan_gauge ["self", "gap"] (defScope s_Plan_gauge) := ⟨rfl, rfl, rfl, by decide +kernel, rfl, by decide +kernel, by decide +kernel⟩
/-! ### the plan, over plain lists -/
def leftOf (a k : Int) : Int := if k = 0 then a else a.fmod k
def keptOf (n : Nat) (ms : Sm.Row) : List Nat := (List.range n).filter fun a => Sm.gf ms a != 1
structure Pln where
  st : Sm.Sts
  mod : Sm.Row
  gau : List Sm.Row
  cor : List Sm.Row
  n : Nat
def plan (n : Nat) (rows : List Sm.Row) (r : Sm.Row × List Sm.Row) : Pln :=
  ⟨Sm.stairs n rows, (keptOf n r.1).map fun a => Sm.gf r.1 a, (keptOf n r.1).map fun a => (r.2.getD a []).map fun w => leftOf w (Sm.gf r.1 a), (keptOf n r.1).map fun a => (Sm.stairs n rows).rest ((Sm.corners n r.2).getD a []), n⟩
/-- what the class Plan must say -/
structure Pc (K : PySem.W.Frag) (C : Addr) : Prop where
  cl : Cls K C
  nS : NoAttr K C "stairs"
  nM : NoAttr K C "moduli"
  nG : NoAttr K C "gauges"
  nC : NoAttr K C "_corners"
  nL : NoAttr K C "_letters"
abbrev fsP (x pm pg pc : Addr) (n : Nat) : List (Str × V) := [("stairs", .ref x), ("moduli", .ref pm), ("gauges", .ref pg), ("_corners", .ref pc), ("_letters", .int (n : Int))]
structure PlA (H : Hp) (CP CS p : Addr) (pl : Pln) : Prop where
  ex : ∃ dx x d l pm pg pc, H p = some (.ins CP dx (fsP x pm pg pc pl.n)) ∧ StA H CS x d l pl.st ∧ H pm = some (.lst (pl.mod.map V.int)) ∧ RwA H pg pl.gau ∧ RwA H pc pl.cor
section
variable {P : Program} {w : World} {K : PySem.W.Frag} {mg : Str → Option Value} {base : Heap} {f : Addr} {fd : FuncData}
theorem PlA.up {H H' : Hp} {CP CS p : Addr} {pl : Pln} (e : Ex H H') (h : PlA H CP CS p pl) : PlA H' CP CS p pl := by
  obtain ⟨dx, x, d, l, pm, pg, pc, h1, h2, h3, h4, h5⟩ := h.ex
  exact ⟨dx, x, d, l, pm, pg, pc, e _ _ h1, h2.ex e, e _ _ h3, h4.ex e, h5.ex e⟩
theorem offH_at {H : Hp} {p b : Addr} {o : HO} (h : H b = some o) (hb : b ≠ p) : offH H p b = some o := by
  unfold offH
  rw [if_neg hb]
  exact h
theorem RowsL.offI' {H : Hp} {p C dx : Addr} {fs : List (Str × V)} (hp : H p = some (.ins C dx fs)) : ∀ {rs : List Addr} {nss : List (List Int)}, RowsL H rs nss → RowsL (offH H p) rs nss
  | [], [], _ => trivial
  | r :: _, _ :: _, h => ⟨offH_at h.1 fun z => (by have := h.1; rw [z, hp] at this; cases this), RowsL.offI' hp h.2⟩
  | [], _ :: _, h => h.elim
  | _ :: _, [], h => h.elim
theorem PrA.offI {H : Hp} {p C dx : Addr} {fs : List (Str × V)} (hp : H p = some (.ins C dx fs)) : ∀ {ts : List Addr} {L : List (Nat × Sm.Row)}, PrA H ts L → PrA (offH H p) ts L
  | [], [], _ => trivial
  | t :: _, _ :: _, h => ⟨h.1.elim fun r h1 => ⟨r, offH_at h1.1 fun z => (by have := h1.1; rw [z, hp] at this; cases this), offH_at h1.2 fun z => (by have := h1.2; rw [z, hp] at this; cases this)⟩, PrA.offI hp h.2⟩
  | [], _ :: _, h => h.elim
  | _ :: _, [], h => h.elim
theorem StA.offI {H : Hp} {p C dx : Addr} {fs : List (Str × V)} (hp : H p = some (.ins C dx fs)) {CS x d l : Addr} {S : Sm.Sts} (h : StA H CS x d l S) (hx : x ≠ p) : StA (offH H p) CS x d l S := by
  obtain ⟨dx', ho⟩ := h.obj
  obtain ⟨kvs, hd, hD⟩ := h.dic
  obtain ⟨ts, hl, hI⟩ := h.idl
  exact ⟨⟨dx', offH_at ho hx⟩, ⟨kvs, offH_at hd fun z => (by rw [z, hp] at hd; cases hd), ⟨hD.keys, hD.no, fun c row hc => (hD.yes c row hc).elim fun r h1 => ⟨r, h1.1, offH_at h1.2 fun z => (by have := h1.2; rw [z, hp] at this; cases this)⟩⟩⟩,
    ⟨ts, offH_at hl fun z => (by rw [z, hp] at hl; cases hl), hI.offI hp⟩⟩
theorem RwA.offI {H : Hp} {p C dx : Addr} {fs : List (Str × V)} (hp : H p = some (.ins C dx fs)) {q : Addr} {nss : List (List Int)} (h : RwA H q nss) : RwA (offH H p) q nss := by
  obtain ⟨rs, h1, h2⟩ := h
  exact ⟨rs, offH_at h1 fun z => (by rw [z, hp] at h1; cases h1), h2.offI' hp⟩
theorem lvh_first {n : Nat} {rows : List Sm.Row} (hl : ∀ q ∈ rows, q.length = n) (hn : n ≤ 20) : LvH n (Sm.units n, [], (Sm.stairs n rows).steps) := by
  obtain ⟨F, w1, m1⟩ := Sm.stairs_ok hl
  have h1 : (Sm.stairs n rows).steps.length ≤ n := by
    rw [Sm.steps_len]
    have := Sm.colsB_len (S := Sm.stairs n rows) (a := 0) (b := (Sm.stairs n rows).w)
    unfold Sm.Sts.cols
    omega
  have I := (Sm.first_I F).1
  rw [w1] at I
  exact ⟨Sm.units_rows, fun r hr => (nomatch hr), fun r hr => by rw [Sm.steps_rows F r hr, w1]; exact Sm.units_len.symm, Nat.le_of_eq Sm.units_len, Nat.zero_le _, h1, ⟨_, _, _, I⟩⟩
theorem lcLD {a : Addr} {xs : List V} {te : TE} {σ : L2.St} {H : Hp} {K : PySem.W.Frag} {j : Nat} {vs : List Nat} {Dl : Addr} {Qd : Hp → Prop} (f : Nat → V) (hD : H Dl = none) (hx : SqL K H a xs) (hz : xs.length ≤ 40000)
    (hw : ∀ x, wipe ((wipe σ vs).set j (some x)) vs = wipe σ vs)
    (he : ∀ (i : Nat) (x : V) H1, Ex H H1 → xs[i]? = some x → EvX te ((wipe σ vs).set j (some x)) H1 (fun y _ => y = f i))
    (q : ∀ H2, Ex H H2 → H2 Dl = some (.lst ((List.range xs.length).map f)) → Qd H2) :
    ∃ W : Nat → Nat → Hp → Prop, (∃ m, W 0 m (upd H Dl (.lst []))) ∧ ∀ i m H', W i m H' →
      ((Itl K a).stop i H' ∧ Qd H') ∨ ((Itl K a).go i H' ∧ ∃ Nx : Hp → Prop, (∀ H'', Nx H'' → ∃ m', m' < m ∧ W (i + 1) m' H'') ∧ ∀ x H'', (Itl K a).yld i H' x H'' → gName j x (wipe σ vs) H'' fun σ2 H2 => wipe σ2 vs = wipe σ vs ∧ tYes σ2 H2 fun b H3 =>
        if b = true then te σ2 H3 fun y H4 => ∃ acc, H4 Dl = some (.lst acc) ∧ acc.length < sizeLine ∧ Nx (upd H4 Dl (.lst (acc ++ [y]))) else Nx H3) :=
  lc_list (xs := xs) (Cwf H f Dl) ⟨hD, Evl.Ex.new hD, upd_same⟩ (fun i H' _ p => Evl.ex_l p.2.1 hx) (fun i x H' hi p => ⟨hw x, cwf_turn p (by have := (List.getElem?_eq_some_iff.mp hi).1; omega) (he i x H (Ex.refl H) hi)⟩)
    (fun H' ⟨p1, p2, p3⟩ => q H' p2 p3)
theorem lcFD {σ : L2.St} {H : Hp} {j : Nat} {vs : List Nat} {Dl : Addr} {Qd : Hp → Prop} {tt : TT} {te : TE} {n : Nat} (c : Nat → Bool) (hD : H Dl = none) (hn : n ≤ 40000) (hw : ∀ x, wipe ((wipe σ vs).set j (some x)) vs = wipe σ vs)
    (ht : ∀ (i : Nat) H1, Ex H H1 → i < n → ∀ Q : Bool → Hp → Prop, Q (c i) H1 → tt ((wipe σ vs).set j (some (.int (i : Int)))) H1 Q)
    (he : ∀ (i : Nat) H1, Ex H H1 → i < n → ∀ Q : VK, Q (.int (i : Int)) H1 → te ((wipe σ vs).set j (some (.int (i : Int)))) H1 Q)
    (q : ∀ H2, Ex H H2 → H2 Dl = some (.lst (((List.range n).filter c).map fun i : Nat => V.int (i : Int))) → Qd H2) :
    ∃ W : Nat → Nat → Hp → Prop, (∃ m, W 0 m (upd H Dl (.lst []))) ∧ ∀ i m H', W i m H' →
      ((Itr 0 n).stop i H' ∧ Qd H') ∨ ((Itr 0 n).go i H' ∧ ∃ Nx : Hp → Prop, (∀ H'', Nx H'' → ∃ m', m' < m ∧ W (i + 1) m' H'') ∧ ∀ x H'', (Itr 0 n).yld i H' x H'' → gName j x (wipe σ vs) H'' fun σ2 H2 => wipe σ2 vs = wipe σ vs ∧ tt σ2 H2 fun b H3 =>
        if b = true then te σ2 H3 fun y H4 => ∃ acc, H4 Dl = some (.lst acc) ∧ acc.length < sizeLine ∧ Nx (upd H4 Dl (.lst (acc ++ [y]))) else Nx H3) := by
  refine lc_range (lo := 0) (n := n) (fun i H' => Ex H H' ∧ H' Dl = some (.lst (((List.range i).filter c).map fun i : Nat => V.int (i : Int)))) ⟨Evl.Ex.new hD, upd_same⟩ (fun i H' hi ⟨e, h⟩ => ?_) (fun H' ⟨e, h⟩ => q H' e h)
  have e0 : (0 : Int) + (i : Int) = (i : Int) := Int.zero_add _
  rw [e0]
  refine ⟨hw _, ht i H' e hi _ ?_⟩
  have es : (List.range (i + 1)).filter c = (List.range i).filter c ++ if c i = true then [i] else [] := by
    rw [List.range_succ, List.filter_append]
    congr 1
    by_cases hc : c i = true
    · rw [if_pos hc, List.filter_cons, if_pos hc]; rfl
    · rw [if_neg hc, List.filter_cons, if_neg hc]; rfl
  by_cases hc : c i = true
  · rw [if_pos hc]
    refine he i H' e hi _ ⟨_, h, Evl.sz_lt (by rw [List.length_map]; have := List.length_filter_le c (List.range i); rw [List.length_range] at this; omega), Evl.Ex.mut e hD, ?_⟩
    rw [upd_same, es, if_pos hc, List.map_append]
    rfl
  · rw [if_neg hc]
    refine ⟨e, ?_⟩
    rw [es, if_neg hc, List.append_nil]
    exact h
theorem pl_fs2 (a b : V) : putF "moduli" b [(("stairs" : Str), a)] = [(("stairs" : Str), a), (("moduli" : Str), b)] := by
  have h1 : ("stairs" : Str) ≠ "moduli" := by decide +kernel
  simp [putF, h1]
theorem pl_fs3 (a b c : V) : putF "gauges" c [(("stairs" : Str), a), (("moduli" : Str), b)] = [(("stairs" : Str), a), (("moduli" : Str), b), (("gauges" : Str), c)] := by
  have h1 : ("stairs" : Str) ≠ "gauges" := by decide +kernel
  have h2 : ("moduli" : Str) ≠ "gauges" := by decide +kernel
  simp [putF, h1, h2]
theorem pl_fs4 (a b c d : V) : putF "_corners" d [(("stairs" : Str), a), (("moduli" : Str), b), (("gauges" : Str), c)] = [(("stairs" : Str), a), (("moduli" : Str), b), (("gauges" : Str), c), (("_corners" : Str), d)] := by
  have h1 : ("stairs" : Str) ≠ "_corners" := by decide +kernel
  have h2 : ("moduli" : Str) ≠ "_corners" := by decide +kernel
  have h3 : ("gauges" : Str) ≠ "_corners" := by decide +kernel
  simp [putF, h1, h2, h3]
theorem pl_fs5 (a b c d e : V) : putF "_letters" e [(("stairs" : Str), a), (("moduli" : Str), b), (("gauges" : Str), c), (("_corners" : Str), d)] = [(("stairs" : Str), a), (("moduli" : Str), b), (("gauges" : Str), c), (("_corners" : Str), d), (("_letters" : Str), e)] := by
  have h1 : ("stairs" : Str) ≠ "_letters" := by decide +kernel
  have h2 : ("moduli" : Str) ≠ "_letters" := by decide +kernel
  have h3 : ("gauges" : Str) ≠ "_letters" := by decide +kernel
  have h4 : ("_corners" : Str) ≠ "_letters" := by decide +kernel
  simp [putF, h1, h2, h3, h4]
theorem lk0 {a b : Str} {v : V} {r : List (Str × V)} (h : a = b) : List.lookup a ((b, v) :: r) = some v := by simp [List.lookup, h]
theorem lk1 {a b : Str} {v : V} {r : List (Str × V)} (h : (a == b) = false) : List.lookup a ((b, v) :: r) = List.lookup a r := by simp [List.lookup, h]
theorem lim_at {N : Nat} {W : List Sm.Row} {i j : Nat} (h : Sm.Within N W) : (Sm.gf (W.getD i []) j).natAbs ≤ N := by
  by_cases hi : i < W.length
  · rw [List.getD_eq_getElem?_getD, List.getElem?_eq_getElem hi]
    exact h _ (List.getElem_mem hi) j
  · rw [List.getD_eq_getElem?_getD, List.getElem?_eq_none (by omega)]
    simp [Sm.gf]
theorem ne_bl (a b : Int) : (!decide (V.int a = V.int b)) = (a != b) := by
  by_cases h : a = b
  · subst h; simp
  · simp [h]
theorem lkRest (S : Sm.Sts) (d l : Addr) : List.lookup (α := Str) "rest" (fsS S d l) = none := lkN S d l (by decide +kernel) (by decide +kernel) (by decide +kernel) (by decide +kernel)
def spPInit (CP CS : Addr) : Sp := fun vs H Q _ => ∃ (p dx a : Addr) (n : Nat) (rs : List Addr) (nss : List (List Int)) (z : Nat) (r : Sm.Row × List Sm.Row), vs = [.ref p, .int (n : Int), .ref a] ∧ H p = some (.ins CP dx []) ∧ H a = some (.lst (rs.map V.ref)) ∧ RowsL H rs nss ∧ zL z ∧ Sm.PlOk z n nss r ∧
  ∀ H', (∀ b o, b ≠ p → H b = some o → H' b = some o) → PlA H' CP CS p (plan n nss r) → Q .non H'
theorem ok_pinit {CP CS : Addr} (F : FnP K "__init__" "Plan.__init__" s_Plan_init f fd) (B : Bi mg) (cp : Pc K CP) (cl : Sc K CS) (SM : StMk P w K mg base CS)
    (D_levelled : Df P w K mg base CX0 39 "levelled" ["width", "steps"] (spLev CS)) (D_turned : Df P w K mg base CX0 1 "turned" ["rows", "width"] (spTurned K)) (D_left_of : Df P w K mg base CX0 1 "left_of" ["number", "kind"] spLeft)
    (MS : Mt P w K mg base CX0 1 CS "steps" ["self"] (spStep CS Sm.Sts.steps)) (MP : Mt P w K mg base CX0 1 CS "step_times" ["self"] (spStep CS Sm.Sts.stepTimes)) (MR : Mt P w K mg base CX0 35 CS "rest" ["self", "row"] (spRest CS)) :
    FnOk P w K mg base CX0 40 f fd ["self", "letters", "nothings"] (spPInit CP CS) := by
  obtain ⟨fK, fdK, MK, FK, bK⟩ := SM.ex
  obtain ⟨fS, fdS, FS, mS, bS⟩ := MS
  obtain ⟨fP, fdP, FP, mP, bP⟩ := MP
  obtain ⟨fR, fdR, FR, mR, bR⟩ := MR
  refine F.ok sc_Plan_init (fun vs H Q E h => ?_) (fun cdv A outer s H vs Q E hr h => ⟨_, PSs.nox
   (pss_cons (ps_fld (pv 0) (pe_make MK FK (hr.mono (by decide)) rfl SM.g bK .nil pass0 (pa_cons (pv 1) (pa_cons (pv 2) pa_nil))) rfl)
      (pss_cons (ps_asg (pe_df D_levelled (hr.mono (by decide)) (pa_cons (pv 1) (pa_cons (pe_meth0 (pe_fld (pv 0) rfl) cl.cl mS FS (hr.mono (by decide)) bS .nil pass0) pa_nil))) (pg_tup rfl (pgs_cons (pg_name (i := 3) sc_Plan_init.nd rfl (Or.inr rfl)) (pgs_cons (pg_name (i := 4) sc_Plan_init.nd rfl (Or.inr rfl)) pgs_nil))))
      (pss_cons (ps_set (i := 5) sc_Plan_init.nd rfl (Or.inr rfl) (pe_meth0 (pe_make MK FK (hr.mono (by decide)) rfl SM.g bK .nil pass0 (pa_cons (pv 1) (pa_cons (pe_df D_turned (hr.mono (by decide)) (pa_cons (pv 4) (pa_cons (pv 1) pa_nil))) pa_nil))) cl.cl mP FP (hr.mono (by decide)) bP .nil pass0))
      (pss_cons (ps_setLc (i := 6) (own := [("at", 7)]) (g := gName 7) rfl sc_Plan_init.nd rfl rfl (sw_true rfl rfl rfl (by decide +kernel)) (pi_range1 rfl B.range_ (pa_cons (pv 1) pa_nil)) (blkOk_by (N := n_Plan_init) (sc := defScope s_Plan_init) (by decide +kernel)) (fun _ _ _ _ _ => (pg_name (i := 7) sc_Plan_init.nd rfl (Or.inl rfl))) (fun _ _ _ _ _ => (pts_one (pt_cmpR op_ne (pe_ix (r := rIxL K) ix_list (pv 3) (pv 7) (fun _ _ => rfl)) pe_int (nomark _)))) (fun _ _ _ _ _ => (pv 7)))
      (pss_cons (ps_fld (pv 0) (pe_lc (own := [("at", 7)]) (g := gName 7) (tt := tYes) rfl sc_Plan_init.nd (pi_list (pv 6)) (blkOk_by (N := n_Plan_init) (sc := defScope s_Plan_init) (by decide +kernel)) (fun _ _ _ _ _ => (pg_name (i := 7) sc_Plan_init.nd rfl (Or.inl rfl))) (fun _ _ _ _ _ => pts_nil) (fun _ _ _ _ _ => (pe_ix (r := rIxL K) ix_list (pv 3) (pv 7) (fun _ _ => rfl)))) rfl)
      (pss_cons (ps_fld (pv 0) (pe_lc (own := [("at", 7)]) (g := gName 7) (tt := tYes) rfl sc_Plan_init.nd (pi_list (pv 6)) (blkOk_by (N := n_Plan_init) (sc := defScope s_Plan_init) (by decide +kernel)) (fun _ _ _ _ _ => (pg_name (i := 7) sc_Plan_init.nd rfl (Or.inr rfl))) (fun _ _ _ _ _ => pts_nil) (fun _ _ _ _ _ => (pe_lc (wi := iList K (tOp (rIxL K) (tVar 4) (tVar 7))) (own := [("weight", 8)]) (g := gName 8) (tt := tYes) rfl sc_Plan_init.nd (pi_list (pe_ix (r := rIxL K) ix_list (pv 4) (pv 7) (fun _ _ => rfl))) (blkOk_by (by rfl)) (fun _ _ _ _ _ => (pg_name (i := 8) sc_Plan_init.nd rfl (Or.inl rfl))) (fun _ _ _ _ _ => pts_nil) (fun _ _ _ _ _ => (pe_df D_left_of (hr.mono (by decide)) (pa_cons (pv 8) (pa_cons (pe_ix (r := rIxL K) ix_list (pv 3) (pv 7) (fun _ _ => rfl)) pa_nil))))))) rfl)
      (pss_cons (ps_fld (pv 0) (pe_lc (own := [("at", 7)]) (g := gName 7) (tt := tYes) rfl sc_Plan_init.nd (pi_list (pv 6)) (blkOk_by (N := n_Plan_init) (sc := defScope s_Plan_init) (by decide +kernel)) (fun _ _ _ _ _ => (pg_name (i := 7) sc_Plan_init.nd rfl (Or.inl rfl))) (fun _ _ _ _ _ => pts_nil) (fun _ _ _ _ _ => (pe_meth (pe_fldK (K1 := K) rfl (pv 0) rfl) cl.cl mR FR (hr.mono (by decide)) bR .nil pass0 (pa_cons (pe_ix (r := rIxL K) ix_list (pv 5) (pv 7) (fun _ _ => rfl)) pa_nil)))) rfl)
      (pss_one (ps_fld (pv 0) (pv 1) rfl))))))))), ?_⟩)
  · obtain ⟨p, dx, a, n, rs, nss, z, r, rfl, _⟩ := h
    rfl
  · obtain ⟨p, dx, a, n, rs, nss, z, r, rfl, hp, ha, hr1, hz, ok, k⟩ := h
    simp only [cxK]
    have n6 := ok.n6
    have m17 := ok.m17
    obtain ⟨SF, Sw, Sm'⟩ := Sm.stairs_ok ok.len
    have scnt := SF.cnt
    unfold Sm.Sts.gens at scnt
    rw [List.length_append] at scnt
    have sn : Sn (Sm.stairs n nss) := sn_of SF.g (by omega) (by omega) (by omega) (by omega)
    refine ⟨_, rfl, _, rfl, ?_⟩
    refine st_make (n := n) (z := z) ha hr1 ok.len (by omega) (by omega) hz ok.all fun xs d l H1 e1 hxs hd hl hS => ?_
    have hp1 := e1 _ _ hp
    have xp : xs ≠ p := fun z => by rw [z, hp] at hxs; cases hxs
    have hS1 := hS.offI hp1 xp
    have E1 : Ex (offH H p) (offH H1 p) := offH_ex e1
    refine ⟨_, rfl, p, CP, dx, [], rfl, hp1, cp.cl, cp.nS, by simp, ?_⟩
    have fs1 : putF "stairs" (.ref xs) [] = [(("stairs" : Str), V.ref xs)] := rfl
    rw [fs1]
    have hp2 : upd H1 p (.ins CP dx [(("stairs" : Str), V.ref xs)]) p = some (.ins CP dx [(("stairs" : Str), V.ref xs)]) := upd_same
    have eo : offH (upd H1 p (.ins CP dx [(("stairs" : Str), V.ref xs)])) p = offH H1 p := offH_upd
    rw [← eo] at hS1 E1
    generalize upd H1 p (.ins CP dx [(("stairs" : Str), V.ref xs)]) = H2 at hp2 hS1 E1 ⊢
    clear eo hS hp1 hxs hd hl e1
    obtain ⟨dxs, hos⟩ := (hS1.ex offH_le).obj
    -- levelled
    refine ⟨_, rfl, _, rfl, p, CP, dx, _, _, rfl, hp2, cp.cl, cp.nS, lk0 rfl, xs, dxs, _, rfl, hos, lkSteps _ d l, xs, d, l, _, rfl, hS1.ex offH_le, by omega, by omega, fun ps qs H3 hps e3 hps3 hqs _ => ?_⟩
    obtain ⟨fu, lv1, lv2⟩ := ok.lvs
    refine ⟨n, ps, qs, _, z, fu, r, rfl, hps3, hqs, by omega, hz, lvh_first ok.len (by omega), lv1, lv2, fun t pk pg gs H4 e4 ht hpk hpg hgs => ?_⟩
    refine ⟨t, _, rfl, Evl.st_of ht, rfl, _, _, rfl, _, _, rfl, rfl, ?_⟩
    have e34 := e3.trans e4
    have hp4 := e34 _ _ hp2
    have hS4 := hS1.ex (offH_ex e34)
    have E4 := E1.trans (offH_ex (p := p) e34)
    have gl := ok.ok.gl
    have gr := ok.ok.gr
    have gsl := hgs.len
    clear hps3 hqs hps ht e3 e4 e34 hos
    -- corners
    refine ⟨_, rfl, _, rfl, _, rfl, pg, gs, r.2, n, rfl, hpg, hgs, (fun ns hns => by rw [gr ns hns]; exact Nat.le_refl _), by omega, by omega, fun pt qt H5 hpt e5 hpt5 hqt _ => ?_⟩
    refine st_make (n := n) (z := z) hpt5 hqt (fun ns hns => by rw [Sm.turned_rows ns hns, gl]) (by omega) (by rw [Sm.turned_len]; omega) hz ok.cor fun x2 d2 l2 H6 e6 hx6 hd6 hl6 hS6 => ?_
    obtain ⟨dx6, ho6⟩ := hS6.obj
    obtain ⟨CF, Cw, Cm⟩ := Sm.stairs_ok (w := n) (rows := Sm.turned r.2 n) (fun ns hns => by rw [Sm.turned_rows ns hns, gl])
    have ccnt := CF.cnt
    unfold Sm.Sts.gens at ccnt
    rw [List.length_append, Sm.turned_len] at ccnt
    obtain ⟨col, cor⟩ := Sm.corners_len gl gr ok.ok.sur
    refine ⟨x2, dx6, _, rfl, ho6, lkST _ d2 l2, x2, d2, l2, _, rfl, hS6, by omega, by omega, fun pc qc H7 hpc e7 hpc7 hqc _ => ?_⟩
    have hC7 : RowsL H7 qc (Sm.corners n r.2) := hqc
    have e47 := (e5.trans e6).trans e7
    have hp7 := e47 _ _ hp4
    have hS7 := hS4.ex (offH_ex e47)
    have E7 := E4.trans (offH_ex (p := p) e47)
    have hpk7 := e47 _ _ hpk
    have hpg7 := e47 _ _ hpg
    have hgs7 := hgs.ex e47
    clear hqc hpt5 hqt hpt hx6 hd6 hl6 hS6 ho6 e5 e6 e7 e47 hpk hpg hgs hp4 hS4 E4 hpc hp2 hS1 E1
    have kl := ok.ok.kl
    -- kept
    refine ⟨_, rfl, n, rfl, by omega, by omega, fun pt hpt => ?_⟩
    rw [show ((n : Int)).toNat = n from Int.toNat_natCast n]
    refine lcFD (fun a => Sm.gf r.1 a != 1) hpt (by omega) (by intro x; rfl) (fun i H8 e8 hi Q1 q1 => ?_) (fun i H8 e8 hi Q1 q1 => ⟨_, rfl, q1⟩) fun H8 e8 hpt8 => ?_
    · refine ⟨_, rfl, _, rfl, pk, _, _, _, rfl, rfl, Evl.sq_of (e8 _ _ hpk7), atI_gf (by omega), rfl, _, congrArg V.bl (ne_bl _ _), q1⟩
    have hkept : H8 pt = some (.lst ((keptOf n r.1).map fun i : Nat => V.int (i : Int))) := hpt8
    have kin : ∀ a ∈ keptOf n r.1, a < n := fun a ha => List.mem_range.mp (List.mem_filter.mp ha).1
    have kll : (keptOf n r.1).length ≤ n := by
      have := List.length_filter_le (fun a => Sm.gf r.1 a != 1) (List.range n)
      rw [List.length_range] at this
      exact this
    have hp8 := e8 _ _ hp7
    have hS8 := hS7.ex (offH_ex e8)
    have E8 := E7.trans (offH_ex (p := p) e8)
    have hpk8 := e8 _ _ hpk7
    have hpg8 := e8 _ _ hpg7
    have hgs8 := hgs7.ex e8
    have hpc8 := e8 _ _ hpc7
    have hC8 := hC7.ex e8
    clear hpt8 hp7 hS7 E7 hpk7 hpg7 hgs7 hpc7 hC7 e8
    -- moduli
    refine ⟨_, rfl, pt, rfl, ⟨_, Evl.sq_of hkept⟩, fun pm hpm => ?_⟩
    refine lcLD (fun i => V.int (((keptOf n r.1).map fun a => Sm.gf r.1 a).getD i 0)) hpm (Evl.sq_of hkept) (by rw [List.length_map]; omega) (by intro x; rfl) (fun i y H9 e9 hy => ?_) fun H9 e9 hpm9 => ?_
    · rw [List.getElem?_map] at hy
      cases hy2 : (keptOf n r.1)[i]? with
      | none => rw [hy2] at hy; cases hy
      | some a =>
        rw [hy2] at hy
        cases hy
        have ha := kin a (List.mem_of_getElem? hy2)
        intro H10 e10 Q1 q1
        refine ⟨_, rfl, _, rfl, pk, _, _, _, rfl, rfl, Evl.sq_of ((e9.trans e10) _ _ hpk8), atI_gf (by omega), q1 _ H10 (Ex.refl H10) ?_⟩
        rw [List.getD_eq_getElem?_getD, List.getElem?_map, hy2]
        rfl
    have em : (List.range ((keptOf n r.1).map fun i : Nat => V.int (i : Int)).length).map (fun i => V.int (((keptOf n r.1).map fun a => Sm.gf r.1 a).getD i 0)) = ((keptOf n r.1).map fun a => Sm.gf r.1 a).map V.int := by
      rw [map_getD V.int, List.length_map, List.length_map]
    rw [em] at hpm9
    have pmp : pm ≠ p := fun z => by rw [z, hp8] at hpm; cases hpm
    refine ⟨_, rfl, p, CP, dx, _, rfl, e9 _ _ hp8, cp.cl, cp.nM, by simp, ?_⟩
    rw [pl_fs2]
    have M9 : offH (upd H9 p (.ins CP dx [(("stairs" : Str), V.ref xs), (("moduli" : Str), .ref pm)])) p pm = some (.lst (((keptOf n r.1).map fun a => Sm.gf r.1 a).map V.int)) := by
      rw [offH_upd]
      exact offH_at hpm9 pmp
    have eo : offH (upd H9 p (.ins CP dx [(("stairs" : Str), V.ref xs), (("moduli" : Str), .ref pm)])) p = offH H9 p := offH_upd
    have hp9 : upd H9 p (.ins CP dx [(("stairs" : Str), V.ref xs), (("moduli" : Str), .ref pm)]) p = some (.ins CP dx [(("stairs" : Str), V.ref xs), (("moduli" : Str), .ref pm)]) := upd_same
    have off9 : ∀ {b o}, b ≠ p → H8 b = some o → offH (upd H9 p (.ins CP dx [(("stairs" : Str), V.ref xs), (("moduli" : Str), .ref pm)])) p b = some o := fun hb h => by rw [offH_upd]; exact offH_at (e9 _ _ h) hb
    have hS9 : StA (offH (upd H9 p (.ins CP dx [(("stairs" : Str), V.ref xs), (("moduli" : Str), .ref pm)])) p) CS xs d l (Sm.stairs n nss) := by rw [offH_upd]; exact hS8.ex (offH_ex e9)
    have E9 : Ex (offH H p) (offH (upd H9 p (.ins CP dx [(("stairs" : Str), V.ref xs), (("moduli" : Str), .ref pm)])) p) := by rw [offH_upd]; exact E8.trans (offH_ex e9)
    have G9 : RwA (offH (upd H9 p (.ins CP dx [(("stairs" : Str), V.ref xs), (("moduli" : Str), .ref pm)])) p) pg r.2 := by rw [offH_upd]; exact RwA.ex (offH_ex e9) (RwA.offI hp8 ⟨gs, hpg8, hgs8⟩)
    have C9 : RwA (offH (upd H9 p (.ins CP dx [(("stairs" : Str), V.ref xs), (("moduli" : Str), .ref pm)])) p) pc (Sm.corners n r.2) := by rw [offH_upd]; exact RwA.ex (offH_ex e9) (RwA.offI hp8 ⟨qc, hpc8, hC8⟩)
    have ptp : pt ≠ p := fun z => by rw [z, hp8] at hkept; cases hkept
    have pkp : pk ≠ p := fun z => by rw [z, hp8] at hpk8; cases hpk8
    have T9 := off9 ptp hkept
    have K9 := off9 pkp hpk8
    generalize upd H9 p (.ins CP dx [(("stairs" : Str), V.ref xs), (("moduli" : Str), .ref pm)]) = H10 at M9 hp9 hS9 E9 G9 C9 T9 K9 ⊢
    clear off9 eo hpm9 em hp8 hS8 E8 hpk8 hpg8 hgs8 hpc8 hC8 hkept e9 hpm hpt
    -- gauges
    refine ⟨_, rfl, pt, rfl, ⟨_, Evl.sq_of (offH_le _ _ T9)⟩, fun pgn hpgn => ?_⟩
    refine lcRowsD ((keptOf n r.1).map fun a => (r.2.getD a []).map fun w => leftOf w (Sm.gf r.1 a)) hpgn (Evl.sq_of (offH_le _ _ T9)) (by rw [List.length_map, List.length_map]) (by rw [List.length_map]; omega) (by intro x; rfl) (fun i y ns H11 e11 hy hns => ?_) fun qg H11 e11 hpg11 hqg hqgs => ?_
    · rw [List.getElem?_map] at hy hns
      cases hy2 : (keptOf n r.1)[i]? with
      | none => rw [hy2] at hy; cases hy
      | some a =>
        rw [hy2] at hy hns
        cases hy
        have hns := (Option.some.inj hns).symm
        have ha := kin a (List.mem_of_getElem? hy2)
        obtain ⟨gs', g1, g2⟩ := G9
        have glen := g2.len
        have gla : a < gs'.length := by omega
        have ga : gs'[a]? = some gs'[a] := List.getElem?_eq_getElem gla
        obtain ⟨ms, m1, m2⟩ := g2.get ga
        have md : r.2.getD a [] = ms := by rw [List.getD_eq_getElem?_getD, m1]; rfl
        dsimp only at hns
        rw [md] at hns
        have mln : ms.length = n := gr ms (List.mem_of_getElem? m1)
        have hv : ns.map V.int = (List.range (ms.map V.int).length).map fun k => V.int (leftOf (ms.getD k 0) (Sm.gf r.1 a)) := by
          rw [hns, List.map_map, List.length_map]
          exact map_getD (fun w => V.int (leftOf w (Sm.gf r.1 a))) ms
        rw [hv]
        refine lcLf (fun k => V.int (leftOf (ms.getD k 0) (Sm.gf r.1 a))) (fun H12 e12 Q1 q1 => ⟨_, rfl, _, rfl, pg, _, _, _, rfl, rfl, Evl.sq_of ((e11.trans e12) _ _ (offH_le _ _ g1)), atI_ref ga, q1 H12 (Ex.refl H12)⟩) (Evl.sq_of (e11 _ _ (offH_le _ _ m2))) (by rw [List.length_map]; omega) (fun x => rfl) (fun k y H12 e12 hy => ?_)
        rw [List.getElem?_map] at hy
        cases hy3 : ms[k]? with
        | none => rw [hy3] at hy; cases hy
        | some w0 =>
          rw [hy3] at hy
          cases hy
          intro H13 e13 Q2 q2
          refine ⟨_, rfl, _, rfl, _, rfl, pk, _, _, _, rfl, rfl, Evl.sq_of (((e11.trans e12).trans e13) _ _ (offH_le _ _ K9)), atI_gf (by omega), w0, Sm.gf r.1 a, rfl, q2 _ H13 (Ex.refl H13) ?_⟩
          rw [List.getD_eq_getElem?_getD, hy3]
          rfl
    have pgp : pgn ≠ p := fun z => by rw [z, hp9] at hpgn; cases hpgn
    refine ⟨_, rfl, p, CP, dx, _, rfl, e11 _ _ hp9, cp.cl, cp.nG, by simp, ?_⟩
    rw [pl_fs3]
    have GG : RwA (offH (upd H11 p (.ins CP dx [(("stairs" : Str), V.ref xs), (("moduli" : Str), .ref pm), (("gauges" : Str), .ref pgn)])) p) pgn ((keptOf n r.1).map fun a => (r.2.getD a []).map fun w => leftOf w (Sm.gf r.1 a)) := by
      rw [offH_upd]
      exact RwA.offI (e11 _ _ hp9) ⟨qg, hpg11, hqg⟩
    have hpB : upd H11 p (.ins CP dx [(("stairs" : Str), V.ref xs), (("moduli" : Str), .ref pm), (("gauges" : Str), .ref pgn)]) p = some (.ins CP dx [(("stairs" : Str), V.ref xs), (("moduli" : Str), .ref pm), (("gauges" : Str), .ref pgn)]) := upd_same
    have EB : Ex (offH H10 p) (offH (upd H11 p (.ins CP dx [(("stairs" : Str), V.ref xs), (("moduli" : Str), .ref pm), (("gauges" : Str), .ref pgn)])) p) := by rw [offH_upd]; exact offH_ex e11
    generalize upd H11 p (.ins CP dx [(("stairs" : Str), V.ref xs), (("moduli" : Str), .ref pm), (("gauges" : Str), .ref pgn)]) = HB at GG hpB EB ⊢
    have TB := EB _ _ T9
    have CB := C9.ex EB
    have SB := hS9.ex EB
    have MB := EB _ _ M9
    have E0B := E9.trans EB
    clear hpg11 hqg hqgs e11 hp9 T9 C9 hS9 M9 G9 K9 E9 EB hpgn
    -- corners
    obtain ⟨dxs, hos⟩ := SB.obj
    refine ⟨_, rfl, pt, rfl, ⟨_, Evl.sq_of (offH_le _ _ TB)⟩, fun pcn hpcn => ?_⟩
    refine lcRowsD ((keptOf n r.1).map fun a => (Sm.stairs n nss).rest ((Sm.corners n r.2).getD a [])) hpcn (Evl.sq_of (offH_le _ _ TB)) (by rw [List.length_map, List.length_map]) (by rw [List.length_map]; omega) (by intro x; rfl) (fun i y ns H11 e11 hy hns => ?_) fun qg H11 e11 hpg11 hqg hqgs => ?_
    · rw [List.getElem?_map] at hy hns
      cases hy2 : (keptOf n r.1)[i]? with
      | none => rw [hy2] at hy; cases hy
      | some a =>
        rw [hy2] at hy hns
        cases hy
        have hns := (Option.some.inj hns).symm
        have ha := kin a (List.mem_of_getElem? hy2)
        obtain ⟨cs', g1, g2⟩ := CB
        have glen := g2.len
        have gla : a < cs'.length := by omega
        have ga : cs'[a]? = some cs'[a] := List.getElem?_eq_getElem gla
        obtain ⟨ms, m1, m2⟩ := g2.get ga
        have md : (Sm.corners n r.2).getD a [] = ms := by rw [List.getD_eq_getElem?_getD, m1]; rfl
        dsimp only at hns
        rw [md] at hns
        have mm := List.mem_of_getElem? m1
        have mln : ms.length = n := cor ms mm
        intro H12 e12 Q1 q1
        have e2 := e11.trans e12
        rw [hns] at q1
        exact ⟨_, rfl, p, CP, dx, _, _, rfl, e2 _ _ hpB, cp.cl, cp.nS, lk0 rfl, xs, dxs, _, rfl, e2 _ _ (offH_le _ _ hos), lkRest _ d l, _, rfl, _, rfl, pc, _, _, _, rfl, rfl, Evl.sq_of (e2 _ _ (offH_le _ _ g1)), atI_ref ga, xs, d, l, cs'[a], Sm.stairs n nss, ms, z, rfl, (SB.ex offH_le).ex e2, sn, hz, e2 _ _ (offH_le _ _ m2), by omega, (ok.cob ms mm).1, fun p2 H13 hp2 e13 h13 => q1 p2 H13 hp2 e13 h13⟩
    refine ⟨_, rfl, p, CP, dx, _, rfl, e11 _ _ hpB, cp.cl, cp.nC, by simp, ?_⟩
    rw [pl_fs4]
    have CC : RwA (offH (upd H11 p (.ins CP dx [(("stairs" : Str), V.ref xs), (("moduli" : Str), .ref pm), (("gauges" : Str), .ref pgn), (("_corners" : Str), .ref pcn)])) p) pcn ((keptOf n r.1).map fun a => (Sm.stairs n nss).rest ((Sm.corners n r.2).getD a [])) := by
      rw [offH_upd]
      exact RwA.offI (e11 _ _ hpB) ⟨qg, hpg11, hqg⟩
    have hpC : upd H11 p (.ins CP dx [(("stairs" : Str), V.ref xs), (("moduli" : Str), .ref pm), (("gauges" : Str), .ref pgn), (("_corners" : Str), .ref pcn)]) p = some (.ins CP dx [(("stairs" : Str), V.ref xs), (("moduli" : Str), .ref pm), (("gauges" : Str), .ref pgn), (("_corners" : Str), .ref pcn)]) := upd_same
    have EC : Ex (offH HB p) (offH (upd H11 p (.ins CP dx [(("stairs" : Str), V.ref xs), (("moduli" : Str), .ref pm), (("gauges" : Str), .ref pgn), (("_corners" : Str), .ref pcn)])) p) := by rw [offH_upd]; exact offH_ex e11
    generalize upd H11 p (.ins CP dx [(("stairs" : Str), V.ref xs), (("moduli" : Str), .ref pm), (("gauges" : Str), .ref pgn), (("_corners" : Str), .ref pcn)]) = HC at CC hpC EC ⊢
    refine ⟨_, rfl, _, rfl, p, CP, dx, _, rfl, hpC, cp.cl, cp.nL, by simp, ?_⟩
    rw [pl_fs5]
    have eo : offH (upd HC p (.ins CP dx [(("stairs" : Str), V.ref xs), (("moduli" : Str), .ref pm), (("gauges" : Str), .ref pgn), (("_corners" : Str), .ref pcn), (("_letters" : Str), .int (n : Int))])) p = offH HC p := offH_upd
    have le : Ex (offH HC p) (upd HC p (.ins CP dx [(("stairs" : Str), V.ref xs), (("moduli" : Str), .ref pm), (("gauges" : Str), .ref pgn), (("_corners" : Str), .ref pcn), (("_letters" : Str), .int (n : Int))])) := fun b o h => offH_le b o (eo ▸ h)
    refine k _ (fun b o hb h => le _ _ (EC _ _ (E0B _ _ (offH_at h hb)))) ⟨dx, xs, d, l, pm, pgn, pcn, upd_same, (SB.ex EC).ex le, le _ _ (EC _ _ MB), RwA.ex le (GG.ex EC), CC.ex le⟩
end
end Sr
/-! # S10 -/
namespace Sr
open PySem PySem.Spec PyProof.Rows L2
open Evl (Ex Ev EvL EvU EvT EvA RetL RetV)
def Pln.spot (p : Pln) (one : Sm.Row) : Sm.Row := List.zipWith (fun g k => leftOf (List.zipWith (fun a b => a * b) one g).sum k) p.gau p.mod
def Pln.sumAt (p : Pln) (spot : Sm.Row) : Sm.Row := p.st.rest (Sm.woven spot p.cor p.n)
def Pln.gauge (p : Pln) (gap : Sm.Row) : Option (Sm.Row × Int) := ((List.range p.mod.length).find? fun a => Sm.gf (p.spot gap) a != 0).map fun a => (p.gau.getD a [], Sm.gf p.mod a)
/-- what a plan is good for -/
structure PlW (z : Nat) (p : Pln) : Prop where
  n6 : p.n ≤ 6
  m6 : p.mod.length ≤ 6
  gl : p.gau.length = p.mod.length
  cl : p.cor.length = p.mod.length
  gr : ∀ g ∈ p.gau, g.length = p.n
  cr : ∀ c ∈ p.cor, c.length = p.n
  gz : Sm.Within z p.gau
  cz : Sm.Within (2 ^ 8000000) p.cor
  sn : Sn p.st
  sw : p.st.w = p.n
  fin : ∃ R k, Sm.Fin R k p.st ∧ k ≤ 17
  ent : ∀ q ∈ p.st.gens, Sm.Lim (2 ^ 10000) q.2
  z0 : 2 ^ 20000000 ≤ z
theorem leftOf_le {w k : Int} {z : Nat} (hw : w.natAbs ≤ z) (hk : k.natAbs ≤ z) : (leftOf w k).natAbs ≤ z := by
  unfold leftOf
  split
  · exact hw
  · rename_i h
    have := Sm.fmod_abs (a := w) h
    omega
theorem plw {z n : Nat} {rows : List Sm.Row} {r : Sm.Row × List Sm.Row} (ok : Sm.PlOk z n rows r) : PlW z (plan n rows r) := by
  obtain ⟨F, w1, m1⟩ := Sm.stairs_ok ok.len
  obtain ⟨cl, cr⟩ := Sm.corners_len ok.ok.gl ok.ok.gr ok.ok.sur
  have n6 := ok.n6
  have m17 := ok.m17
  have kl : (keptOf n r.1).length ≤ n := by
    have := List.length_filter_le (fun a => Sm.gf r.1 a != 1) (List.range n)
    rw [List.length_range] at this
    exact this
  have kin : ∀ a ∈ keptOf n r.1, a < n := fun a ha => List.mem_range.mp (List.mem_filter.mp ha).1
  have scnt := F.cnt
  unfold Sm.Sts.gens at scnt
  rw [List.length_append] at scnt
  have at_ : ∀ {W : List Sm.Row} {a : Nat}, a < W.length → W.getD a [] ∈ W := fun {W a} h => by
    rw [List.getD_eq_getElem?_getD, List.getElem?_eq_getElem h]
    exact List.getElem_mem h
  refine ⟨n6, by show ((keptOf n r.1).map _).length ≤ 6; rw [List.length_map]; omega, by show ((keptOf n r.1).map _).length = ((keptOf n r.1).map _).length; rw [List.length_map, List.length_map], by show ((keptOf n r.1).map _).length = ((keptOf n r.1).map _).length; rw [List.length_map, List.length_map], fun g hg => ?_, fun c hc => ?_, fun g hg j => ?_, fun c hc j => ?_, (show Sn (Sm.stairs n rows) from sn_of F.g (by omega) (by omega) (by omega) (by omega)), w1, ⟨_, _, F, m17⟩, ok.ent, ok.z0⟩
  · obtain ⟨a, ha, rfl⟩ := List.mem_map.mp hg
    rw [List.length_map]
    exact ok.ok.gr _ (at_ (by rw [ok.ok.gl]; exact kin a ha))
  · obtain ⟨a, ha, rfl⟩ := List.mem_map.mp hc
    have := F.rest_len (row := (Sm.corners n r.2).getD a []) (by rw [w1]; exact cr _ (at_ (by rw [cl]; exact kin a ha)))
    rw [w1] at this
    exact this
  · obtain ⟨a, ha, rfl⟩ := List.mem_map.mp hg
    have hl : (r.2.getD a []).length = n := ok.ok.gr _ (at_ (by rw [ok.ok.gl]; exact kin a ha))
    by_cases hj : j < n
    · have e : Sm.gf ((r.2.getD a []).map fun w => leftOf w (Sm.gf r.1 a)) j = leftOf (Sm.gf (r.2.getD a []) j) (Sm.gf r.1 a) := by
        unfold Sm.gf
        rw [List.getD_eq_getElem?_getD, List.getElem?_map, List.getElem?_eq_getElem (by omega), List.getD_eq_getElem?_getD (l := r.2.getD a []), List.getElem?_eq_getElem (by omega)]
        rfl
      rw [e]
      exact leftOf_le (lim_at ok.wei) (ok.kin a)
    · rw [Sm.gf_out (by rw [List.length_map]; omega)]
      exact Nat.zero_le _
  · obtain ⟨a, ha, rfl⟩ := List.mem_map.mp hc
    exact (ok.cob _ (at_ (by rw [cl]; exact kin a ha))).2 j
section
variable {P : Program} {w : World} {K : PySem.W.Frag} {mg : Str → Option Value} {base : Heap} {f : Addr} {fd : FuncData}
theorem lkP0 {x pm pg pc : Addr} {n : Nat} : List.lookup (α := Str) "stairs" (fsP x pm pg pc n) = some (.ref x) := lk0 rfl
theorem lkP1 {x pm pg pc : Addr} {n : Nat} : List.lookup (α := Str) "moduli" (fsP x pm pg pc n) = some (.ref pm) := by
  rw [lk1 (by decide +kernel)]; exact lk0 rfl
theorem lkP2 {x pm pg pc : Addr} {n : Nat} : List.lookup (α := Str) "gauges" (fsP x pm pg pc n) = some (.ref pg) := by
  rw [lk1 (by decide +kernel), lk1 (by decide +kernel)]; exact lk0 rfl
theorem lkP3 {x pm pg pc : Addr} {n : Nat} : List.lookup (α := Str) "_corners" (fsP x pm pg pc n) = some (.ref pc) := by
  rw [lk1 (by decide +kernel), lk1 (by decide +kernel), lk1 (by decide +kernel)]; exact lk0 rfl
theorem lkP4 {x pm pg pc : Addr} {n : Nat} : List.lookup (α := Str) "_letters" (fsP x pm pg pc n) = some (.int (n : Int)) := by
  rw [lk1 (by decide +kernel), lk1 (by decide +kernel), lk1 (by decide +kernel), lk1 (by decide +kernel)]; exact lk0 rfl
theorem lkPN {x pm pg pc : Addr} {n : Nat} {m : Str} (h1 : (m == ("stairs" : Str)) = false) (h2 : (m == ("moduli" : Str)) = false) (h3 : (m == ("gauges" : Str)) = false) (h4 : (m == ("_corners" : Str)) = false) (h5 : (m == ("_letters" : Str)) = false) : List.lookup m (fsP x pm pg pc n) = none := by
  rw [lk1 h1, lk1 h2, lk1 h3, lk1 h4, lk1 h5]; rfl
theorem lkPspot {x pm pg pc : Addr} {n : Nat} : List.lookup (α := Str) "spot" (fsP x pm pg pc n) = none := lkPN (by decide +kernel) (by decide +kernel) (by decide +kernel) (by decide +kernel) (by decide +kernel)
def Big7 (one : Sm.Row) : Prop := ∀ x ∈ one, x.natAbs < 2 ^ 70000000
theorem mul7 {z : Nat} (hz : zL z) {x y : Int} (hx : x.natAbs < 2 ^ 70000000) (hy : y.natAbs ≤ z) : IntMulOk x y :=
  mulOk_of hx (Nat.lt_of_le_of_lt hy hz) (by decide) (by decide) (by decide)
def spSpot (CP CS : Addr) : Sp := fun vs H Q _ => ∃ (p q : Addr) (pl : Pln) (one : Sm.Row) (z : Nat), vs = [.ref p, .ref q] ∧ PlA H CP CS p pl ∧ PlW z pl ∧ zL z ∧ H q = some (.lst (one.map V.int)) ∧ one.length = pl.n ∧ Big7 one ∧ RetL ((pl.spot one).map V.int) H Q
theorem ok_spot {CP CS : Addr} (F : FnP K "spot" "Plan.spot" s_Plan_spot f fd) (B : Bi mg) (cp : Pc K CP) (D_left_of : Df P w K mg base CX0 1 "left_of" ["number", "kind"] spLeft) (D_weighed : Df P w K mg base CX0 33 "weighed" ["row", "weights"] (spWeigh K)) :
    FnOk P w K mg base CX0 34 f fd ["self", "one"] (spSpot CP CS) := by
  refine F.ok sc_Plan_spot (fun vs H Q E h => ?_) (fun cdv A outer s H vs Q E hr h => ⟨_, PSs.nox
   (pss_one (ps_ret (pe_lc (own := [("weights", 2), ("kind", 3)]) (g := gTup K 2 (gCons (gName 2) (gCons (gName 3) gNil))) (tt := tYes) rfl sc_Plan_spot.nd (pi_zip rfl B.zip_ (pa_cons (pe_fld (pv 0) rfl) (pa_cons (pe_fld (pv 0) rfl) pa_nil))) (blkOk_by (N := n_Plan_spot) (sc := defScope s_Plan_spot) (by decide +kernel)) (fun _ _ _ _ _ => (pg_tup rfl (pgs_cons (pg_name (i := 2) sc_Plan_spot.nd rfl (Or.inl rfl)) (pgs_cons (pg_name (i := 3) sc_Plan_spot.nd rfl (Or.inl rfl)) pgs_nil)))) (fun _ _ _ _ _ => pts_nil) (fun _ _ _ _ _ => (pe_df D_left_of (hr.mono (by decide)) (pa_cons (pe_df D_weighed (hr.mono (by decide)) (pa_cons (pv 1) (pa_cons (pv 2) pa_nil))) (pa_cons (pv 3) pa_nil))))))), ?_⟩)
  · obtain ⟨p, q, pl, one, z, rfl, _⟩ := h
    rfl
  · obtain ⟨p, q, pl, one, z, rfl, hP, W, hz, hq, hl, hb, k⟩ := h
    simp only [cxK]
    obtain ⟨dx, x, d, l, pm, pg, pc, h1, h2, h3, ⟨gs, h4, h4r⟩, h5⟩ := hP.ex
    have gl := W.gl
    have gsl := h4r.len
    have m6 := W.m6
    have n6 := W.n6
    refine lcZ (a := pg) (b := pm) (fun i => V.int (leftOf (List.zipWith (fun a b => a * b) one (pl.gau.getD i [])).sum (pl.mod.getD i 0))) (fun H1 e1 Q1 q1 => ⟨_, rfl, p, CP, dx, _, _, rfl, e1 _ _ h1, cp.cl, cp.nG, lkP2, _, rfl, p, CP, dx, _, _, rfl, e1 _ _ h1, cp.cl, cp.nM, lkP1, q1 H1 (Ex.refl H1)⟩) (Evl.sq_of h4) (Evl.sq_of h3) (by rw [List.length_map]; omega) (by rw [List.length_map, List.length_map]; omega) (fun x y => rfl) (fun i x y H1 e1 hx hy => ?_) H (Ex.refl H) _ ?_
    · rw [List.getElem?_map] at hx hy
      cases hx2 : gs[i]? with
      | none => rw [hx2] at hx; cases hx
      | some g =>
        cases hy2 : pl.mod[i]? with
        | none => rw [hy2] at hy; cases hy
        | some kd =>
          rw [hx2] at hx
          rw [hy2] at hy
          cases hx
          cases hy
          obtain ⟨ms, m1, m2⟩ := h4r.get hx2
          have mm := List.mem_of_getElem? m1
          have ml := W.gr ms mm
          intro H2 e2 Q1 q1
          have e12 := e1.trans e2
          refine ⟨_, rfl, _, rfl, q, g, one, ms, rfl, Evl.sq_of (e12 _ _ hq), Evl.sq_of (e12 _ _ m2), by omega, by omega, fun x hx y hy => mul7 hz (hb x hx) (lim_mem (fun j => W.gz ms mm j) y hy), fun H3 e3 => ?_⟩
          refine ⟨_, rfl, _, kd, rfl, q1 _ H3 e3 ?_⟩
          rw [List.getD_eq_getElem?_getD, m1, List.getD_eq_getElem?_getD, hy2]
          rfl
    · have e : (List.range (gs.map V.ref).length).map (fun i => V.int (leftOf (List.zipWith (fun a b => a * b) one (pl.gau.getD i [])).sum (pl.mod.getD i 0))) = (pl.spot one).map V.int := by
        unfold Pln.spot
        apply List.ext_getElem?
        intro i
        rw [List.length_map, gsl, List.getElem?_map, List.getElem?_map, List.getElem?_zipWith]
        by_cases hi : i < pl.gau.length
        · rw [List.getElem?_range hi, List.getElem?_eq_getElem hi, List.getElem?_eq_getElem (show i < pl.mod.length by omega)]
          simp [List.getD_eq_getElem?_getD, List.getElem?_eq_getElem hi, List.getElem?_eq_getElem (show i < pl.mod.length by omega)]
        · rw [List.getElem?_eq_none (by simpa using hi), List.getElem?_eq_none (show pl.gau.length ≤ i by omega)]
          rfl
      intro p2 H2 hp2 e2 h2
      rw [e] at h2
      exact k p2 H2 hp2 e2 h2
end
end Sr
/-! # R1 -/
namespace Sr
open PySem PySem.Spec PyProof.Rows L2
open Evl (Ex Ev EvL EvU EvT EvA RetL RetV)
abbrev s_is_whole : Stmt := topS 28
abbrev n_is_whole : List Str := ["thing"]
theorem sc_is_whole : FnScope n_is_whole ["thing"] (defScope s_is_whole) := ⟨rfl, rfl, rfl, by decide +kernel, rfl, by decide +kernel, by decide +kernel⟩
abbrev s_is_row : Stmt := topS 29
abbrev n_is_row : List Str := ["thing", "many", "number"]
theorem sc_is_row : FnScope n_is_row ["thing", "many"] (defScope s_is_row) := ⟨rfl, rfl, rfl, by decide +kernel, rfl, by decide +kernel, by decide +kernel⟩
abbrev s_is_near_row : Stmt := topS 30
abbrev n_is_near_row : List Str := ["thing", "many", "number"]
theorem sc_is_near_row : FnScope n_is_near_row ["thing", "many"] (defScope s_is_near_row) := ⟨rfl, rfl, rfl, by decide +kernel, rfl, by decide +kernel, by decide +kernel⟩
abbrev s_are_near_rows : Stmt := topS 31
abbrev n_are_near_rows : List Str := ["thing", "many", "row"]
theorem sc_are_near_rows : FnScope n_are_near_rows ["thing", "many"] (defScope s_are_near_rows) := ⟨rfl, rfl, rfl, by decide +kernel, rfl, by decide +kernel, by decide +kernel⟩
abbrev s_difference : Stmt := topS 32
abbrev n_difference : List Str := ["one", "other", "first", "second"]
theorem sc_difference : FnScope n_difference ["one", "other"] (defScope s_difference) := ⟨rfl, rfl, rfl, by decide +kernel, rfl, by decide +kernel, by decide +kernel⟩
abbrev s_Room_init : Stmt := inClass (topS 33) 0
abbrev n_Room_init : List Str := ["self", "letters", "nothings", "rows", "row"]
theorem sc_Room_init : FnScope n_Room_init ["self", "letters", "nothings"] (defScope s_Room_init) := ⟨rfl, rfl, rfl, by decide +kernel, rfl, by decide +kernel, by decide +kernel⟩
abbrev s_Room_letters : Stmt := inClass (topS 33) 1
abbrev n_Room_letters : List Str := ["self"]
theorem sc_Room_letters : FnScope n_Room_letters ["self"] (defScope s_Room_letters) := ⟨rfl, rfl, rfl, by decide +kernel, rfl, by decide +kernel, by decide +kernel⟩
abbrev s_Room_nothings : Stmt := inClass (topS 33) 2
abbrev n_Room_nothings : List Str := ["self", "row"]
theorem sc_Room_nothings : FnScope n_Room_nothings ["self"] (defScope s_Room_nothings) := ⟨rfl, rfl, rfl, by decide +kernel, rfl, by decide +kernel, by decide +kernel⟩
abbrev s_Room_check : Stmt := inClass (topS 33) 13
abbrev n_Room_check : List Str := ["self", "one"]
theorem sc_Room_check : FnScope n_Room_check ["self", "one"] (defScope s_Room_check) := ⟨rfl, rfl, rfl, by decide +kernel, rfl, by decide +kernel, by decide +kernel⟩
abbrev s_Room_less : Stmt := inClass (topS 33) 14
abbrev n_Room_less : List Str := ["self", "one", "other"]
theorem sc_Room_less : FnScope n_Room_less ["self", "one", "other"] (defScope s_Room_less) := ⟨rfl, rfl, rfl, by decide +kernel, rfl, by decide +kernel, by decide +kernel⟩
abbrev s_Room_planned : Stmt := inClass (topS 33) 15
abbrev n_Room_planned : List Str := ["self"]
theorem sc_Room_planned : FnScope n_Room_planned ["self"] (defScope s_Room_planned) := ⟨rfl, rfl, rfl, by decide +kernel, rfl, by decide +kernel, by decide +kernel⟩
abbrev s_Room_kinds : Stmt := inClass (topS 33) 5
abbrev n_Room_kinds : List Str := ["self"]
theorem sc_Room_kinds : FnScope n_Room_kinds ["self"] (defScope s_Room_kinds) := ⟨rfl, rfl, rfl, by decide +kernel, rfl, by decide +kernel, by decide +kernel⟩
abbrev s_Room_spot : Stmt := inClass (topS 33) 7
abbrev n_Room_spot : List Str := ["self", "one"]
theorem sc_Room_spot : FnScope n_Room_spot ["self", "one"] (defScope s_Room_spot) := ⟨rfl, rfl, rfl, by decide +kernel, rfl, by decide +kernel, by decide +kernel⟩
abbrev s_Room_put : Stmt := inClass (topS 33) 3
abbrev n_Room_put : List Str := ["self", "one"]
theorem sc_Room_put : FnScope n_Room_put ["self", "one"] (defScope s_Room_put) := ⟨rfl, rfl, rfl, by decide +kernel, rfl, by decide +kernel, by decide +kernel⟩
section
variable {P : Program} {w : World} {K : PySem.W.Frag} {mg : Str → Option Value} {base : Heap} {f : Addr} {fd : FuncData}
def spIsWhole : Sp := fun vs H Q _ => ∃ v, vs = [v] ∧ D0 H v ∧ Q (.bl (isInt v)) H
theorem ok_is_whole (F : FnP K "is_whole" "is_whole" s_is_whole f fd) (B : Bi mg) : FnOk P w K mg base CX0 1 f fd ["thing"] spIsWhole := by
  refine F.ok sc_is_whole (fun vs H Q E h => ?_) (fun cdv A outer s H vs Q E hr h => ⟨_, PSs.nox
   (pss_one (ps_ret (pe_cmpR op_isTy (pe_callTy call_tyK rfl B.type_ boot_type (pa_cons (pv 0) pa_nil)) (pe_bltn (v := .ty "int") rfl B.int_ boot_int rfl) (nomark _)))), ?_⟩)
  · obtain ⟨v, rfl, _⟩ := h
    rfl
  · obtain ⟨v, rfl, ⟨T, k⟩, q⟩ := h
    simp [tSeq, tAsg, tRet, tOp, tUn, tVar, tC, rI, rI0, rU, gName, L2.start, CMul, CDiv, CPow, tIfS, tTest, rEq, rNe, scal, tNext, tCall, tCons, tNil, tCB, tIf, tAnd, L2.tOr, tNot, tB, tAndV, tOrV, tNotV, tChain, tLst, tDrop, rIxH, upd_same, cxK]
    refine ⟨v, T, rfl, k, ?_⟩
    simp [tSeq, tAsg, tRet, tOp, tUn, tVar, tC, rI, rI0, rU, gName, L2.start, CMul, CDiv, CPow, tIfS, tTest, rEq, rNe, scal, tNext, tCall, tCons, tNil, tCB, tIf, tAnd, L2.tOr, tNot, tB, tAndV, tOrV, tNotV, tChain, tLst, tDrop, rIxH, upd_same, cxK]
    rw [k.isInt_eq]
    exact q
def spIsRow : Sp := fun vs H Q _ => ∃ v n, vs = [v, .int n] ∧ D1 H v ∧ ∀ H', Ex H H' → Q (.bl (intRow H n v)) H'
theorem ok_is_row (F : FnP K "is_row" "is_row" s_is_row f fd) (B : Bi mg) (D_is_whole : Df P w K mg base CX0 1 "is_whole" ["thing"] spIsWhole) : FnOk P w K mg base CX0 2 f fd ["thing", "many"] spIsRow := by
  refine F.ok sc_is_row (fun vs H Q E h => ?_) (fun cdv A outer s H vs Q E hr h => ⟨_, PSs.nox
   (pss_one (ps_ret (pe_and (pe_cmpR op_isTy (pe_callTy call_tyK rfl B.type_ boot_type (pa_cons (pv 0) pa_nil)) (pe_bltn (v := .ty "list") rfl B.list_ boot_list rfl) (nomark _)) (pe_and (pe_cmpR op_eq (pe_callB call_len_seq rfl B.len_ boot_len (pa_cons (pv 0) pa_nil)) (pv 1) (nomark _)) (pe_one (pe_callB (cr_all rfl) rfl B.all_ boot_all (pa_cons (pe_lc (own := [("number", 2)]) (g := gName 2) (tt := tYes) rfl sc_is_row.nd (pi_list (pv 0)) (blkOk_by (N := n_is_row) (sc := defScope s_is_row) (by decide +kernel)) (fun _ _ _ _ _ => (pg_name (i := 2) sc_is_row.nd rfl (Or.inl rfl))) (fun _ _ _ _ _ => pts_nil) (fun _ _ _ _ _ => (pe_df D_is_whole (hr.mono (by decide)) (pa_cons (pv 2) pa_nil)))) pa_nil))))))), ?_⟩)
  · obtain ⟨v, n, rfl, _⟩ := h
    rfl
  · obtain ⟨v, n, rfl, ⟨⟨T, k⟩, hxs⟩, q⟩ := h
    simp [tSeq, tAsg, tRet, tOp, tUn, tVar, tC, rI, rI0, rU, gName, L2.start, CMul, CDiv, CPow, tIfS, tTest, rEq, rNe, scal, tNext, tCall, tCons, tNil, tCB, tIf, tAnd, L2.tOr, tNot, tB, tAndV, tOrV, tNotV, tChain, tLst, tDrop, rIxH, upd_same, cxK]
    refine ⟨v, T, rfl, k, T, rfl, ?_⟩
    have kl := k.isList
    cases hl : lstOf H v with
    | none =>
      rw [hl] at kl
      rw [if_neg (of_decide_eq_false kl)]
      have e : intRow H n v = false := by simp [tSeq, tAsg, tRet, tOp, tUn, tVar, tC, rI, rI0, rU, gName, L2.start, CMul, CDiv, CPow, tIfS, tTest, rEq, rNe, scal, tNext, tCall, tCons, tNil, tCB, tIf, tAnd, L2.tOr, tNot, tB, tAndV, tOrV, tNotV, tChain, tLst, tDrop, rIxH, upd_same, cxK, intRow, hl]
      exact e ▸ q H (Ex.refl H)
    | some xs =>
      rw [hl] at kl
      rw [if_pos (of_decide_eq_true kl)]
      obtain ⟨a, rfl, ha⟩ := lstOf_some hl
      refine ⟨a, rfl, xs, .inl (Evl.sq_of ha), ?_⟩
      split
      · rename_i hn
        refine all_lc isInt (fun H1 e Q q => ⟨_, rfl, q H1 (Ex.refl H1)⟩) (Evl.sq_of ha) (by have := (hxs xs hl).1; omega) (fun x => rfl) (fun i x H1 e hi H2 e2 Q q => ?_) (fun H2 e2 => ?_)
        · simp [tSeq, tAsg, tRet, tOp, tUn, tVar, tC, rI, rI0, rU, gName, L2.start, CMul, CDiv, CPow, tIfS, tTest, rEq, rNe, scal, tNext, tCall, tCons, tNil, tCB, tIf, tAnd, L2.tOr, tNot, tB, tAndV, tOrV, tNotV, tChain, tLst, tDrop, rIxH, upd_same, cxK, wipe]
          exact ⟨x, rfl, ((hxs xs hl).2 x (List.mem_of_getElem? hi)).ex (e.trans e2), q _ H2 (Ex.refl H2) rfl⟩
        · have e : intRow H n (.ref a) = xs.all isInt := by simp [tSeq, tAsg, tRet, tOp, tUn, tVar, tC, rI, rI0, rU, gName, L2.start, CMul, CDiv, CPow, tIfS, tTest, rEq, rNe, scal, tNext, tCall, tCons, tNil, tCB, tIf, tAnd, L2.tOr, tNot, tB, tAndV, tOrV, tNotV, tChain, tLst, tDrop, rIxH, upd_same, cxK, intRow, hl, hn]
          exact e ▸ q H2 e2
      · rename_i hn
        have e : intRow H n (.ref a) = false := by simp [tSeq, tAsg, tRet, tOp, tUn, tVar, tC, rI, rI0, rU, gName, L2.start, CMul, CDiv, CPow, tIfS, tTest, rEq, rNe, scal, tNext, tCall, tCons, tNil, tCB, tIf, tAnd, L2.tOr, tNot, tB, tAndV, tOrV, tNotV, tChain, tLst, tDrop, rIxH, upd_same, cxK, intRow, hl, hn]
        exact e ▸ q H (Ex.refl H)
def spNearRow : Sp := fun vs H Q _ => ∃ v n, vs = [v, .int n] ∧ D1 H v ∧ ∀ H', Ex H H' → Q (.bl (nearRow H n v)) H'
theorem ok_is_near_row (F : FnP K "is_near_row" "is_near_row" s_is_near_row f fd) (B : Bi mg) (T_FURTHEST : Ci mg "FURTHEST" 1000000000000) (D_is_row : Df P w K mg base CX0 2 "is_row" ["thing", "many"] spIsRow) : FnOk P w K mg base CX0 3 f fd ["thing", "many"] spNearRow := by
  refine F.ok sc_is_near_row (fun vs H Q E h => ?_) (fun cdv A outer s H vs Q E hr h => ⟨_, PSs.nox
   (pss_one (ps_ret (pe_and (pe_df D_is_row (hr.mono (by decide)) (pa_cons (pv 0) (pa_cons (pv 1) pa_nil))) (pe_one (pe_callB (cr_all rfl) rfl B.all_ boot_all (pa_cons (pe_lc (own := [("number", 2)]) (g := gName 2) (tt := tYes) rfl sc_is_near_row.nd (pi_list (pv 0)) (blkOk_by (N := n_is_near_row) (sc := defScope s_is_near_row) (by decide +kernel)) (fun _ _ _ _ _ => (pg_name (i := 2) sc_is_near_row.nd rfl (Or.inl rfl))) (fun _ _ _ _ _ => pts_nil) (fun _ _ _ _ _ => (pe_chain op_le op_le (pe_un un_neg (pe_ci rfl T_FURTHEST)) (pv 2) (pe_ci rfl T_FURTHEST)))) pa_nil)))))), ?_⟩)
  · obtain ⟨v, n, rfl, _⟩ := h
    rfl
  · obtain ⟨v, n, rfl, hv, q⟩ := h
    simp [tSeq, tAsg, tRet, tOp, tUn, tVar, tC, rI, rI0, rU, gName, L2.start, CMul, CDiv, CPow, tIfS, tTest, rEq, rNe, scal, tNext, tCall, tCons, tNil, tCB, tIf, tAnd, L2.tOr, tNot, tB, tAndV, tOrV, tNotV, tChain, tLst, tDrop, rIxH, upd_same, cxK]
    refine ⟨v, n, rfl, hv, fun H1 e1 => ?_⟩
    cases hi : intRow H n v with
    | false =>
      refine .inl ⟨rfl, ?_⟩
      have e : nearRow H n v = false := by
        unfold intRow at hi
        unfold nearRow
        split
        · rename_i xs hl
          rw [hl] at hi
          have hi2 : (decide ((xs.length : Int) = n) && xs.all isInt) = false := hi
          rw [hi2]
          rfl
        · rfl
      exact e ▸ q H1 e1
    | true =>
      refine .inr ⟨rfl, ?_⟩
      cases hl : lstOf H v with
      | none => simp [tSeq, tAsg, tRet, tOp, tUn, tVar, tC, rI, rI0, rU, gName, L2.start, CMul, CDiv, CPow, tIfS, tTest, rEq, rNe, scal, tNext, tCall, tCons, tNil, tCB, tIf, tAnd, L2.tOr, tNot, tB, tAndV, tOrV, tNotV, tChain, tLst, tDrop, rIxH, upd_same, cxK, intRow, hl] at hi
      | some xs =>
        have hx := (hv.2 xs hl).1
        have hall : ∀ x ∈ xs, isInt x = true := by
          simp [tSeq, tAsg, tRet, tOp, tUn, tVar, tC, rI, rI0, rU, gName, L2.start, CMul, CDiv, CPow, tIfS, tTest, rEq, rNe, scal, tNext, tCall, tCons, tNil, tCB, tIf, tAnd, L2.tOr, tNot, tB, tAndV, tOrV, tNotV, tChain, tLst, tDrop, rIxH, upd_same, cxK, intRow, hl] at hi
          exact hi.2
        have e : nearRow H n v = xs.all nearI := by
          simp only [intRow, hl] at hi
          simp [tSeq, tAsg, tRet, tOp, tUn, tVar, tC, rI, rI0, rU, gName, L2.start, CMul, CDiv, CPow, tIfS, tTest, rEq, rNe, scal, tNext, tCall, tCons, tNil, tCB, tIf, tAnd, L2.tOr, tNot, tB, tAndV, tOrV, tNotV, tChain, tLst, tDrop, rIxH, upd_same, cxK, nearRow, hl, hi]
        obtain ⟨a, rfl, ha⟩ := lstOf_some hl
        refine all_lc nearI (fun H1 e Q q => ⟨_, rfl, q H1 (Ex.refl H1)⟩) (Evl.sq_of (e1 _ _ ha)) (by omega) (fun x => rfl) (fun i x H2 e2 hi H3 e3 Q q => ?_) (fun H2 e2 => e ▸ q H2 (e1.trans e2))
        have hint := hall x (List.mem_of_getElem? hi)
        cases x with
        | int z =>
          simp [tSeq, tAsg, tRet, tOp, tUn, tVar, tC, rI, rI0, rU, gName, L2.start, CMul, CDiv, CPow, tIfS, tTest, rEq, rNe, scal, tNext, tCall, tCons, tNil, tCB, tIf, tAnd, L2.tOr, tNot, tB, tAndV, tOrV, tNotV, tChain, tLst, tDrop, rIxH, upd_same, cxK, wipe]
          split
          · rename_i hz
            exact q _ H3 (Ex.refl H3) (by simp [tSeq, tAsg, tRet, tOp, tUn, tVar, tC, rI, rI0, rU, gName, L2.start, CMul, CDiv, CPow, tIfS, tTest, rEq, rNe, scal, tNext, tCall, tCons, tNil, tCB, tIf, tAnd, L2.tOr, tNot, tB, tAndV, tOrV, tNotV, tChain, tLst, tDrop, rIxH, upd_same, cxK, nearI, hz])
          · rename_i hz
            exact q _ H3 (Ex.refl H3) (by simp [tSeq, tAsg, tRet, tOp, tUn, tVar, tC, rI, rI0, rU, gName, L2.start, CMul, CDiv, CPow, tIfS, tTest, rEq, rNe, scal, tNext, tCall, tCons, tNil, tCB, tIf, tAnd, L2.tOr, tNot, tB, tAndV, tOrV, tNotV, tChain, tLst, tDrop, rIxH, upd_same, cxK, nearI, hz])
        | _ => cases hint
def spNearRows : Sp := fun vs H Q _ => ∃ v n, vs = [v, .int n] ∧ D2 H v ∧ ∀ H', Ex H H' → Q (.bl (tblOk H n v)) H'
theorem all_congr {α : Type} {g g' : α → Bool} : ∀ {xs : List α}, (∀ x ∈ xs, g x = g' x) → xs.all g = xs.all g'
  | [], _ => rfl
  | x :: xs, h => by rw [List.all_cons, List.all_cons, h x (by simp [tSeq, tAsg, tRet, tOp, tUn, tVar, tC, rI, rI0, rU, gName, L2.start, CMul, CDiv, CPow, tIfS, tTest, rEq, rNe, scal, tNext, tCall, tCons, tNil, tCB, tIf, tAnd, L2.tOr, tNot, tB, tAndV, tOrV, tNotV, tChain, tLst, tDrop, rIxH, upd_same, cxK]), all_congr fun y hy => h y (by simp [tSeq, tAsg, tRet, tOp, tUn, tVar, tC, rI, rI0, rU, gName, L2.start, CMul, CDiv, CPow, tIfS, tTest, rEq, rNe, scal, tNext, tCall, tCons, tNil, tCB, tIf, tAnd, L2.tOr, tNot, tB, tAndV, tOrV, tNotV, tChain, tLst, tDrop, rIxH, upd_same, cxK, hy])]
theorem ok_are_near_rows (F : FnP K "are_near_rows" "are_near_rows" s_are_near_rows f fd) (B : Bi mg) (D_is_near_row : Df P w K mg base CX0 3 "is_near_row" ["thing", "many"] spNearRow) : FnOk P w K mg base CX0 4 f fd ["thing", "many"] spNearRows := by
  refine F.ok sc_are_near_rows (fun vs H Q E h => ?_) (fun cdv A outer s H vs Q E hr h => ⟨_, PSs.nox
   (pss_one (ps_ret (pe_and (pe_cmpR op_isTy (pe_callTy call_tyK rfl B.type_ boot_type (pa_cons (pv 0) pa_nil)) (pe_bltn (v := .ty "list") rfl B.list_ boot_list rfl) (nomark _)) (pe_one (pe_callB (cr_all rfl) rfl B.all_ boot_all (pa_cons (pe_lc (own := [("row", 2)]) (g := gName 2) (tt := tYes) rfl sc_are_near_rows.nd (pi_list (pv 0)) (blkOk_by (N := n_are_near_rows) (sc := defScope s_are_near_rows) (by decide +kernel)) (fun _ _ _ _ _ => (pg_name (i := 2) sc_are_near_rows.nd rfl (Or.inl rfl))) (fun _ _ _ _ _ => pts_nil) (fun _ _ _ _ _ => (pe_df D_is_near_row (hr.mono (by decide)) (pa_cons (pv 2) (pa_cons (pv 1) pa_nil))))) pa_nil)))))), ?_⟩)
  · obtain ⟨v, n, rfl, _⟩ := h
    rfl
  · obtain ⟨v, n, rfl, hv, q⟩ := h
    obtain ⟨T, k⟩ := hv.1
    simp [tSeq, tAsg, tRet, tOp, tUn, tVar, tC, rI, rI0, rU, gName, L2.start, CMul, CDiv, CPow, tIfS, tTest, rEq, rNe, scal, tNext, tCall, tCons, tNil, tCB, tIf, tAnd, L2.tOr, tNot, tB, tAndV, tOrV, tNotV, tChain, tLst, tDrop, rIxH, upd_same, cxK]
    refine ⟨v, T, rfl, k, T, rfl, ?_⟩
    have kl := k.isList
    cases hl : lstOf H v with
    | none =>
      rw [hl] at kl
      rw [if_neg (of_decide_eq_false kl)]
      have e : tblOk H n v = false := by simp [tSeq, tAsg, tRet, tOp, tUn, tVar, tC, rI, rI0, rU, gName, L2.start, CMul, CDiv, CPow, tIfS, tTest, rEq, rNe, scal, tNext, tCall, tCons, tNil, tCB, tIf, tAnd, L2.tOr, tNot, tB, tAndV, tOrV, tNotV, tChain, tLst, tDrop, rIxH, upd_same, cxK, tblOk, hl]
      exact e ▸ q H (Ex.refl H)
    | some xs =>
      rw [hl] at kl
      rw [if_pos (of_decide_eq_true kl)]
      have hx := (hv.2 xs hl).1
      have e : tblOk H n v = xs.all (nearRow H n) := by simp [tSeq, tAsg, tRet, tOp, tUn, tVar, tC, rI, rI0, rU, gName, L2.start, CMul, CDiv, CPow, tIfS, tTest, rEq, rNe, scal, tNext, tCall, tCons, tNil, tCB, tIf, tAnd, L2.tOr, tNot, tB, tAndV, tOrV, tNotV, tChain, tLst, tDrop, rIxH, upd_same, cxK, tblOk, hl]
      obtain ⟨a, rfl, ha⟩ := lstOf_some hl
      refine all_lc (nearRow H n) (fun H1 e Q q => ⟨_, rfl, q H1 (Ex.refl H1)⟩) (Evl.sq_of ha) (by omega) (fun x => rfl) (fun i x H2 e2 hi H3 e3 Q q => ?_) (fun H2 e2 => e ▸ q H2 e2)
      have hd := (hv.2 xs hl).2 x (List.mem_of_getElem? hi)
      simp [tSeq, tAsg, tRet, tOp, tUn, tVar, tC, rI, rI0, rU, gName, L2.start, CMul, CDiv, CPow, tIfS, tTest, rEq, rNe, scal, tNext, tCall, tCons, tNil, tCB, tIf, tAnd, L2.tOr, tNot, tB, tAndV, tOrV, tNotV, tChain, tLst, tDrop, rIxH, upd_same, cxK, wipe]
      refine ⟨x, n, rfl, hd.ex (e2.trans e3), fun H4 e4 => ?_⟩
      exact q _ H4 e4 (by rw [nearRow_ex hd.1 (e2.trans e3)])
def spDiff (K : PySem.W.Frag) : Sp := fun vs H Q _ => ∃ (p q : Addr) (r s : List Int), vs = [.ref p, .ref q] ∧ SqL K H p (r.map V.int) ∧ SqL K H q (s.map V.int) ∧ r.length = s.length ∧ r.length ≤ 1000 ∧ RetL ((List.zipWith (fun a b => a - b) r s).map V.int) H Q
theorem diff_range (r s : List Int) (h : r.length = s.length) : (List.zipWith (fun a b => a - b) r s).map V.int = (List.range (r.map V.int).length).map fun i => V.int (r.getD i 0 - s.getD i 0) := by
  apply List.ext_getElem?
  intro i
  rw [List.getElem?_map, List.getElem?_zipWith, List.length_map]
  by_cases hi : i < r.length
  · have hi2 : i < s.length := by omega
    simp [hi, hi2, List.getD_eq_getElem?_getD]
  · have hi2 : ¬ i < s.length := by omega
    simp [List.getElem?_eq_none (Nat.le_of_not_lt hi), List.getElem?_eq_none (Nat.le_of_not_lt hi2), hi]
theorem ok_difference (F : FnP K "difference" "difference" s_difference f fd) (B : Bi mg) : FnOk P w K mg base CX0 1 f fd ["one", "other"] (spDiff K) := by
  refine F.ok sc_difference (fun vs H Q E h => ?_) (fun cdv A outer s H vs Q E hr h => ⟨_, PSs.nox
   (pss_one (ps_ret (pe_lc (own := [("first", 2), ("second", 3)]) (g := gTup K 2 (gCons (gName 2) (gCons (gName 3) gNil))) (tt := tYes) rfl sc_difference.nd (pi_zip rfl B.zip_ (pa_cons (pv 0) (pa_cons (pv 1) pa_nil))) (blkOk_by (N := n_difference) (sc := defScope s_difference) (by decide +kernel)) (fun _ _ _ _ _ => (pg_tup rfl (pgs_cons (pg_name (i := 2) sc_difference.nd rfl (Or.inl rfl)) (pgs_cons (pg_name (i := 3) sc_difference.nd rfl (Or.inl rfl)) pgs_nil)))) (fun _ _ _ _ _ => pts_nil) (fun _ _ _ _ _ => (pe_op op_sub (pv 2) (pv 3)))))), ?_⟩)
  · obtain ⟨p, q, r, s, rfl, _⟩ := h
    rfl
  · obtain ⟨p, q, r, s, rfl, hp, hq, hl, hl2, k⟩ := h
    simp only [cxK]
    refine lcZ (a := p) (b := q) (fun i => V.int (r.getD i 0 - s.getD i 0)) (fun H1 e1 Q1 q1 => ⟨_, rfl, _, rfl, q1 H1 (Ex.refl H1)⟩) hp hq (by rw [List.length_map]; omega) (by rw [List.length_map, List.length_map]; omega) (fun x y => rfl) (fun i x y H1 e1 hx hy => ?_) H (Ex.refl H) _ ?_
    · rw [List.getElem?_map] at hx hy
      cases hx2 : r[i]? with
      | none => rw [hx2] at hx; cases hx
      | some a =>
        cases hy2 : s[i]? with
        | none => rw [hy2] at hy; cases hy
        | some b =>
          rw [hx2] at hx
          rw [hy2] at hy
          cases hx
          cases hy
          intro H2 e2 Q1 q1
          refine ⟨_, rfl, _, rfl, a, b, rfl, rfl, q1 _ H2 (Ex.refl H2) ?_⟩
          rw [List.getD_eq_getElem?_getD, hx2, List.getD_eq_getElem?_getD, hy2]
          rfl
    · intro p2 H2 hp2 e2 h2
      rw [← diff_range r s hl] at h2
      exact k p2 H2 hp2 e2 h2
end
end Sr
/-! # R2 -/
namespace Sr
open PySem PySem.Spec PyProof.Rows L2
open Evl (Ex Ev EvL EvU EvT EvA RetL RetV)
section
variable {P : Program} {w : World} {K : PySem.W.Frag} {mg : Str → Option Value} {base : Heap} {f : Addr} {fd : FuncData}
theorem d1_ints {H : Hp} {q : Addr} {ns : List Int} (h : H q = some (.lst (ns.map V.int))) (hl : ns.length ≤ 1000) : D1 H (.ref q) := d1_list h (by rw [List.length_map]; exact hl) fun x hx => by
  obtain ⟨i, _, rfl⟩ := List.mem_map.mp hx
  exact ⟨_, .int i⟩
theorem intRow_true {H : Hp} {q : Addr} {ns : List Int} {n : Nat} (h : H q = some (.lst (ns.map V.int))) (hl : ns.length = n) : intRow H (n : Int) (.ref q) = true := by
  unfold intRow
  rw [lstOf_of h]
  have : (ns.map V.int).all isInt = true := List.all_eq_true.mpr fun x hx => by
    obtain ⟨i, _, rfl⟩ := List.mem_map.mp hx
    rfl
  show (decide (((ns.map V.int).length : Int) = (n : Int)) && (ns.map V.int).all isInt) = true
  rw [this, List.length_map, hl]
  simp
theorem nearRow_true {H : Hp} {q : Addr} {ns : List Int} {n : Nat} (h : H q = some (.lst (ns.map V.int))) (hl : ns.length = n) (hn : Near ns) : nearRow H (n : Int) (.ref q) = true := by
  have h0 := intRow_true h hl
  unfold intRow at h0
  unfold nearRow
  rw [lstOf_of h] at h0 ⊢
  have : (ns.map V.int).all nearI = true := List.all_eq_true.mpr fun x hx => by
    obtain ⟨i, hi, rfl⟩ := List.mem_map.mp hx
    have := hn i hi
    show (decide (-1000000000000 ≤ i) && decide (i ≤ 1000000000000)) = true
    simp [this]
  show ((decide (((ns.map V.int).length : Int) = (n : Int)) && (ns.map V.int).all isInt) && (ns.map V.int).all nearI) = true
  rw [this, Bool.and_true]
  exact h0
theorem rows_all {H : Hp} {n : Nat} : ∀ {rs : List Addr} {nss : List (List Int)}, RowsL H rs nss → (∀ ns ∈ nss, ns.length = n ∧ Near ns) → (rs.map V.ref).all (nearRow H (n : Int)) = true
  | [], [], _, _ => rfl
  | r :: rs, ns :: nss, h, k => by
    rw [List.map_cons, List.all_cons, nearRow_true h.1 (k ns (by simp)).1 (k ns (by simp)).2, rows_all h.2 fun m hm => k m (by simp [hm])]
    rfl
  | [], _ :: _, h, _ => h.elim
  | _ :: _, [], h, _ => h.elim
theorem tbl_true {H : Hp} {n : Nat} {a : Addr} {rs : List Addr} {nss : List (List Int)} (ha : H a = some (.lst (rs.map V.ref))) (h : RowsL H rs nss) (k : ∀ ns ∈ nss, ns.length = n ∧ Near ns) : tblOk H (n : Int) (.ref a) = true := by
  unfold tblOk
  rw [lstOf_of ha]
  exact rows_all h k
theorem d2_rows {H : Hp} {a : Addr} {rs : List Addr} {nss : List (List Int)} (ha : H a = some (.lst (rs.map V.ref))) (h : RowsL H rs nss) (hl : rs.length ≤ 1000) (k : ∀ ns ∈ nss, ns.length ≤ 1000) : D2 H (.ref a) := by
  refine ⟨⟨_, .lst ha⟩, fun xs hx => ?_⟩
  rw [lstOf_of ha] at hx
  cases hx
  refine ⟨by rw [List.length_map]; exact hl, fun x hx => ?_⟩
  obtain ⟨r, hr, rfl⟩ := List.mem_map.mp hx
  obtain ⟨i, hi⟩ := List.mem_iff_getElem?.mp hr
  obtain ⟨ns, g1, g2⟩ := h.get hi
  exact d1_ints g2 (k ns (List.mem_of_getElem? g1))
abbrev fsR (n : Nat) (ln : Addr) (pv : V) : List (Str × V) := [("_letters", .int (n : Int)), ("_nothings", .ref ln), ("_plan", pv)]
def spRInit (C : Addr) : Sp := fun vs H Q _ => ∃ (x dx a : Addr) (n : Nat) (rs : List Addr) (nss : List (List Int)), vs = [.ref x, .int (n : Int), .ref a] ∧ H x = some (.ins C dx []) ∧ n ≤ 6 ∧ H a = some (.lst (rs.map V.ref)) ∧ RowsL H rs nss ∧ (∀ ns ∈ nss, ns.length = n ∧ Near ns) ∧ nss.length ≤ 16 ∧
  ∀ H' ln qs, (∀ b o, b ≠ x → H b = some o → H' b = some o) → H ln = none → H' x = some (.ins C dx (fsR n ln .non)) → H' ln = some (.lst (qs.map V.ref)) → RowsL H' qs nss → (∀ q ∈ qs, H q = none ∧ q ≠ ln) → Q .non H'
theorem ok_rinit {C : Addr} (F : FunD K "__init__" "Room.__init__" (defArgs s_Room_init) (defBody s_Room_init) (defScope s_Room_init) [.non] [] f fd) (B : Bi mg) (R : Rc K C) (T_MOST_LETTERS : Ci mg "MOST_LETTERS" 6) (T_MOST_NOTHINGS : Ci mg "MOST_NOTHINGS" 16)
    (D_is_whole : Df P w K mg base CX0 1 "is_whole" ["thing"] spIsWhole) (D_are_near_rows : Df P w K mg base CX0 4 "are_near_rows" ["thing", "many"] spNearRows) : FnOk P w K mg base CX0 5 f fd ["self", "letters", "nothings"] (spRInit C) := by
  refine F.ok sc_Room_init (fun vs H Q E h => ?_) (fun cdv A outer s H vs Q E hr h => ⟨_, PSs.nox
   (pss_cons (ps_if (PW.pt (pw_or (pt_not (pt_val (pe_df D_is_whole (hr.mono (by decide)) (pa_cons (pv 1) pa_nil)))) (pw_or (pt_cmpR op_lt (pv 1) pe_int (nomark _)) (pw_or1 (pt_cmpR op_gt (pv 1) (pe_ci rfl T_MOST_LETTERS) (nomark _))))))
      (pss_one ps_never)
      pss_nil)
      (pss_cons (ps_set (i := 3) sc_Room_init.nd rfl (Or.inl rfl) (pe_ifExp (pt_cmp (pc_isN (pv 2))) (pe_lst pa_nil) (pv 2)))
      (pss_cons (ps_if (pt_not (pt_val (pe_df D_are_near_rows (hr.mono (by decide)) (pa_cons (pv 3) (pa_cons (pv 1) pa_nil)))))
      (pss_one ps_never)
      pss_nil)
      (pss_cons (ps_if (pt_cmpR op_gt (pe_callB call_len_seq rfl B.len_ boot_len (pa_cons (pv 3) pa_nil)) (pe_ci rfl T_MOST_NOTHINGS) (nomark _))
      (pss_one ps_never)
      pss_nil)
      (pss_cons (ps_fld (pv 0) (pv 1) rfl)
      (pss_cons (ps_fld (pv 0) (pe_lc (own := [("row", 4)]) (g := gName 4) (tt := tYes) rfl sc_Room_init.nd (pi_list (pv 3)) (blkOk_by (N := n_Room_init) (sc := defScope s_Room_init) (by decide +kernel)) (fun _ _ _ _ _ => (pg_name (i := 4) sc_Room_init.nd rfl (Or.inl rfl))) (fun _ _ _ _ _ => pts_nil) (fun _ _ _ _ _ => (pe_callTy (r := Evl.rListS K) call_list_of rfl B.list_ boot_list (pa_cons (pv 4) pa_nil)))) rfl)
      (pss_one (ps_fld (pv 0) pe_non rfl)))))))), ?_⟩)
  · obtain ⟨x, dx, a, n, rs, nss, rfl, _⟩ := h
    rfl
  · obtain ⟨x, dx, a, n, rs, nss, rfl, hx, hn, ha, hr1, hk, hm, k⟩ := h
    simp only [cxK]
    have hlen := hr1.len
    have ax : a ≠ x := fun z => by rw [z, hx] at ha; cases ha
    refine ⟨_, rfl, _, rfl, ⟨_, .int (n : Int)⟩, _, rfl, ifF rfl ?_⟩
    refine ⟨_, rfl, _, _, rfl, rfl, _, rfl, ifF (decide_eq_false (by omega)) ?_⟩
    refine ⟨_, rfl, _, _, rfl, rfl, _, rfl, ifF (decide_eq_false (by omega)) ?_⟩
    refine ⟨_, rfl, _, rfl, ifF (by simp) ?_⟩
    refine ⟨_, rfl, ?_⟩
    refine ⟨_, rfl, _, rfl, _, _, rfl, d2_rows ha hr1 (by omega) (fun ns hns => by have := (hk ns hns).1; omega), fun H1 e1 => ⟨_, rfl, ?_⟩⟩
    rw [tbl_true ha hr1 hk]
    refine ifF rfl ?_
    refine ⟨_, rfl, a, _, rfl, .inl (Evl.sq_of (e1 _ _ ha)), _, _, rfl, rfl, _, rfl, ifF (decide_eq_false (by rw [List.length_map]; omega)) ?_⟩
    refine ⟨_, rfl, _, rfl, x, C, dx, _, rfl, e1 _ _ hx, R.cl, R.nL, by simp, ?_⟩
    have fs1 : putF "_letters" (.int (n : Int)) [] = [(("_letters" : Str), V.int (n : Int))] := rfl
    rw [fs1]
    have fr1 : ∀ b o, b ≠ x → H b = some o → upd H1 x (.ins C dx [(("_letters" : Str), V.int (n : Int))]) b = some o := fun b o hb h => by rw [upd_ne hb]; exact e1 _ _ h
    have hx1 : upd H1 x (.ins C dx [(("_letters" : Str), V.int (n : Int))]) x = some (.ins C dx [(("_letters" : Str), V.int (n : Int))]) := upd_same
    generalize upd H1 x (.ins C dx [(("_letters" : Str), V.int (n : Int))]) = H2 at fr1 hx1 ⊢
    have rx : ∀ r ∈ rs, r ≠ x := hr1.offI hx
    have hr2 : RowsL H2 rs nss := hr1.of fun r hr o h => fr1 r o (rx r hr) h
    refine ⟨_, rfl, a, rfl, ⟨_, Evl.sq_of (fr1 _ _ ax ha)⟩, fun ln hln => ?_⟩
    refine lcRowsD nss hln (Evl.sq_of (fr1 _ _ ax ha)) (by rw [List.length_map, hlen]) (by rw [List.length_map]; omega) (by intro x; rfl) (fun i y ns H3 e3 hy hns => ?_) fun qs H3 e3 hln3 hqs hqn => ?_
    · rw [List.getElem?_map] at hy
      cases hy2 : rs[i]? with
      | none => rw [hy2] at hy; cases hy
      | some r =>
        rw [hy2] at hy
        cases hy
        obtain ⟨ms, g1, g2⟩ := hr2.get hy2
        rw [hns] at g1
        cases g1
        intro H4 e4 Q1 q1
        exact ⟨_, rfl, r, _, rfl, .inl (Evl.sq_of ((e3.trans e4) _ _ g2)), fun l hl => q1 l _ hl (ev_up hl) upd_same⟩
    have lnx : ln ≠ x := fun z => by rw [z, hx1] at hln; cases hln
    have none2 : ∀ {b}, b ≠ x → H2 b = none → H b = none := fun {b} hb h => by
      cases e : H b with
      | none => rfl
      | some o => rw [fr1 b o hb e] at h; cases h
    refine ⟨_, rfl, x, C, dx, _, rfl, e3 _ _ hx1, R.cl, R.nN, by simp, ?_⟩
    refine ⟨_, rfl, x, C, dx, _, rfl, upd_same, R.cl, R.nP, putF_lt2, ?_⟩
    have fs3 : putF "_plan" .non (putF "_nothings" (.ref ln) [(("_letters" : Str), V.int (n : Int))]) = fsR n ln .non := room_fs _ _ _
    rw [fs3, upd_upd]
    refine k _ ln qs (fun b o hb h => by rw [upd_ne hb]; exact e3 _ _ (fr1 b o hb h)) (none2 lnx hln) upd_same (by rw [upd_ne lnx]; exact hln3) (hqs.upd fun r hr z => ?_) fun q hq => ?_
    · have := (hqn r hr).1
      rw [z, hx1] at this
      cases this
    · have h1 := hqn q hq
      refine ⟨none2 (fun z => ?_) h1.1, h1.2⟩
      have := h1.1
      rw [z, hx1] at this
      cases this
def spRLet (C : Addr) : Sp := fun vs H Q _ => ∃ (x dx ln : Addr) (n : Nat) (pv : V), vs = [.ref x] ∧ H x = some (.ins C dx (fsR n ln pv)) ∧ Q (.int (n : Int)) H
theorem lkR1 {n : Nat} {ln : Addr} {pv : V} : List.lookup (α := Str) "_letters" (fsR n ln pv) = some (.int (n : Int)) := lk0 rfl
theorem lkR2 {n : Nat} {ln : Addr} {pv : V} : List.lookup (α := Str) "_nothings" (fsR n ln pv) = some (.ref ln) := by rw [lk1 (by decide +kernel)]; exact lk0 rfl
theorem lkR3 {n : Nat} {ln : Addr} {pv : V} : List.lookup (α := Str) "_plan" (fsR n ln pv) = some pv := by rw [lk1 (by decide +kernel), lk1 (by decide +kernel)]; exact lk0 rfl
theorem lkRN {n : Nat} {ln : Addr} {pv : V} {m : Str} (h1 : (m == ("_letters" : Str)) = false) (h2 : (m == ("_nothings" : Str)) = false) (h3 : (m == ("_plan" : Str)) = false) : List.lookup m (fsR n ln pv) = none := by rw [lk1 h1, lk1 h2, lk1 h3]; rfl
theorem ok_rletters {C : Addr} (F : FnP K "letters" "Room.letters" s_Room_letters f fd) (R : Rc K C) : FnOk P w K mg base CX0 1 f fd ["self"] (spRLet C) := by
  refine F.ok sc_Room_letters (fun vs H Q E h => ?_) (fun cdv A outer s H vs Q E hr h => ⟨_, PSs.nox
   (pss_one (ps_ret (pe_fld (pv 0) rfl))), ?_⟩)
  · obtain ⟨x, dx, ln, n, pv, rfl, _⟩ := h
    rfl
  · obtain ⟨x, dx, ln, n, pv, rfl, hx, q⟩ := h
    exact ⟨_, rfl, x, C, dx, _, _, rfl, hx, R.cl, R.nL, lkR1, q⟩
def spRNth (C : Addr) : Sp := fun vs H Q _ => ∃ (x dx ln : Addr) (n : Nat) (pv : V) (nss : List (List Int)), vs = [.ref x] ∧ H x = some (.ins C dx (fsR n ln pv)) ∧ RwA H ln nss ∧ nss.length ≤ 30 ∧ RetR nss H Q
theorem ok_rnothings {C : Addr} (F : FnP K "nothings" "Room.nothings" s_Room_nothings f fd) (B : Bi mg) (R : Rc K C) : FnOk P w K mg base CX0 1 f fd ["self"] (spRNth C) := by
  refine F.ok sc_Room_nothings (fun vs H Q E h => ?_) (fun cdv A outer s H vs Q E hr h => ⟨_, PSs.nox
   (pss_one (ps_ret (pe_lc (own := [("row", 1)]) (g := gName 1) (tt := tYes) rfl sc_Room_nothings.nd (pi_list (pe_fld (pv 0) rfl)) (blkOk_by (N := n_Room_nothings) (sc := defScope s_Room_nothings) (by decide +kernel)) (fun _ _ _ _ _ => (pg_name (i := 1) sc_Room_nothings.nd rfl (Or.inl rfl))) (fun _ _ _ _ _ => pts_nil) (fun _ _ _ _ _ => (pe_callTy (r := Evl.rListS K) call_list_of rfl B.list_ boot_list (pa_cons (pv 1) pa_nil)))))), ?_⟩)
  · obtain ⟨x, dx, ln, n, pv, nss, rfl, _⟩ := h
    rfl
  · obtain ⟨x, dx, ln, n, pv, nss, rfl, hx, ⟨rs, h2, h3⟩, hz, q⟩ := h
    simp only [cxK]
    have hlen := h3.len
    refine lcRows nss (fun H1 e Q q => ⟨_, rfl, x, C, dx, _, _, rfl, e _ _ hx, R.cl, R.nN, lkR2, q H1 (Ex.refl H1)⟩) (Evl.sq_of h2) (by simp [hlen]) (by simp; omega) (fun x => rfl) (fun i y ns H4 e4 hi hg => ?_) H (Ex.refl H) _ ?_
    · intro H5 e5 Q q
      rw [List.getElem?_map] at hi
      cases hi2 : rs[i]? with
      | none =>
        rw [hi2] at hi
        cases hi
      | some r =>
        rw [hi2] at hi
        cases hi
        obtain ⟨ns2, hn2, hr2⟩ := h3.get hi2
        rw [hg] at hn2
        cases hn2
        exact ⟨_, rfl, r, _, rfl, .inl (Evl.sq_of ((e4.trans e5) _ _ hr2)), fun l hl => q l _ hl (ev_up hl) upd_same⟩
    · rintro _ H4 e4 ⟨p, qs, rfl, hp, hp2, hq, hqs⟩
      exact q p qs H4 hp e4 hp2 hq hqs
def spRCheck (C : Addr) : Sp := fun vs H Q _ => ∃ (x dx ln q : Addr) (n : Nat) (pv : V) (one : List Int), vs = [.ref x, .ref q] ∧ H x = some (.ins C dx (fsR n ln pv)) ∧ H q = some (.lst (one.map V.int)) ∧ one.length = n ∧ n ≤ 6 ∧ ∀ H', Ex H H' → Q .non H'
theorem ok_rcheck {C : Addr} (F : FnP K "_check" "Room._check" s_Room_check f fd) (R : Rc K C) (D_is_row : Df P w K mg base CX0 2 "is_row" ["thing", "many"] spIsRow) : FnOk P w K mg base CX0 3 f fd ["self", "one"] (spRCheck C) := by
  refine F.ok sc_Room_check (fun vs H Q E h => ?_) (fun cdv A outer s H vs Q E hr h => ⟨_, PSs.nox
   (pss_one (ps_if (pt_not (pt_val (pe_df D_is_row (hr.mono (by decide)) (pa_cons (pv 1) (pa_cons (pe_fld (pv 0) rfl) pa_nil)))))
      (pss_one ps_never)
      pss_nil)), ?_⟩)
  · obtain ⟨x, dx, ln, q, n, pv, one, rfl, _⟩ := h
    rfl
  · obtain ⟨x, dx, ln, q, n, pv, one, rfl, hx, hq, hl, hn, k⟩ := h
    simp only [cxK]
    refine ⟨_, rfl, _, rfl, x, C, dx, _, _, rfl, hx, R.cl, R.nL, lkR1, _, _, rfl, d1_ints hq (by omega), fun H1 e1 => ⟨_, rfl, ?_⟩⟩
    rw [intRow_true hq hl]
    exact ifF rfl (k H1 e1)
def spRLess (C : Addr) : Sp := fun vs H Q _ => ∃ (x dx ln q1 q2 : Addr) (n : Nat) (pv : V) (one other : List Int), vs = [.ref x, .ref q1, .ref q2] ∧ H x = some (.ins C dx (fsR n ln pv)) ∧ H q1 = some (.lst (one.map V.int)) ∧ H q2 = some (.lst (other.map V.int)) ∧ one.length = n ∧ other.length = n ∧ n ≤ 6 ∧ RetL ((List.zipWith (fun a b => a - b) one other).map V.int) H Q
theorem ok_rless {C : Addr} (F : FnP K "_less" "Room._less" s_Room_less f fd) (R : Rc K C) (MC : Mt P w K mg base CX0 3 C "_check" ["self", "one"] (spRCheck C)) (D_difference : Df P w K mg base CX0 1 "difference" ["one", "other"] (spDiff K)) : FnOk P w K mg base CX0 4 f fd ["self", "one", "other"] (spRLess C) := by
  obtain ⟨fC, fdC, FC, mC, bC⟩ := MC
  refine F.ok sc_Room_less (fun vs H Q E h => ?_) (fun cdv A outer s H vs Q E hr h => ⟨_, PSs.nox
   (pss_cons (ps_expr (pe_meth (pv 0) R.cl mC FC (hr.mono (by decide)) bC .nil pass0 (pa_cons (pv 1) pa_nil)))
      (pss_cons (ps_expr (pe_meth (pv 0) R.cl mC FC (hr.mono (by decide)) bC .nil pass0 (pa_cons (pv 2) pa_nil)))
      (pss_one (ps_ret (pe_df D_difference (hr.mono (by decide)) (pa_cons (pv 1) (pa_cons (pv 2) pa_nil))))))), ?_⟩)
  · obtain ⟨x, dx, ln, q1, q2, n, pv, one, other, rfl, _⟩ := h
    rfl
  · obtain ⟨x, dx, ln, q1, q2, n, pv, one, other, rfl, hx, h1, h2, l1, l2, hn, k⟩ := h
    have lk : List.lookup (α := Str) "_check" (fsR n ln pv) = none := lkRN (by decide +kernel) (by decide +kernel) (by decide +kernel)
    refine ⟨_, rfl, x, dx, _, rfl, hx, lk, _, rfl, x, dx, ln, q1, n, pv, one, rfl, hx, h1, l1, hn, fun H1 e1 => ?_⟩
    refine ⟨_, rfl, x, dx, _, rfl, e1 _ _ hx, lk, _, rfl, x, dx, ln, q2, n, pv, other, rfl, e1 _ _ hx, e1 _ _ h2, l2, hn, fun H2 e2 => ?_⟩
    have e12 := e1.trans e2
    exact ⟨_, rfl, _, rfl, q1, q2, one, other, rfl, Evl.sq_of (e12 _ _ h1), Evl.sq_of (e12 _ _ h2), by omega, by omega, fun p H3 hp e3 h3 => k p H3 (Evl.fresh_back e12 hp) (e12.trans e3) h3⟩
end
end Sr
/-! # V1 -/
namespace Sr
open PySem PySem.Spec PyProof.Rows L2
open Evl (Ex Ev EvL EvU EvT EvA RetL RetV)
abbrev s_l_mixed : Stmt := topS 41
abbrev n_l_mixed : List Str := ["_law_cell", "_law_k", "_law_number_here"]
theorem sc_l_mixed : FnScope n_l_mixed ["_law_cell", "_law_k"] (defScope s_l_mixed) := ⟨rfl, rfl, rfl, by decide +kernel, rfl, by decide +kernel, by decide +kernel⟩
abbrev s_l_whole : Stmt := topS 42
abbrev n_l_whole : List Str := ["_law_found"]
theorem sc_l_whole : FnScope n_l_whole ["_law_found"] (defScope s_l_whole) := ⟨rfl, rfl, rfl, by decide +kernel, rfl, by decide +kernel, by decide +kernel⟩
abbrev s_l_number : Stmt := topS 43
abbrev n_l_number : List Str := ["_law_cell", "_law_k", "_law_n"]
theorem sc_l_number : FnScope n_l_number ["_law_cell", "_law_k"] (defScope s_l_number) := ⟨rfl, rfl, rfl, by decide +kernel, rfl, by decide +kernel, by decide +kernel⟩
abbrev s_l_nothing : Stmt := topS 44
abbrev n_l_nothing : List Str := ["_law_cell", "_law_letters", "_law_told_here", "_law_way", "_law_found", "_law_at", "_law_k", "_law_number_here"]
theorem sc_l_nothing : FnScope n_l_nothing ["_law_cell", "_law_letters", "_law_told_here"] (defScope s_l_nothing) := ⟨rfl, rfl, rfl, by decide +kernel, rfl, by decide +kernel, by decide +kernel⟩
section
variable {P : Program} {w : World} {K : PySem.W.Frag} {mg : Str → Option Value} {base : Heap} {f : Addr} {fd : FuncData}
def mixI (c k : Int) : Int := (c % 2147483647 * 69621 + 104729 * k * k + 31 * k + 5) % 2147483629
/-- m is the number drawn of c and k -/
def Mx (c k m : Int) : Prop := m = mixI c k * mixI c k % 2147483629 / 16
def spMixed : Sp := fun vs H Q _ => ∃ c k : Int, vs = [.int c, .int k] ∧ 0 ≤ k ∧ k ≤ 1000000000000 ∧ ∀ m : Int, 0 ≤ m → m < 134217728 → Mx c k m → Q (.int m) H
theorem ok_l_mixed (F : FnP K "_law_mixed" "_law_mixed" s_l_mixed f fd) : FnOk P w K mg base CX0 1 f fd ["_law_cell", "_law_k"] spMixed := by
  refine F.ok sc_l_mixed (fun vs H Q E h => ?_) (fun cdv A outer s H vs Q E hr h => ⟨_, PSs.nox
   (pss_cons (ps_set (i := 2) sc_l_mixed.nd rfl (Or.inl rfl) (pe_op op_mod (pe_op op_add (pe_op op_add (pe_op op_add (pe_op op_mul (pe_op op_mod (pv 0) pe_int) pe_int) (pe_op op_mul (pe_op op_mul pe_int (pv 1)) (pv 1))) (pe_op op_mul pe_int (pv 1))) pe_int) pe_int))
      (pss_one (ps_ret (pe_op op_fdiv (pe_op op_mod (pe_op op_mul (pv 2) (pv 2)) pe_int) pe_int)))), ?_⟩)
  · obtain ⟨c, k, rfl, _⟩ := h
    rfl
  · obtain ⟨c, k, rfl, h0, h1, hQ⟩ := h
    simp [tSeq, tAsg, tRet, tOp, tUn, tVar, tC, rI, rI0, rU, gName, L2.start, CMul, CDiv, CPow, tIfS, tTest, rEq, rNe, scal, tNext, tCall, tCons, tNil, tCB, tIf, tAnd, L2.tOr, tNot, tB, tAndV, tOrV, tNotV, tChain, tLst, tDrop, rIxH, upd_same, cxK, Evl.rListS]
    refine ⟨?_, ?_, hQ _ ?_ ?_ rfl⟩ <;> omega
theorem ok_l_whole (F : FnP K "_law_whole" "_law_whole" s_l_whole f fd) (B : Bi mg) : FnOk P w K mg base CX0 1 f fd ["_law_found"] spIsWhole := by
  refine F.ok sc_l_whole (fun vs H Q E h => ?_) (fun cdv A outer s H vs Q E hr h => ⟨_, PSs.nox
   (pss_one (ps_ret (pe_and (pe_callB call_isK rfl B.isinstance_ boot_isinstance (pa_cons (pv 0) (pa_cons (pe_bltn (v := .ty "int") rfl B.int_ boot_int rfl) pa_nil))) (pe_one (pe_not (pe_callB call_isK rfl B.isinstance_ boot_isinstance (pa_cons (pv 0) (pa_cons (pe_bltn (v := .ty "bool") rfl B.bool_ boot_bool rfl) pa_nil)))))))), ?_⟩)
  · obtain ⟨v, rfl, _⟩ := h
    rfl
  · obtain ⟨v, rfl, ⟨T, k⟩, q⟩ := h
    obtain ⟨b, hb, h1, h2⟩ := k.kInt
    simp [tSeq, tAsg, tRet, tOp, tUn, tVar, tC, rI, rI0, rU, gName, L2.start, CMul, CDiv, CPow, tIfS, tTest, rEq, rNe, scal, tNext, tCall, tCons, tNil, tCB, tIf, tAnd, L2.tOr, tNot, tB, tAndV, tOrV, tNotV, tChain, tLst, tDrop, rIxH, upd_same, cxK, Evl.rListS]
    refine ⟨v, T, "int", b, rfl, k, hb, ?_⟩
    simp [tSeq, tAsg, tRet, tOp, tUn, tVar, tC, rI, rI0, rU, gName, L2.start, CMul, CDiv, CPow, tIfS, tTest, rEq, rNe, scal, tNext, tCall, tCons, tNil, tCB, tIf, tAnd, L2.tOr, tNot, tB, tAndV, tOrV, tNotV, tChain, tLst, tDrop, rIxH, upd_same, cxK, Evl.rListS]
    cases b with
    | false =>
      rw [h2 rfl] at q
      exact .inl ⟨rfl, q⟩
    | true =>
      obtain ⟨c, hc, e⟩ := h1 rfl
      refine .inr ⟨rfl, v, T, "bool", c, rfl, k, hc, ?_⟩
      rw [← e] at q
      cases c with
      | false => exact .inl ⟨rfl, q⟩
      | true => exact .inr ⟨rfl, q⟩
def spNumber : Sp := fun vs H Q _ => ∃ c k : Int, vs = [.int c, .int k] ∧ 0 ≤ k ∧ k ≤ 1000000000000 ∧ ∀ (m : Int) H', -1000000000000 ≤ m → m ≤ 1000000000000 → Ex H H' → Q (.int m) H'
theorem ok_l_number (F : FnP K "_law_number" "_law_number" s_l_number f fd) (B : Bi mg) (D_l_mixed : Df P w K mg base CX0 1 "_law_mixed" ["_law_cell", "_law_k"] spMixed) : FnOk P w K mg base CX0 2 f fd ["_law_cell", "_law_k"] spNumber := by
  refine F.ok sc_l_number (fun vs H Q E h => ?_) (fun cdv A outer s H vs Q E hr h => ⟨_, PSs.nox
   (pss_cons (ps_set (i := 2) sc_l_number.nd rfl (Or.inl rfl) (pe_df D_l_mixed (hr.mono (by decide)) (pa_cons (pv 0) (pa_cons (pv 1) pa_nil))))
      (pss_cons (ps_if (pt_cmpR op_eq (pe_op op_mod (pv 2) pe_int) pe_int (nomark _))
      (pss_one (ps_ret (pe_ix ix_h (pe_lst (pa_cons (pe_op op_pow pe_int pe_int) (pa_cons (pe_un un_neg (pe_op op_pow pe_int pe_int)) (pa_cons (pe_op op_sub (pe_op op_pow pe_int pe_int) pe_int) pa_nil)))) (pe_op op_mod (pe_op op_fdiv (pv 2) pe_int) pe_int) (fun _ _ => rfl))))
      pss_nil)
      (pss_cons (ps_if (pt_cmpR op_eq (pe_op op_mod (pv 2) pe_int) pe_int (nomark _))
      (pss_one (ps_ret (pe_op op_sub (pe_op op_mod (pe_op op_mul (pe_op op_fdiv (pv 2) pe_int) (pe_op op_pow pe_int pe_int)) (pe_op op_add (pe_op op_mul pe_int (pe_op op_pow pe_int pe_int)) pe_int)) (pe_op op_pow pe_int pe_int))))
      pss_nil)
      (pss_one (ps_ret (pe_op op_sub (pe_op op_mod (pe_op op_fdiv (pv 2) pe_int) (pe_ix ix_h (pe_lst (pa_cons pe_int (pa_cons pe_int (pa_cons pe_int (pa_cons pe_int pa_nil))))) (pe_op op_mod (pe_op op_fdiv (pv 2) pe_int) pe_int) (fun _ _ => rfl))) (pe_ix ix_h (pe_lst (pa_cons pe_int (pa_cons pe_int (pa_cons pe_int (pa_cons pe_int pa_nil))))) (pe_op op_mod (pe_op op_fdiv (pv 2) pe_int) pe_int) (fun _ _ => rfl)))))))), ?_⟩)
  · obtain ⟨c, k, rfl, _⟩ := h
    rfl
  · obtain ⟨c, k, rfl, h0, h1, hQ⟩ := h
    simp [tSeq, tAsg, tRet, tOp, tUn, tVar, tC, rI, rI0, rU, gName, L2.start, CMul, CDiv, CPow, tIfS, tTest, rEq, rNe, scal, tNext, tCall, tCons, tNil, tCB, tIf, tAnd, L2.tOr, tNot, tB, tAndV, tOrV, tNotV, tChain, tLst, tDrop, rIxH, upd_same, cxK, Evl.rListS]
    refine ⟨c, k, rfl, h0, h1, fun m m0 m1 mx => ⟨m, rfl, ?_⟩⟩
    split
    · refine ⟨sizeLine_ge _ (by decide), fun p hp => ⟨m, rfl, ?_⟩⟩
      rcases (by omega : m / 11 % 3 = 0 ∨ m / 11 % 3 = 1 ∨ m / 11 % 3 = 2) with h | h | h <;> rw [h] <;> refine ⟨_, rfl, hQ _ _ (by decide) (by decide) (ev_up hp)⟩
    · refine ⟨m, rfl, ?_⟩
      split
      · exact ⟨m, rfl, hQ _ _ (by omega) (by omega) (Ex.refl H)⟩
      · refine ⟨m, rfl, sizeLine_ge _ (by decide), fun p hp => ⟨m, rfl, ?_⟩⟩
        rcases (by omega : m / 275 % 4 = 0 ∨ m / 275 % 4 = 1 ∨ m / 275 % 4 = 2 ∨ m / 275 % 4 = 3) with h | h | h | h <;> rw [h] <;>
          refine ⟨_, rfl, _, rfl, by decide, sizeLine_ge _ (by decide), fun q hq => ⟨m, rfl, ?_⟩⟩ <;> rw [h] <;> refine ⟨_, rfl, _, rfl, hQ _ _ (by omega) (by omega) ((ev_up hp).trans (ev_up hq))⟩
def spNothing : Sp := fun vs H Q _ => ∃ (c : Int) (n : Nat) (a : Addr) (rs : List Addr) (nss : List (List Int)), vs = [.int c, .int n, .ref a] ∧ n ≤ 6 ∧ H a = some (.lst (rs.map V.ref)) ∧ RowsL H rs nss ∧ rs.length ≤ 40 ∧ (∀ ns ∈ nss, ns.length = n ∧ Near ns) ∧
  ∀ (p : Addr) (ns : List Int) H', H p = none → Ex H H' → H' p = some (.lst (ns.map V.int)) → ns.length = n → Near ns → Q (.ref p) H'
theorem ok_l_nothing (F : FnP K "_law_nothing" "_law_nothing" s_l_nothing f fd) (B : Bi mg) (D_l_mixed : Df P w K mg base CX0 1 "_law_mixed" ["_law_cell", "_law_k"] spMixed) (D_l_number : Df P w K mg base CX0 2 "_law_number" ["_law_cell", "_law_k"] spNumber) : FnOk P w K mg base CX0 3 f fd ["_law_cell", "_law_letters", "_law_told_here"] spNothing := by
  refine F.ok sc_l_nothing (fun vs H Q E h => ?_) (fun cdv A outer s H vs Q E hr h => ⟨_, PSs.nox
   (pss_cons (ps_set (i := 3) sc_l_nothing.nd rfl (Or.inl rfl) (pe_op op_mod (pe_df D_l_mixed (hr.mono (by decide)) (pa_cons (pv 0) (pa_cons pe_int pa_nil))) pe_int))
      (Evl.pss_cut (ps_if (PW.pt (pw_and (pt_cmpR op_eq (pv 3) pe_int (nomark _)) (pw_and1 (pt_cmpR (op_neD (hu64 hr)) (pv 2) (pe_lst pa_nil) (nomark _)))))
      (pss_one (ps_ret (pe_callTy (r := Evl.rListS K) call_list_of rfl B.list_ boot_list (pa_cons (pe_ix ix_list (pv 2) (pe_op op_mod (pe_df D_l_mixed (hr.mono (by decide)) (pa_cons (pv 0) (pa_cons pe_int pa_nil))) (pe_callB call_len_seq rfl B.len_ boot_len (pa_cons (pv 2) pa_nil))) (fun _ _ => rfl)) pa_nil))))
      pss_nil)
      (pss_cons (ps_setLc (i := 4) (own := [("_law_k", 6)]) (g := gName 6) (tt := tYes) rfl sc_l_nothing.nd rfl rfl (sw_true rfl rfl rfl (by decide +kernel)) (pi_range1 rfl B.range_ (pa_cons (pv 1) pa_nil)) (blkOk_by (N := n_l_nothing) (sc := defScope s_l_nothing) (by decide +kernel)) (fun _ _ _ _ _ => (pg_name (i := 6) sc_l_nothing.nd rfl (Or.inl rfl))) (fun _ _ _ _ _ => pts_nil) (fun _ _ _ _ _ => (pe_df D_l_number (hr.mono (by decide)) (pa_cons (pv 0) (pa_cons (pe_op op_add pe_int (pv 6)) pa_nil)))))
      (pss_cons (ps_if (PW.pt (pw_and (pt_cmpR op_lt (pv 3) pe_int (nomark _)) (pw_and1 (pt_cmpR op_gt (pv 1) pe_int (nomark _)))))
      (pss_cons (ps_set (i := 5) sc_l_nothing.nd rfl (Or.inr rfl) (pe_op op_mod (pe_df D_l_mixed (hr.mono (by decide)) (pa_cons (pv 0) (pa_cons pe_int pa_nil))) (pv 1)))
        (pss_one (ps_ret (pe_lc (own := [("_law_k", 6), ("_law_number_here", 7)]) (g := gTup K 2 (gCons (gName 6) (gCons (gName 7) gNil))) (tt := tYes) rfl sc_l_nothing.nd (pi_enum rfl B.enumerate_ (pa_cons (pv 4) pa_nil)) (blkOk_by (N := n_l_nothing) (sc := defScope s_l_nothing) (by decide +kernel)) (fun _ _ _ _ _ => (pg_tup rfl (pgs_cons (pg_name (i := 6) sc_l_nothing.nd rfl (Or.inl rfl)) (pgs_cons (pg_name (i := 7) sc_l_nothing.nd rfl (Or.inl rfl)) pgs_nil)))) (fun _ _ _ _ _ => pts_nil) (fun _ _ _ _ _ => (pe_op op_mul (pv 7) (pe_callTy call_int1 rfl B.int_ boot_int (pa_cons (pe_cmpR op_eq (pv 6) (pv 5) (nomark _)) pa_nil))))))))
      pss_nil)
      (pss_one (ps_ret (pe_ifExp (PW.pt (pw_and (pt_cmpR op_eq (pv 3) pe_int (nomark _)) (pw_and1 (pt_cmpR op_eq (pe_op op_mod (pe_df D_l_mixed (hr.mono (by decide)) (pa_cons (pv 0) (pa_cons pe_int pa_nil))) pe_int) pe_int (nomark _))))) (pe_op op_rep (pe_lst (pa_cons pe_int pa_nil)) (pv 1)) (pv 4)))))))), ?_⟩)
  · obtain ⟨c, n, a, rs, nss, rfl, _⟩ := h
    rfl
  · obtain ⟨c, n, a, rs, nss, rfl, hn, ha, hrs, hl, hns, hQ⟩ := h
    simp [tSeq, tAsg, tRet, tOp, tUn, tVar, tC, rI, rI0, rU, gName, L2.start, CMul, CDiv, CPow, tIfS, tTest, rEq, rNe, scal, tNext, tCall, tCons, tNil, tCB, tIf, tAnd, L2.tOr, tNot, tB, tAndV, tOrV, tNotV, tChain, tLst, tDrop, rIxH, upd_same, cxK, Evl.rListS]
    refine ⟨c, 20, rfl, by decide, by decide, fun m m0 m1 mx => ⟨m, rfl, fun σ' H' => Ex H H' ∧ σ' = [some (.int c), some (.int n), some (.ref a), some (.int (m % 9)), none, none, none, none], ?_, ?_⟩⟩
    · simp [tSeq, tAsg, tRet, tOp, tUn, tVar, tC, rI, rI0, rU, gName, L2.start, CMul, CDiv, CPow, tIfS, tTest, rEq, rNe, scal, tNext, tCall, tCons, tNil, tCB, tIf, tAnd, L2.tOr, tNot, tB, tAndV, tOrV, tNotV, tChain, tLst, tDrop, rIxH, upd_same, cxK, Evl.rListS]
      split
      · intro p hp
        have ha' : upd H p (.lst []) a = some (.lst (rs.map V.ref)) := ev_up hp _ _ ha
        have hrs' : RowsL (upd H p (.lst [])) rs nss := hrs.ex (ev_up hp)
        refine ⟨_, _, dp_rows ha' hrs', dp_nil upd_same, sh_rows nss, sh_nil, ?_⟩
        rw [eqv_nil_r]
        cases nss with
        | nil => exact .inl ⟨rfl, ev_up hp⟩
        | cons ns0 nss0 =>
          refine .inr ⟨rfl, c, 21, rfl, by decide, by decide, fun m2 m20 m21 mx2 => ⟨_, .inl (Evl.sq_of ha'), m2, rfl, ?_⟩⟩
          have hlen := hrs.len
          simp [tSeq, tAsg, tRet, tOp, tUn, tVar, tC, rI, rI0, rU, gName, L2.start, CMul, CDiv, CPow, tIfS, tTest, rEq, rNe, scal, tNext, tCall, tCons, tNil, tCB, tIf, tAnd, L2.tOr, tNot, tB, tAndV, tOrV, tNotV, tChain, tLst, tDrop, rIxH, upd_same, cxK, Evl.rListS] at hlen
          have i0 : 0 ≤ m2 % ((rs.map V.ref).length : Int) := by
            apply Int.emod_nonneg
            rw [List.length_map]
            omega
          have i1 : m2 % ((rs.map V.ref).length : Int) < ((rs.map V.ref).length : Int) := by
            apply Int.emod_lt_of_pos
            rw [List.length_map]
            omega
          obtain ⟨x, hx, r, hr, rfl⟩ := pick_any (xs := rs.map V.ref) (R := fun x => ∃ r ∈ rs, V.ref r = x) i0 i1 fun x hx => List.mem_map.mp hx
          refine ⟨by rw [List.length_map]; omega, a, _, _, _, rfl, rfl, Evl.sq_of ha', hx, r, rfl, ?_⟩
          obtain ⟨k, hk⟩ := List.mem_iff_getElem?.mp hr
          obtain ⟨ns, hns1, hns2⟩ := hrs'.get hk
          have hn3 := hns ns (List.mem_of_getElem? hns1)
          exact ⟨_, .inl (Evl.sq_of hns2), fun l hl => hQ l ns _ (Evl.fresh_back (ev_up hp) hl) ((ev_up hp).trans (ev_up hl)) upd_same hn3.1 hn3.2⟩
      · exact Ex.refl H
    · rintro σ' H' ⟨e1, rfl⟩
      simp [tSeq, tAsg, tRet, tOp, tUn, tVar, tC, rI, rI0, rU, gName, L2.start, CMul, CDiv, CPow, tIfS, tTest, rEq, rNe, scal, tNext, tCall, tCons, tNil, tCB, tIf, tAnd, L2.tOr, tNot, tB, tAndV, tOrV, tNotV, tChain, tLst, tDrop, rIxH, upd_same, cxK, Evl.rListS]
      refine lcR (m := n) (fun _ y => ∃ z, y = V.int z ∧ -1000000000000 ≤ z ∧ z ≤ 1000000000000) ?_ rfl (by omega) (fun x => rfl) ?_ H' (Ex.refl H') _ ?_
      · intro H1 e Q q
        exact ⟨_, rfl, q H1 (Ex.refl H1)⟩
      · intro i H1 e hi H2 e2 Q q
        simp [tSeq, tAsg, tRet, tOp, tUn, tVar, tC, rI, rI0, rU, gName, L2.start, CMul, CDiv, CPow, tIfS, tTest, rEq, rNe, scal, tNext, tCall, tCons, tNil, tCB, tIf, tAnd, L2.tOr, tNot, tB, tAndV, tOrV, tNotV, tChain, tLst, tDrop, rIxH, upd_same, cxK, Evl.rListS, wipe]
        exact ⟨c, 30 + i, rfl, by omega, by omega, fun z H3 z0 z1 e3 => q _ H3 e3 ⟨z, rfl, z0, z1⟩⟩
      · rintro _ H2 e2 ⟨p, ys, rfl, hp, hp2, hl2, hys⟩
        obtain ⟨ns, rfl, hn2⟩ := ints_of hys
        rw [List.length_map] at hl2
        have fin : ∀ H3, Ex H2 H3 → Q (.ref p) H3 := fun H3 e3 => hQ p ns H3 (Evl.fresh_back e1 hp) ((e1.trans e2).trans e3) (e3 _ _ hp2) hl2 hn2
        have zz : ∀ (H3 : Hp) (pp : Addr), Ex H2 H3 → H3 pp = none → rRep (.ref pp) (.int n) (upd H3 pp (.lst [.int 0])) Q := fun H3 pp e3 hpp => by
          refine ⟨pp, n, _, rfl, rfl, upd_same, by omega, by omega, sizeLine_ge _ (by simp [tSeq, tAsg, tRet, tOp, tUn, tVar, tC, rI, rI0, rU, gName, L2.start, CMul, CDiv, CPow, tIfS, tTest, rEq, rNe, scal, tNext, tCall, tCons, tNil, tCB, tIf, tAnd, L2.tOr, tNot, tB, tAndV, tOrV, tNotV, tChain, tLst, tDrop, rIxH, upd_same, cxK, Evl.rListS]; omega), fun q hq => ?_⟩
          have e4 := e3.trans (ev_up (o := .lst [.int 0]) hpp)
          have e5 := e4.trans (ev_up (o := .lst (List.replicate (n : Int).toNat [V.int 0]).flatten) hq)
          refine hQ q (List.replicate n 0) _ (Evl.fresh_back ((e1.trans e2).trans e4) hq) ((e1.trans e2).trans e5) ?_ (by simp [tSeq, tAsg, tRet, tOp, tUn, tVar, tC, rI, rI0, rU, gName, L2.start, CMul, CDiv, CPow, tIfS, tTest, rEq, rNe, scal, tNext, tCall, tCons, tNil, tCB, tIf, tAnd, L2.tOr, tNot, tB, tAndV, tOrV, tNotV, tChain, tLst, tDrop, rIxH, upd_same, cxK, Evl.rListS]) (fun x hx => ?_)
          · rw [upd_same, flat_rep]
            simp [tSeq, tAsg, tRet, tOp, tUn, tVar, tC, rI, rI0, rU, gName, L2.start, CMul, CDiv, CPow, tIfS, tTest, rEq, rNe, scal, tNext, tCall, tCons, tNil, tCB, tIf, tAnd, L2.tOr, tNot, tB, tAndV, tOrV, tNotV, tChain, tLst, tDrop, rIxH, upd_same, cxK, Evl.rListS]
          · have := List.eq_of_mem_replicate hx
            omega
        have last : (if m % 9 = 3 then spMixed [V.int c, V.int 23] H2 (fun x_1 H1 => ∃ i, x_1 = V.int i ∧ if i % 3 = 0 then 1 ≤ sizeLine ∧ ∀ (p : Addr), H1 p = none → rRep (V.ref p) (V.int n) (upd H1 p (HO.lst [V.int 0])) Q else Q (.ref p) H1) E0 else Q (.ref p) H2) := by
          split
          · refine ⟨c, 23, rfl, by decide, by decide, fun m2 _ _ _ => ⟨m2, rfl, ?_⟩⟩
            split
            · exact ⟨sizeLine_ge _ (by decide), fun pp hpp => zz _ _ (Ex.refl _) hpp⟩
            · exact fin _ (Ex.refl _)
          · exact fin _ (Ex.refl _)
        split
        · split
          · refine ⟨c, 22, rfl, by decide, by decide, fun m2 _ _ _ => ⟨m2, rfl, by assumption, ?_⟩⟩
            refine lcE (fun _ y => ∃ z, y = V.int z ∧ -1000000000000 ≤ z ∧ z ≤ 1000000000000) ?_ (Evl.sq_of hp2) (by simp [tSeq, tAsg, tRet, tOp, tUn, tVar, tC, rI, rI0, rU, gName, L2.start, CMul, CDiv, CPow, tIfS, tTest, rEq, rNe, scal, tNext, tCall, tCons, tNil, tCB, tIf, tAnd, L2.tOr, tNot, tB, tAndV, tOrV, tNotV, tChain, tLst, tDrop, rIxH, upd_same, cxK, Evl.rListS]; omega) (fun x y => rfl) ?_ H2 (Ex.refl H2) _ ?_
            · intro H1 e Q q
              exact ⟨_, rfl, q H1 (Ex.refl H1)⟩
            · intro i x H1 e hi H3 e3 Q q
              rw [List.getElem?_map] at hi
              cases hz : ns[i]? with
              | none =>
                rw [hz] at hi
                cases hi
              | some z =>
                rw [hz] at hi
                cases hi
                have hzz := hn2 z (List.mem_of_getElem? hz)
                simp [tSeq, tAsg, tRet, tOp, tUn, tVar, tC, rI, rI0, rU, gName, L2.start, CMul, CDiv, CPow, tIfS, tTest, rEq, rNe, scal, tNext, tCall, tCons, tNil, tCB, tIf, tAnd, L2.tOr, tNot, tB, tAndV, tOrV, tNotV, tChain, tLst, tDrop, rIxH, upd_same, cxK, Evl.rListS, wipe]
                by_cases hc : (i : Int) = m2 % n
                · exact .inr ⟨hc, q _ H3 (Ex.refl H3) ⟨z, rfl, hzz.1, hzz.2⟩⟩
                · exact .inl ⟨hc, q _ H3 (Ex.refl H3) ⟨0, rfl, by omega, by omega⟩⟩
            · rintro _ H3 e3 ⟨p3, ys3, rfl, hp3, hp33, hl3, hys3⟩
              obtain ⟨ns3, rfl, hn33⟩ := ints_of hys3
              rw [List.length_map, List.length_map] at hl3
              exact hQ p3 ns3 H3 (Evl.fresh_back (e1.trans e2) hp3) ((e1.trans e2).trans e3) hp33 (by omega) hn33
          · exact last
        · exact last
end
end Sr
/-! # V2 -/
namespace Sr
open PySem PySem.Spec PyProof.Rows L2
open Evl (Ex Ev EvL EvU EvT EvA RetL RetV)
abbrev s_l_told : Stmt := topS 45
abbrev n_l_told : List Str := ["_law_cells", "_law_letters", "_law_found", "_law_k", "_law_cell"]
theorem sc_l_told : FnScope n_l_told ["_law_cells", "_law_letters"] (defScope s_l_told) := ⟨rfl, rfl, rfl, by decide +kernel, rfl, by decide +kernel, by decide +kernel⟩
section
variable {P : Program} {w : World} {K : PySem.W.Frag} {mg : Str → Option Value} {base : Heap} {f : Addr} {fd : FuncData}
/-- rows told: good nothings -/
structure Nths (n : Nat) (nss : List (List Int)) : Prop where
  good : ∀ ns ∈ nss, ns.length = n ∧ Near ns
  m16 : nss.length ≤ 16
def spTold (K : PySem.W.Frag) : Sp := fun vs H Q _ => ∃ (a : Addr) (cs : List Int) (n : Nat), vs = [.ref a, .int (n : Int)] ∧ SqL K H a (cs.map V.int) ∧ cs.length ≤ 1000 ∧ n ≤ 6 ∧
  ∀ p qs nss H', H p = none → Ex H H' → H' p = some (.lst (qs.map V.ref)) → RowsL H' qs nss → Nths n nss → (∀ q ∈ qs, H q = none ∧ q ≠ p) → Q (.ref p) H'
theorem ok_l_told (F : FnP K "_law_told" "_law_told" s_l_told f fd) (B : Bi mg) (D_l_mixed : Df P w K mg base CX0 1 "_law_mixed" ["_law_cell", "_law_k"] spMixed) (D_l_nothing : Df P w K mg base CX0 3 "_law_nothing" ["_law_cell", "_law_letters", "_law_told_here"] spNothing) : FnOk P w K mg base CX0 4 f fd ["_law_cells", "_law_letters"] (spTold K) := by
  refine F.ok sc_l_told (fun vs H Q E h => ?_) (fun cdv A outer s H vs Q E hr h => ⟨_, PSs.nox
   (pss_cons (ps_set (i := 2) sc_l_told.nd rfl (Or.inl rfl) (pe_lst pa_nil))
      (pss_cons (ps_for PassesOwn.never rfl (pi_enum rfl B.enumerate_ (pa_cons (pe_slice sl_list (pv 0) po_none (po_some pe_int)) pa_nil)) (pg_tup rfl (pgs_cons (pg_name (i := 3) sc_l_told.nd rfl (Or.inl rfl)) (pgs_cons (pg_name (i := 4) sc_l_told.nd rfl (Or.inl rfl)) pgs_nil)))
      (pss_one (ps_expr (pe_bm PySem.F.plainAttrs_list PySem.F.slot_list_append PySem.F.type_list_append mt_append (pv 2) (pa_cons (pe_df D_l_nothing (hr.mono (by decide)) (pa_cons (pe_df D_l_mixed (hr.mono (by decide)) (pa_cons (pv 4) (pa_cons (pe_op op_add pe_int (pv 3)) pa_nil))) (pa_cons (pv 1) (pa_cons (pv 2) pa_nil)))) pa_nil)))))
      (pss_one (ps_ret (pv 2))))), ?_⟩)
  · obtain ⟨a, cs, n, rfl, _⟩ := h
    rfl
  · obtain ⟨a, cs, n, rfl, ha, hl, hn, k⟩ := h
    simp only [cxK]
    refine ⟨Evl.sz_of (by simp), fun pf hpf => ?_⟩
    have e0 := ev_up (o := .lst []) hpf
    have hp0 : upd H pf (.lst []) pf = some (.lst []) := upd_same
    generalize upd H pf (.lst []) = H0 at e0 hp0 ⊢
    refine ⟨_, rfl, _, rfl, a, _, rfl, Evl.ex_l e0 ha, fun c hc => ?_⟩
    have e1 := ev_up (o := .lst (cutV (cs.map V.int) none (some 16))) hc
    have ecut : cutV (cs.map V.int) none (some 16) = (cs.take 16).map V.int := by
      have := cut_to (cs.map V.int) 16
      rw [List.map_take]
      exact this
    rw [ecut] at e1 ⊢
    have hc1 : upd H0 c (.lst ((cs.take 16).map V.int)) c = some (.lst ((cs.take 16).map V.int)) := upd_same
    have hp1 := e1 _ _ hp0
    have cpf : c ≠ pf := fun z => by rw [z, hp0] at hc; cases hc
    generalize upd H0 c (.lst ((cs.take 16).map V.int)) = H1 at e1 hc1 hp1 ⊢
    have tl : (cs.take 16).length ≤ 16 := by rw [List.length_take]; omega
    refine ⟨c, _, rfl, Evl.sq_of hc1, for_enum (xs := (cs.take 16).map V.int) (fun i σ' H' => ∃ (qs : List Addr) (nss : List (List Int)) (y3 y4 : Option V), σ' = [some (.ref a), some (.int (n : Int)), some (.ref pf), y3, y4] ∧ Ex H H' ∧ H' c = some (.lst ((cs.take 16).map V.int)) ∧ H' pf = some (.lst (qs.map V.ref)) ∧ RowsL H' qs nss ∧ (∀ ns ∈ nss, ns.length = n ∧ Near ns) ∧ nss.length = i ∧ ∀ q ∈ qs, H q = none ∧ q ≠ pf)
      ⟨[], [], none, none, rfl, e0.trans e1, hc1, hp1, trivial, fun ns h => (nomatch h), rfl, fun q h => (nomatch h)⟩ (fun i σ' H' _ ⟨_, _, _, _, _, _, h, _⟩ => Evl.sq_of h) ?_ ?_⟩
    · rintro i v σ' H' T hv ⟨qs, nss, y3, y4, rfl, eH, hcH, hpH, hR, hg, hi, hq⟩ hT
      rw [List.getElem?_map] at hv
      cases hv2 : (cs.take 16)[i]? with
      | none => rw [hv2] at hv; cases hv
      | some cell =>
        rw [hv2] at hv
        cases hv
        have hi16 : i < (cs.take 16).length := (List.getElem?_eq_some_iff.mp hv2).1
        have eT := ev_up (o := .tup [.int (i : Nat), .int cell]) hT
        refine ⟨T, _, rfl, Evl.st_of upd_same, rfl, _, _, rfl, _, _, rfl, rfl, ?_⟩
        have hc2 := eT _ _ hcH
        have hp2 := eT _ _ hpH
        have hR2 := hR.ex eT
        have eH2 := eH.trans eT
        generalize upd H' T (.tup [.int (i : Nat), .int cell]) = H2 at eT hc2 hp2 hR2 eH2 ⊢
        have rl := hR2.len
        refine ⟨_, rfl, Or.inl ⟨rfl, _, Or.inl (Or.inl hp2)⟩, ?_⟩
        refine ⟨_, rfl, _, rfl, _, _, rfl, rfl, cell, 40 + (i : Int), rfl, by omega, by omega, fun m m0 m1 _ => ?_⟩
        refine ⟨_, rfl, _, rfl, m, n, pf, qs, nss, rfl, hn, hp2, hR2, by omega, hg, fun r ns H3 hr e3 h3 hnl hnn => ?_⟩
        have rpf : r ≠ pf := fun z => by rw [z, hp2] at hr; cases hr
        have hp3 := e3 _ _ hp2
        refine ⟨pf, _, .ref r, rfl, rfl, hp3, Evl.sz_lt (by rw [List.length_map]; omega), ?_⟩
        have hH : H pf = none := Evl.fresh_back (Ex.refl H) hpf
        refine ⟨qs ++ [r], nss ++ [ns], _, _, rfl, Evl.Ex.mut (eH2.trans e3) hH, by rw [upd_ne cpf]; exact e3 _ _ hc2, by rw [upd_same, List.map_append]; rfl, ?_, ?_, by rw [List.length_append, hi]; rfl, ?_⟩
        · refine RowsL.app ?_ ((hR2.ex e3).upd fun q hq' => (hq q hq').2)
          exact ⟨by rw [upd_ne rpf]; exact h3, trivial⟩
        · intro ms hms
          rcases List.mem_append.mp hms with h | h
          · exact hg ms h
          · rw [List.mem_singleton.mp h]; exact ⟨hnl, hnn⟩
        · intro q hq'
          rcases List.mem_append.mp hq' with h | h
          · exact hq q h
          · rw [List.mem_singleton.mp h]; exact ⟨Evl.fresh_back eH2 hr, rpf⟩
    · rintro σ' H' ⟨qs, nss, y3, y4, rfl, eH, hcH, hpH, hR, hg, hi, hq⟩
      rw [List.length_map] at hi
      exact ⟨_, rfl, k pf qs nss H' hpf eH hpH hR ⟨hg, by omega⟩ hq⟩
end
end Sr
/-! # Y1 -/
namespace Sr
open PySem PySem.Spec PyProof.Rows L2
open TL (tl numL)
open Evl (Ex Ev EvL EvU EvT EvA RetL RetV)
abbrev s_letters_line : Stmt := topS 35
abbrev n_letters_line : List Str := ["letters"]
theorem sc_letters_line : FnScope n_letters_line ["letters"] (defScope s_letters_line) := ⟨rfl, rfl, rfl, by decide +kernel, rfl, by decide +kernel, by decide +kernel⟩
abbrev s_letters_of : Stmt := topS 36
abbrev n_letters_of : List Str := ["line", "letters"]
theorem sc_letters_of : FnScope n_letters_of ["line"] (defScope s_letters_of) := ⟨rfl, rfl, rfl, by decide +kernel, rfl, by decide +kernel, by decide +kernel⟩
abbrev s_number_of : Stmt := topS 37
abbrev n_number_of : List Str := ["word", "figures", "number"]
theorem sc_number_of : FnScope n_number_of ["word"] (defScope s_number_of) := ⟨rfl, rfl, rfl, by decide +kernel, rfl, by decide +kernel, by decide +kernel⟩
abbrev s_row_of : Stmt := topS 38
abbrev n_row_of : List Str := ["line", "letters", "words", "row", "word"]
theorem sc_row_of : FnScope n_row_of ["line", "letters"] (defScope s_row_of) := ⟨rfl, rfl, rfl, by decide +kernel, rfl, by decide +kernel, by decide +kernel⟩
abbrev s_room_of : Stmt := topS 39
abbrev n_room_of : List Str := ["text", "lines", "letters", "rows", "at", "line", "row"]
theorem sc_room_of : FnScope n_room_of ["text"] (defScope s_room_of) := ⟨rfl, rfl, rfl, by decide +kernel, rfl, by decide +kernel, by decide +kernel⟩
section
variable {P : Program} {w : World} {K : PySem.W.Frag} {mg : Str → Option Value} {base : Heap} {f : Addr} {fd : FuncData}
theorem boot_absS : bootBuiltins "abs" = some (.builtin "abs") := by rfl
theorem boot_strS : bootBuiltins "str" = some (.type "str") := by rfl
theorem log_ok {n : Nat} (h : n ≤ 1000000000000) : n.log2 < 1920 := by
  by_cases h0 : n = 0
  · rw [h0]; decide
  · exact (Nat.log2_lt h0).mpr (Nat.lt_of_le_of_lt h (by decide))
theorem log_ok13 {n : Nat} (h : n < 10 ^ 13) : n.log2 < 1920 := by
  by_cases h0 : n = 0
  · rw [h0]; decide
  · exact (Nat.log2_lt h0).mpr (Nat.lt_trans h (by decide))
theorem sum_le {B : Nat} : ∀ {l : List Nat}, (∀ x ∈ l, x ≤ B) → l.sum ≤ l.length * B
  | [], _ => Nat.zero_le _
  | a :: l, h => by
    have h1 := h a (List.mem_cons_self ..)
    have h2 := sum_le fun x hx => h x (List.mem_cons_of_mem _ hx)
    rw [List.sum_cons, List.length_cons, Nat.succ_mul]
    omega
def spLine : Sp := fun vs H Q _ => ∃ n : Nat, vs = [.int (n : Int)] ∧ n ≤ 6 ∧ Q (.str (LN n)) H
theorem ok_letters_line (F : FnP K "letters_line" "letters_line" s_letters_line f fd) : FnOk P w K mg base CX0 1 f fd ["letters"] spLine := by
  refine F.ok sc_letters_line (fun vs H Q E h => ?_) (fun cdv A outer s H vs Q E hr h => ⟨_, PSs.nox
   (pss_one (ps_ret (pe_joined (PJ.cons pe_str (PJ.cons (pe_fmt (pv 0)) PJ.nil))))), ?_⟩)
  · obtain ⟨n, rfl, _⟩ := h
    rfl
  · obtain ⟨n, rfl, hn, k⟩ := h
    refine ⟨_, rfl, by decide, _, rfl, .inr ⟨(n : Int), rfl, log_ok (by omega), _, rfl, ?_, ?_⟩⟩
    · rw [Str.length_append, Str.length_append]
      have := istr_len (i := (n : Int)) (by omega)
      exact Nat.le_trans (Nat.add_le_add_left this _) (by decide)
    · have e : (Str.empty ++ ("letters " : Str)) ++ istr (n : Int) = LN n := TL.ext_tl (by rw [TL.tl_append, TL.tl_append]; unfold LN; rw [TL.tl_append]; rfl)
      rw [← e] at k
      exact k
def optN : Option Nat → V
  | none => .non
  | some n => .int (n : Int)
def optI : Option Int → V
  | none => .non
  | some i => .int i
def spLettersOf : Sp := fun vs H Q _ => ∃ x : Str, vs = [.str x] ∧ Q (optN (lettersW x)) H
theorem ok_letters_of (F : FnP K "letters_of" "letters_of" s_letters_of f fd) (B : Bi mg) (T_MOST_LETTERS : Ci mg "MOST_LETTERS" 6) (D_letters_line : Df P w K mg base CX0 1 "letters_line" ["letters"] spLine) : FnOk P w K mg base CX0 2 f fd ["line"] spLettersOf := by
  refine F.ok sc_letters_of (fun vs H Q E h => ?_) (fun cdv A outer s H vs Q E hr h => ⟨_, PSs.nox
   (pss_cons (ps_for PassesOwn.never rfl (pi_range1 rfl B.range_ (pa_cons (pe_op op_add (pe_ci rfl T_MOST_LETTERS) pe_int) pa_nil)) (pg_name (i := 1) sc_letters_of.nd rfl (Or.inl rfl))
      (pss_one (ps_if (pt_cmpR op_eq (pv 0) (pe_df D_letters_line (hr.mono (by decide)) (pa_cons (pv 1) pa_nil)) (nomark _))
        (pss_one (ps_ret (pv 1)))
        pss_nil)))
      (pss_one (ps_ret pe_non))), ?_⟩)
  · obtain ⟨x, rfl, _⟩ := h
    rfl
  · obtain ⟨x, rfl, k⟩ := h
    refine ⟨_, _, rfl, rfl, 7, rfl, by decide, by decide, ?_⟩
    refine for_range (n := 7) (fun i σ' H' => (∃ y : Option V, σ' = [some (.str x), y]) ∧ H' = H ∧ ∀ j : Nat, j < i → x ≠ LN (j : Int)) ⟨⟨_, rfl⟩, rfl, fun j h => nomatch h⟩ ?_ ?_
    · rintro i σ' H' hi ⟨⟨y, rfl⟩, rfl, hin⟩
      have ez : (0 : Int) + (i : Int) = (i : Int) := Int.zero_add _
      rw [ez]
      refine ⟨_, rfl, _, rfl, i, rfl, by omega, rfl, _, rfl, iteB (fun hb => ?_) (fun hb => ?_)⟩
      · have e := V.str.inj (of_decide_eq_true hb)
        rw [e, lettersW_some (by omega)] at k
        exact ⟨_, rfl, k⟩
      · refine ⟨⟨_, rfl⟩, rfl, fun j hj => ?_⟩
        by_cases h : j = i
        · subst h
          intro z
          rw [z] at hb
          simp at hb
        · exact hin j (by omega)
    · rintro σ' H' ⟨⟨y, rfl⟩, rfl, hin⟩
      have e : lettersW x = none := List.find?_eq_none.mpr fun j hj => by
        have := hin j (List.mem_range.mp hj)
        simp [this]
      rw [e] at k
      exact k
theorem len13 : (istr 1000000000000).length = 13 := by decide +kernel
def spNumberOf : Sp := fun vs H Q _ => ∃ w : Str, vs = [.str w] ∧ w.length ≤ 4000 ∧ Q (optI (numW w)) H
theorem ok_number_of {P : Program} {wo : World} {K : PySem.W.Frag} {mg : Str → Option Value} {base : Heap} {f : Addr} {fd : FuncData} (F : FnP K "number_of" "number_of" s_number_of f fd) (B : Bi mg) (B_abs : mg "abs" = none) (T_FURTHEST : Ci mg "FURTHEST" 1000000000000) : FnOk P wo K mg base CX0 1 f fd ["word"] spNumberOf := by
  refine F.ok sc_number_of (fun vs H Q E h => ?_) (fun cdv A outer s H vs Q E hr h => ⟨_, PSs.nox
   (pss_cons (ps_set (i := 1) sc_number_of.nd rfl (Or.inl rfl) (pe_ifExp (pt_val (pe_m1 PySem.F.slot_str_startswith PySem.F.type_str_startswith mt_startswith (pv 0) pe_str rfl rfl rfl)) (pe_slice sl_str (pv 0) (po_some pe_int) po_none) (pv 0)))
      (pss_cons (ps_if (PW.pt (pw_or (pt_not (pt_val (pe_m0 PySem.F.slot_str_isascii PySem.F.type_str_isascii mt_isascii (pv 1) rfl rfl))) (pw_or (pt_not (pt_val (pe_m0 PySem.F.slot_str_isdigit PySem.F.type_str_isdigit mt_isdigit (pv 1) rfl rfl))) (pw_or1 (pt_cmpR op_gt (pe_callB call_len_str rfl B.len_ boot_len (pa_cons (pv 1) pa_nil)) (pe_callB call_len_str rfl B.len_ boot_len (pa_cons (pe_callTy call_str_int rfl B.str_ boot_str (pa_cons (pe_ci rfl T_FURTHEST) pa_nil)) pa_nil)) (nomark _))))))
      (pss_one (ps_ret pe_non))
      pss_nil)
      (pss_cons (ps_set (i := 2) sc_number_of.nd rfl (Or.inl rfl) (pe_callTy call_int_str rfl B.int_ boot_int (pa_cons (pv 0) pa_nil)))
      (pss_one (ps_ret (pe_ifExp (PW.pt (pw_and (pt_cmpR op_eq (pe_callTy call_str_int rfl B.str_ boot_str (pa_cons (pv 2) pa_nil)) (pv 0) (nomark _)) (pw_and1 (pt_cmpR op_le (pe_callB call_abs rfl B_abs boot_absS (pa_cons (pv 2) pa_nil)) (pe_ci rfl T_FURTHEST) (nomark _))))) (pv 2) pe_non)))))), ?_⟩)
  · obtain ⟨i, rfl, _⟩ := h
    rfl
  · obtain ⟨w, rfl, hw, k⟩ := h
    have nn : (!(figL (tl w)).isEmpty && (figL (tl w)).all isD) = false → numW w = none := fun h => by
      unfold numW
      rw [goodL_eq, h]
      rfl
    have nl : ¬ (figL (tl w)).length ≤ 13 → numW w = none := fun h => by
      unfold numW
      rw [goodL_eq, decide_eq_false h, Bool.and_false]
      rfl
    have lw := TL.len_tl w
    refine ⟨_, rfl, ⟨_, rfl⟩, _, _, rfl, rfl, _, rfl, ?_⟩
    rw [starts_any]
    by_cases hn : (tl w).head? = some 45
    · rw [decide_eq_true hn]
      refine ifT rfl ⟨_, rfl, _, rfl, _, rfl, Evl.sz_of (by omega), ?_⟩
      have hF : tl (cutS w (some 1) none) = figL (tl w) := by
        rw [tl_cut1]
        unfold figL
        rw [if_pos hn]
      have hl : (cutS w (some 1) none).length ≤ w.length := cutS_length _ _ _
      generalize cutS w (some 1) none = F at hF hl ⊢
      refine ⟨_, rfl, ⟨_, rfl⟩, _, rfl, rfl, trivial, _, rfl, ?_⟩
      have hA := asc_dig F
      rw [hF] at hA
      have lF := TL.len_tl F
      rw [hF] at lF
      cases h1 : Txt.isascii F with
      | false =>
        rw [h1] at hA
        refine ifT rfl ?_
        rw [nn (by rw [← hA]; rfl)] at k
        exact k
      | true =>
        refine ifF rfl ⟨_, rfl, ⟨_, rfl⟩, _, rfl, rfl, trivial, _, rfl, ?_⟩
        cases h2 : Txt.isdigit F with
        | false =>
          rw [h1, h2] at hA
          refine ifT rfl ?_
          rw [nn (by rw [← hA]; rfl)] at k
          exact k
        | true =>
          rw [h1, h2] at hA
          have h0 : (!(figL (tl w)).isEmpty && (figL (tl w)).all isD) = true := hA.symm
          refine ifF rfl ⟨_, rfl, _, rfl, Evl.sz_of (by omega), _, rfl, by decide, _, rfl, Evl.sz_of (by decide +kernel), _, _, rfl, rfl, _, rfl, iteB (fun hb => ?_) (fun hb => ?_)⟩
          · have hb2 := of_decide_eq_true hb
            rw [len13, lF] at hb2
            rw [nl (by omega)] at k
            exact k
          · have hb2 := of_decide_eq_false hb
            rw [len13, lF] at hb2
            have l13 : (figL (tl w)).length ≤ 13 := by omega
            obtain ⟨w1, w2, w3⟩ := word_int h0 l13
            have back := word_back h0
            refine ⟨_, rfl, _, _, rfl, w1, by omega, ?_⟩
            refine ⟨_, rfl, _, rfl, log_ok13 w3, _, rfl, rfl, _, rfl, ?_⟩
            have es : decide (V.str (istr (valL (tl w))) = V.str w) = decide (istr (valL (tl w)) = w) := by simp
            have kk : numW w = if (decide (istr (valL (tl w)) = w) && decide ((valL (tl w)).natAbs ≤ 1000000000000)) = true then some (valL (tl w)) else none := by
              unfold numW
              rw [goodL_eq, h0, decide_eq_true l13, back, val_abs]
              rfl
            by_cases hs : istr (valL (tl w)) = w
            · refine ifT (es.trans (decide_eq_true hs)) ?_
              refine ⟨_, rfl, _, rfl, _, _, rfl, rfl, _, rfl, iteB (fun hc => ?_) (fun hc => ?_)⟩
              · have hc2 : (valL (tl w)).natAbs ≤ 1000000000000 := by
                  have := of_decide_eq_true hc
                  split at this <;> omega
                rw [kk, if_pos (by rw [decide_eq_true hs, decide_eq_true hc2]; rfl)] at k
                exact ⟨_, rfl, k⟩
              · have hc2 : ¬ (valL (tl w)).natAbs ≤ 1000000000000 := by
                  have := of_decide_eq_false hc
                  split at this <;> omega
                rw [kk, if_neg (by rw [decide_eq_true hs, decide_eq_false hc2]; exact Bool.false_ne_true)] at k
                exact k
            · refine ifF (es.trans (decide_eq_false hs)) ?_
              rw [kk, if_neg (by rw [decide_eq_false hs]; exact Bool.false_ne_true)] at k
              exact k
    · rw [decide_eq_false hn]
      refine ifF rfl ⟨_, rfl, ?_⟩
      have hF : tl w = figL (tl w) := by
        unfold figL
        rw [if_neg hn]
      refine ⟨_, rfl, ⟨_, rfl⟩, _, rfl, rfl, trivial, _, rfl, ?_⟩
      have hA := asc_dig w
      rw [hF] at hA
      have lF := TL.len_tl w
      rw [hF] at lF
      cases h1 : Txt.isascii w with
      | false =>
        rw [h1] at hA
        refine ifT rfl ?_
        rw [nn (by rw [← hA]; rfl)] at k
        exact k
      | true =>
        refine ifF rfl ⟨_, rfl, ⟨_, rfl⟩, _, rfl, rfl, trivial, _, rfl, ?_⟩
        cases h2 : Txt.isdigit w with
        | false =>
          rw [h1, h2] at hA
          refine ifT rfl ?_
          rw [nn (by rw [← hA]; rfl)] at k
          exact k
        | true =>
          rw [h1, h2] at hA
          have h0 : (!(figL (tl w)).isEmpty && (figL (tl w)).all isD) = true := hA.symm
          refine ifF rfl ⟨_, rfl, _, rfl, Evl.sz_of (by omega), _, rfl, by decide, _, rfl, Evl.sz_of (by decide +kernel), _, _, rfl, rfl, _, rfl, iteB (fun hb => ?_) (fun hb => ?_)⟩
          · have hb2 := of_decide_eq_true hb
            rw [len13, lF] at hb2
            rw [nl (by omega)] at k
            exact k
          · have hb2 := of_decide_eq_false hb
            rw [len13, lF] at hb2
            have l13 : (figL (tl w)).length ≤ 13 := by omega
            obtain ⟨w1, w2, w3⟩ := word_int h0 l13
            have back := word_back h0
            refine ⟨_, rfl, _, _, rfl, w1, by omega, ?_⟩
            refine ⟨_, rfl, _, rfl, log_ok13 w3, _, rfl, rfl, _, rfl, ?_⟩
            have es : decide (V.str (istr (valL (tl w))) = V.str w) = decide (istr (valL (tl w)) = w) := by simp
            have kk : numW w = if (decide (istr (valL (tl w)) = w) && decide ((valL (tl w)).natAbs ≤ 1000000000000)) = true then some (valL (tl w)) else none := by
              unfold numW
              rw [goodL_eq, h0, decide_eq_true l13, back, val_abs]
              rfl
            by_cases hs : istr (valL (tl w)) = w
            · refine ifT (es.trans (decide_eq_true hs)) ?_
              refine ⟨_, rfl, _, rfl, _, _, rfl, rfl, _, rfl, iteB (fun hc => ?_) (fun hc => ?_)⟩
              · have hc2 : (valL (tl w)).natAbs ≤ 1000000000000 := by
                  have := of_decide_eq_true hc
                  split at this <;> omega
                rw [kk, if_pos (by rw [decide_eq_true hs, decide_eq_true hc2]; rfl)] at k
                exact ⟨_, rfl, k⟩
              · have hc2 : ¬ (valL (tl w)).natAbs ≤ 1000000000000 := by
                  have := of_decide_eq_false hc
                  split at this <;> omega
                rw [kk, if_neg (by rw [decide_eq_true hs, decide_eq_false hc2]; exact Bool.false_ne_true)] at k
                exact k
            · refine ifF (es.trans (decide_eq_false hs)) ?_
              rw [kk, if_neg (by rw [decide_eq_false hs]; exact Bool.false_ne_true)] at k
              exact k
end
end Sr
/-! # Y2 -/
namespace Sr
open PySem PySem.Spec PyProof.Rows L2
open TL (tl numL)
open Evl (Ex Ev EvL EvU EvT EvA RetL RetV)
section
variable {P : Program} {w : World} {K : PySem.W.Frag} {mg : Str → Option Value} {base : Heap} {f : Addr} {fd : FuncData}
theorem vals_range {ws : List Str} : (List.range (ws.map V.str).length).map (fun i => optI (numW (ws.getD i Str.empty))) = ws.map fun w => optI (numW w) := by
  rw [List.length_map]
  apply List.ext_getElem?
  intro i
  rw [List.getElem?_map, List.getElem?_map]
  by_cases hi : i < ws.length
  · rw [List.getElem?_range hi, List.getElem?_eq_getElem hi]
    simp [List.getD_eq_getElem?_getD, List.getElem?_eq_getElem hi]
  · rw [List.getElem?_eq_none (by simpa using hi), List.getElem?_eq_none (by omega)]
    rfl
/-- None is among them, or they are all numbers -/
theorem vals_cases : ∀ ws : List Str, (inV V.non (ws.map fun w => optI (numW w)) = true ∧ ws.mapM numW = none) ∨ (inV V.non (ws.map fun w => optI (numW w)) = false ∧ ∃ ns, ws.mapM numW = some ns ∧ ws.map (fun w => optI (numW w)) = ns.map V.int)
  | [] => .inr ⟨rfl, [], rfl, rfl⟩
  | w :: ws => by
    have ih := vals_cases ws
    have e : inV V.non ((w :: ws).map fun w => optI (numW w)) = (eqV (optI (numW w)) V.non || inV V.non (ws.map fun w => optI (numW w))) := by
      unfold inV
      rw [List.map_cons, List.any_cons]
    rw [e, List.mapM_cons]
    cases h1 : numW w with
    | none => exact .inl ⟨rfl, rfl⟩
    | some i =>
      rcases ih with ⟨a, b⟩ | ⟨a, ns, b, c⟩
      · refine .inl ⟨by rw [a, Bool.or_true], ?_⟩
        rw [b]
        rfl
      · refine .inr ⟨by rw [a]; rfl, i :: ns, by rw [b]; rfl, ?_⟩
        rw [List.map_cons, c, h1]
        rfl
def spRowOf : Sp := fun vs H Q _ => ∃ (l : Str) (n : Nat), vs = [.str l, .int (n : Int)] ∧ l.length ≤ 4000 ∧ (rowW l n = none → ∀ H', Ex H H' → Q .non H') ∧ ∀ ns, rowW l n = some ns → ∀ r H', H r = none → Ex H H' → H' r = some (.lst (ns.map V.int)) → Q (.ref r) H'
theorem sp_many {l : Str} : (Txt.split l (" " : Str)).length ≤ l.length + 2 := PyProof.Rows.split_le l _
theorem ok_row_of (F : FnP K "row_of" "row_of" s_row_of f fd) (B : Bi mg) (D_number_of : Df P w K mg base CX0 1 "number_of" ["word"] spNumberOf) : FnOk P w K mg base CX0 2 f fd ["line", "letters"] spRowOf := by
  refine F.ok sc_row_of (fun vs H Q E h => ?_) (fun cdv A outer s H vs Q E hr h => ⟨_, PSs.nox
   (pss_cons (ps_set (i := 2) sc_row_of.nd rfl (Or.inl rfl) (pe_split (pv 0) pe_str))
      (pss_cons (ps_if (PW.pt (pw_or (pt_cmpR op_ne (pe_ix ix_list (pv 2) pe_int (fun _ _ => rfl)) pe_str (nomark _)) (pw_or1 (pt_cmpR op_ne (pe_callB call_len_seq rfl B.len_ boot_len (pa_cons (pv 2) pa_nil)) (pe_op op_add (pv 1) pe_int) (nomark _)))))
      (pss_one (ps_ret pe_non))
      pss_nil)
      (pss_cons (ps_setLc (i := 3) (own := [("word", 4)]) (g := gName 4) (tt := tYes) rfl sc_row_of.nd rfl rfl (sw_true rfl rfl rfl (by decide +kernel)) (pi_list (pe_slice sl_list (pv 2) (po_some pe_int) po_none)) (blkOk_by (N := n_row_of) (sc := defScope s_row_of) (by decide +kernel)) (fun _ _ _ _ _ => (pg_name (i := 4) sc_row_of.nd rfl (Or.inl rfl))) (fun _ _ _ _ _ => pts_nil) (fun _ _ _ _ _ => (pe_df D_number_of (hr.mono (by decide)) (pa_cons (pv 4) pa_nil))))
      (pss_one (ps_ret (pe_ifExp (pt_cmpR op_notIn_seq pe_non (pv 3) rfl) (pv 3) pe_non)))))), ?_⟩)
  · obtain ⟨l, n, rfl, _⟩ := h
    rfl
  · obtain ⟨l, n, rfl, hl, k1, k2⟩ := h
    have hm := sp_many (l := l)
    have hlen : ∀ p ∈ Txt.split l (" " : Str), p.length ≤ 4000 := fun p hp => Nat.le_trans (sp_len hp) hl
    have hne := sp_ne l
    unfold rowW at k1 k2
    refine ⟨_, rfl, ⟨_, rfl⟩, _, _, rfl, rfl, by decide, Evl.sz_of (by omega), ?_⟩
    generalize Txt.split l (" " : Str) = wss at hm hlen hne k1 k2 ⊢
    cases wss with
    | nil => exact absurd rfl hne
    | cons w0 ws =>
      intro p hp
      have e1 := ev_up (o := .lst ((w0 :: ws).map V.str)) hp
      have hp1 : upd H p (.lst ((w0 :: ws).map V.str)) p = some (.lst ((w0 :: ws).map V.str)) := upd_same
      generalize upd H p (.lst ((w0 :: ws).map V.str)) = H1 at e1 hp1 ⊢
      dsimp only at k1 k2
      rw [List.length_cons] at hm
      refine ⟨_, rfl, p, _, _, V.str w0, rfl, rfl, Evl.sq_of hp1, atI_nat (j := 0) rfl, rfl, _, rfl, ?_⟩
      by_cases hw : w0 = ("nothing" : Str)
      · refine ifF (by simp [hw]) ?_
        refine ⟨_, rfl, p, _, rfl, .inl (Evl.sq_of hp1), _, rfl, _, _, rfl, rfl, rfl, _, rfl, ?_⟩
        by_cases hn : ws.length = n
        · have hcc : w0 = ("nothing" : Str) ∧ ws.length = n := ⟨hw, hn⟩
          rw [if_pos hcc] at k1 k2
          refine ifF (by simp [hn]) ?_
          refine ⟨_, rfl, _, rfl, p, _, rfl, Evl.sq_of hp1, fun c hc => ?_⟩
          have ec : cutV ((w0 :: ws).map V.str) (some 1) none = ws.map V.str := cut_from _ 1
          rw [ec]
          have e2 := ev_up (o := .lst (ws.map V.str)) hc
          have hc1 : upd H1 c (.lst (ws.map V.str)) c = some (.lst (ws.map V.str)) := upd_same
          generalize upd H1 c (.lst (ws.map V.str)) = H2 at e2 hc1 ⊢
          refine ⟨c, rfl, ⟨_, Evl.sq_of hc1⟩, fun D hD => ?_⟩
          refine lcLD (K := K) (a := c) (xs := ws.map V.str) (fun i => optI (numW (ws.getD i Str.empty))) hD (Evl.sq_of hc1) (by rw [List.length_map]; omega) (fun x => rfl) (fun i y H7 e7 hy => ?_) fun H3 e3 hD3 => ?_
          · rw [List.getElem?_map] at hy
            cases hy2 : ws[i]? with
            | none => rw [hy2] at hy; cases hy
            | some y1 =>
              rw [hy2] at hy
              cases hy
              intro H8 e8 Q2 q2
              refine ⟨_, rfl, y1, rfl, hlen y1 (List.mem_cons_of_mem _ (List.mem_of_getElem? hy2)), q2 _ H8 (Ex.refl H8) ?_⟩
              rw [List.getD_eq_getElem?_getD, hy2]
              rfl
          rw [vals_range] at hD3
          have hf : ((ws.map fun w => optI (numW w)).all flatV) = true := List.all_eq_true.mpr fun x hx => by
            obtain ⟨i, _, rfl⟩ := List.mem_map.mp hx
            cases numW i <;> rfl
          refine ⟨_, rfl, D, _, rfl, .inl (Evl.sq_of hD3), rfl, hf, _, rfl, ?_⟩
          rcases vals_cases ws with ⟨a, b⟩ | ⟨a, ns, b, c⟩
          · exact ifF (by rw [a]; rfl) (k1 b _ ((e1.trans e2).trans e3))
          · refine ifT (by rw [a]; rfl) ⟨_, rfl, k2 ns b D H3 (Evl.fresh_back (e1.trans e2) hD) ((e1.trans e2).trans e3) ?_⟩
            rw [← c]
            exact hD3
        · refine ifT (by simp; omega) ?_
          exact k1 (if_neg fun z => hn z.2) _ e1
      · refine ifT (by simp [hw]) ?_
        exact k1 (if_neg fun z => hw z.1) _ e1
end
end Sr
/-! # Y3 -/
namespace Sr
open PySem PySem.Spec PyProof.Rows L2
open TL (tl numL)
open Evl (Ex Ev EvL EvU EvT EvA RetL RetV)
structure RmMk (P : Program) (w : World) (K : PySem.W.Frag) (mg : Str → Option Value) (base : Heap) (C : Addr) : Prop where
  ex : ∃ f fd, Mk K C f ∧ FnOk P w K mg base CX0 5 f fd ["self", "letters", "nothings"] (spRInit C) ∧ Binds K fd ["self", "letters", "nothings"] []
  g : mg "Room" = some (.ref C)
/-- a room that has never been asked -/
structure RmB (H : Hp) (C x : Addr) (n : Nat) (ln : Addr) (nss : List (List Int)) : Prop where
  obj : ∃ dx, H x = some (.ins C dx (fsR n ln .non))
  nth : RwA H ln nss
  n6 : n ≤ 6
  m16 : nss.length ≤ 16
section
variable {P : Program} {w : World} {K : PySem.W.Frag} {mg : Str → Option Value} {base : Heap} {f : Addr} {fd : FuncData}
theorem rm_makeB {C : Addr} {n : Nat} {a : Addr} {nss : List (List Int)} {H : Hp} {Q : Addr → Hp → Prop} (hn : n ≤ 6) (hA : RwA H a nss) (hN : Nths n nss)
    (q : ∀ x ln H', Ex H H' → H x = none → H ln = none → RmB H' C x n ln nss → Q x H') :
    ∀ x dx, H x = none → H dx = none → dx ≠ x → spRInit C [.ref x, .int (n : Int), .ref a] (upd (upd H dx (.own x)) x (.ins C dx [])) (fun v H2 => v = .non ∧ Q x H2) E0 := by
  intro x dx hx hdx hne
  obtain ⟨rs, ha, hR⟩ := hA
  have e0 : Ex H (upd (upd H dx (.own x)) x (.ins C dx [])) := by
    refine (ev_up hdx).trans (ev_up ?_)
    rw [upd_ne (Ne.symm hne)]
    exact hx
  have hx0 : upd (upd H dx (.own x)) x (.ins C dx []) x = some (.ins C dx []) := upd_same
  generalize upd (upd H dx (.own x)) x (.ins C dx []) = H0 at e0 hx0 ⊢
  refine ⟨x, dx, a, n, rs, nss, rfl, hx0, hn, e0 _ _ ha, hR.ex e0, hN.good, hN.m16, fun H' ln qs fr hln ho hl hq hqn => ⟨rfl, ?_⟩⟩
  exact q x ln H' (fun b o hb => fr b o (fun z => by rw [z, hx] at hb; cases hb) (e0 _ _ hb)) hx (Evl.fresh_back e0 hln) ⟨⟨dx, ho⟩, ⟨qs, hl, hq⟩, hn, hN.m16⟩
/-- what room_of tells of a thing -/
def lineV : Nat ⊕ (Nat × List (List Int)) → V
  | .inl k => .int (k : Int)
  | .inr _ => .non
theorem readG_cons {n : Nat} {acc : List (List Int)} {k : Nat} {l : Str} {ls : List Str} : readG n acc k (l :: ls) = (match rowW l n with | none => .inl k | some ns => if acc.length = 16 then .inl k else readG n (acc ++ [ns]) (k + 1) ls) := rfl
def spRoomOf (C CT : Addr) : Sp := fun vs H Q E => ∃ v : V, vs = [v] ∧
  ((∃ T, Kd H v T ∧ T ≠ "str" ∧ ∀ d H', H d = none → Ex H H' → H' d = some (.xd [("line", .non)]) → E (.ref CT) (some d) H') ∨
    ∃ x : Str, v = .str x ∧ x.length ≤ 4000 ∧ (∀ k, readT x = .inl k → ∀ d H', H d = none → Ex H H' → H' d = some (.xd [("line", .int (k : Nat))]) → E (.ref CT) (some d) H') ∧
      ∀ n nss, readT x = .inr (n, nss) → ∀ y ln H', Ex H H' → H y = none → H ln = none → RmB H' C y n ln nss → Q (.ref y) H')
theorem nl_many {l : Str} : (Txt.split l ("\n" : Str)).length ≤ l.length + 2 := PyProof.Rows.split_le l _
theorem ok_room_of {C CT : Addr} (F : FnP K "room_of" "room_of" s_room_of f fd) (B : Bi mg) (RM : RmMk P w K mg base C) (X_BadText : XdC P w K mg base "BadText" "line" CT) (T_MOST_NOTHINGS : Ci mg "MOST_NOTHINGS" 16)
    (D_letters_of : Df P w K mg base CX0 2 "letters_of" ["line"] spLettersOf) (D_row_of : Df P w K mg base CX0 2 "row_of" ["line", "letters"] spRowOf) : FnOk P w K mg base (L2.CX P w) 7 f fd ["text"] (spRoomOf C CT) := by
  obtain ⟨fI, fdI, MK, FI, bI⟩ := RM.ex
  refine funD_okX F sc_room_of (fun vs H Q E h => ?_) (fun cdv A outer s H vs Q E hr h => ⟨_,
   (pss_cons (ps_if (pt_cmpR op_isNotTy (pe_callTy call_tyK rfl B.type_ boot_type (pa_cons (pv 0) pa_nil)) (pe_bltn (v := .ty "str") rfl B.str_ boot_str rfl) (nomark _))
      (pss_one (ps_raise rfl (takes_of rfl rfl rfl rfl) (pmk_xd X_BadText (hr.mono (by decide)) pass0 rfl (pa_cons pe_non pa_nil))))
      pss_nil)
      (pss_cons (ps_set (i := 1) sc_room_of.nd rfl (Or.inl rfl) (pe_split (pv 0) pe_str))
      (pss_cons (ps_set (i := 2) sc_room_of.nd rfl (Or.inl rfl) (pe_df D_letters_of (hr.mono (by decide)) (pa_cons (pe_ix ix_list (pv 1) pe_int (fun _ _ => rfl)) pa_nil)))
      (pss_cons (ps_if (pt_cmp (pc_isN (pv 2)))
      (pss_one (ps_raise rfl (takes_of rfl rfl rfl rfl) (pmk_xd X_BadText (hr.mono (by decide)) pass0 rfl (pa_cons pe_int pa_nil))))
      pss_nil)
      (pss_cons (ps_set (i := 3) sc_room_of.nd rfl (Or.inl rfl) (pe_lst pa_nil))
      (pss_cons (ps_for (passes_of rfl) rfl (pi_enum1 (by decide) (by decide) rfl B.enumerate_ (pa_cons (pe_slice sl_list (pv 1) (po_some pe_int) po_none) pa_nil) pe_int) (pg_tup rfl (pgs_cons (pg_name (i := 4) sc_room_of.nd rfl (Or.inl rfl)) (pgs_cons (pg_name (i := 5) sc_room_of.nd rfl (Or.inl rfl)) pgs_nil)))
      (pss_cons (ps_set (i := 6) sc_room_of.nd rfl (Or.inl rfl) (pe_df D_row_of (hr.mono (by decide)) (pa_cons (pv 5) (pa_cons (pv 2) pa_nil))))
        (pss_cons (ps_if (PW.pt (pw_or (pt_cmp (pc_isN (pv 6))) (pw_or1 (pt_cmpR op_eq (pe_callB call_len_seq rfl B.len_ boot_len (pa_cons (pv 3) pa_nil)) (pe_ci rfl T_MOST_NOTHINGS) (nomark _)))))
        (pss_one (ps_raise rfl (takes_of rfl rfl rfl rfl) (pmk_xd X_BadText (hr.mono (by decide)) pass0 rfl (pa_cons (pv 4) pa_nil))))
        pss_nil)
        (pss_one (ps_expr (pe_bm PySem.F.plainAttrs_list PySem.F.slot_list_append PySem.F.type_list_append mt_append (pv 3) (pa_cons (pv 6) pa_nil)))))))
      (pss_one (ps_ret (pe_make MK FI (hr.mono (by decide)) rfl RM.g bI .nil pass0 (pa_cons (pv 2) (pa_cons (pv 3) pa_nil))))))))))), ?_⟩)
  · obtain ⟨v, rfl, _⟩ := h
    rfl
  · obtain ⟨v, rfl, h⟩ := h
    simp only [cxK]
    rcases h with ⟨T, hk, hT, k⟩ | ⟨x, rfl, hx, k1, k2⟩
    · refine ⟨_, rfl, v, T, rfl, hk, _, _, rfl, rfl, _, rfl, ifT (by simp [hT]) ?_⟩
      exact mkO_line fun d hd => k d _ hd (ev_up hd) upd_same
    have hmany := nl_many (l := x)
    have hlen : ∀ p ∈ Txt.split x ("\n" : Str), p.length ≤ 4000 := fun p hp => Nat.le_trans (nl_len hp) hx
    have hne := nl_ne x
    unfold readT at k1 k2
    refine ⟨_, rfl, _, _, rfl, .str _, _, _, rfl, rfl, _, rfl, ifF rfl ?_⟩
    refine ⟨_, rfl, ⟨_, rfl⟩, _, _, rfl, rfl, by decide, Evl.sz_of (by omega), ?_⟩
    generalize Txt.split x ("\n" : Str) = lss at hmany hlen hne k1 k2 ⊢
    cases lss with
    | nil => exact absurd rfl hne
    | cons l0 ls =>
    intro p hp
    have e1 := ev_up (o := .lst ((l0 :: ls).map V.str)) hp
    have hp1 : upd H p (.lst ((l0 :: ls).map V.str)) p = some (.lst ((l0 :: ls).map V.str)) := upd_same
    generalize upd H p (.lst ((l0 :: ls).map V.str)) = H1 at e1 hp1 ⊢
    dsimp only at k1 k2
    rw [List.length_cons] at hmany
    refine ⟨_, rfl, p, _, _, V.str l0, rfl, rfl, Evl.sq_of hp1, atI_nat (j := 0) rfl, l0, rfl, ?_⟩
    cases hlw : lettersW l0 with
    | none =>
      rw [hlw] at k1 k2
      refine ⟨_, rfl, _, rfl, ifT rfl ?_⟩
      exact mkO_line fun d hd => k1 0 rfl d _ (Evl.fresh_back e1 hd) (e1.trans (ev_up hd)) upd_same
    | some n =>
    rw [hlw] at k1 k2
    dsimp only at k1 k2
    have hn := (lettersW_le hlw).1
    refine ⟨_, rfl, _, rfl, ifF rfl ⟨Evl.sz_of (by simp), fun R hR => ?_⟩⟩
    have e2 := ev_up (o := .lst []) hR
    have hR2 : upd H1 R (.lst []) R = some (.lst []) := upd_same
    have hp2 := e2 _ _ hp1
    generalize upd H1 R (.lst []) = H2 at e2 hR2 hp2 ⊢
    refine ⟨_, rfl, _, rfl, p, _, rfl, Evl.sq_of hp2, fun c hc => ?_⟩
    have ec : cutV ((l0 :: ls).map V.str) (some 1) none = ls.map V.str := cut_from _ 1
    rw [ec]
    have e3 := ev_up (o := .lst (ls.map V.str)) hc
    have hc3 : upd H2 c (.lst (ls.map V.str)) c = some (.lst (ls.map V.str)) := upd_same
    have hR3 := e3 _ _ hR2
    have cR : c ≠ R := fun z => by rw [z, hR2] at hc; cases hc
    generalize upd H2 c (.lst (ls.map V.str)) = H3 at e3 hc3 hR3 ⊢
    have hRH : H R = none := Evl.fresh_back e1 hR
    refine ⟨c, _, rfl, Evl.sq_of hc3, for_enum1 (xs := ls.map V.str) (fun i σ' H' => ∃ (rs : List Addr) (acc : List (List Int)) (y4 y5 y6 : Option V), σ' = [some (.str x), some (.ref p), some (.int (n : Int)), some (.ref R), y4, y5, y6] ∧ Ex H H' ∧ H' c = some (.lst (ls.map V.str)) ∧ H' R = some (.lst (rs.map V.ref)) ∧ RowsL H' rs acc ∧ (∀ q ∈ rs, q ≠ R) ∧ acc.length ≤ 16 ∧ (∀ ns ∈ acc, ns.length = n ∧ Near ns) ∧ readG n [] 1 ls = readG n acc (1 + i) (ls.drop i))
      ⟨[], [], none, none, none, rfl, (e1.trans e2).trans e3, hc3, hR3, trivial, fun q h => (nomatch h), Nat.zero_le _, fun ns h => (nomatch h), rfl⟩ (fun i σ' H' _ ⟨_, _, _, _, _, _, _, h, _⟩ => Evl.sq_of h) ?_ ?_⟩
    · rintro i v σ' H' T hv ⟨rs, acc, y4, y5, y6, rfl, eH, hcH, hRH', hRw, hq, h16, hg, hrd⟩ hT
      rw [List.getElem?_map] at hv
      cases hv2 : ls[i]? with
      | none => rw [hv2] at hv; cases hv
      | some l =>
        rw [hv2] at hv
        obtain rfl : V.str l = v := Option.some.inj hv
        have hdrop : ls.drop i = l :: ls.drop (i + 1) := by
          obtain ⟨hi, e⟩ := List.getElem?_eq_some_iff.mp hv2
          rw [List.drop_eq_getElem_cons hi, e]
        rw [hdrop] at hrd
        have eT := ev_up (o := .tup [.int (1 + (i : Nat)), .str l]) hT
        refine ⟨T, _, rfl, Evl.st_of upd_same, rfl, _, _, rfl, _, _, rfl, rfl, ?_⟩
        have hc4 := eT _ _ hcH
        have hR4 := eT _ _ hRH'
        have hRw4 := hRw.ex eT
        have eH4 := eH.trans eT
        generalize upd H' T (.tup [.int (1 + (i : Nat)), .str l]) = H4 at eT hc4 hR4 hRw4 eH4 ⊢
        have rl := hRw4.len
        have ei : (1 + (i : Int)) = ((1 + i : Nat) : Int) := by omega
        refine ⟨_, rfl, _, rfl, l, n, rfl, hlen l (List.mem_cons_of_mem _ (List.mem_of_getElem? hv2)), fun hnone H5 e5 => ?_, fun ns hns r H5 hr e5 hr5 => ?_⟩
        · rw [readG_cons] at hrd
          rw [hnone] at hrd
          refine ⟨_, rfl, _, rfl, ifT rfl ⟨_, rfl, ?_⟩⟩
          refine mkO_line fun d hd => k1 (1 + i) hrd d _ (Evl.fresh_back (eH4.trans e5) hd) ((eH4.trans e5).trans (ev_up hd)) ?_
          rw [upd_same, ei]
        · rw [readG_cons] at hrd
          rw [hns] at hrd
          dsimp only at hrd
          have hR5 := e5 _ _ hR4
          have rR : r ≠ R := fun z => by rw [z, hR4] at hr; cases hr
          refine ⟨_, rfl, _, rfl, ifF rfl ⟨_, rfl, R, _, rfl, .inl (Evl.sq_of hR5), rfl, _, rfl, ?_⟩⟩
          by_cases h6 : acc.length = 16
          · rw [if_pos h6] at hrd
            refine ifT ?_ ⟨_, rfl, ?_⟩
            · rw [List.length_map, rl, h6]
              rfl
            · refine mkO_line fun d hd => k1 (1 + i) hrd d _ (Evl.fresh_back (eH4.trans e5) hd) ((eH4.trans e5).trans (ev_up hd)) ?_
              rw [upd_same, ei]
          · rw [if_neg h6] at hrd
            refine ifF ?_ ?_
            · refine decide_eq_false fun z => ?_
              have z2 := V.int.inj z
              rw [List.length_map] at z2
              omega
            · refine ⟨_, rfl, Or.inl ⟨rfl, _, Or.inl (Or.inl hR5)⟩, _, rfl, R, _, .ref r, rfl, rfl, hR5, Evl.sz_lt (by rw [List.length_map]; omega), ?_⟩
              have near := rowW_near hns
              refine ⟨rs ++ [r], acc ++ [ns], _, _, _, rfl, Evl.Ex.mut (eH4.trans e5) hRH, by rw [upd_ne cR]; exact e5 _ _ hc4, by rw [upd_same, List.map_append]; rfl, ?_, ?_, by rw [List.length_append]; simp; omega, ?_, hrd⟩
              · refine RowsL.app ?_ ((hRw4.ex e5).upd fun q hq' => hq q hq')
                exact ⟨by rw [upd_ne rR]; exact hr5, trivial⟩
              · intro q hq'
                rcases List.mem_append.mp hq' with h | h
                · exact hq q h
                · rw [List.mem_singleton.mp h]; exact rR
              · intro ms hms
                rcases List.mem_append.mp hms with h | h
                · exact hg ms h
                · rw [List.mem_singleton.mp h]; exact near
    · rintro σ' H' ⟨rs, acc, y4, y5, y6, rfl, eH, hcH, hRH', hRw, hq, h16, hg, hrd⟩
      rw [List.length_map, List.drop_length] at hrd
      refine ⟨_, rfl, _, rfl, ?_⟩
      refine rm_makeB hn ⟨rs, hRH', hRw⟩ ⟨hg, h16⟩ fun x ln H5 e5 hx hl hM => k2 n acc hrd x ln H5 (eH.trans e5) (Evl.fresh_back eH hx) (Evl.fresh_back eH hl) hM
end
end Sr
/-! # Y4 -/
namespace Sr
open PySem PySem.Spec PyProof.Rows L2
open TL (tl numL)
open Evl (Ex Ev EvL EvU EvT EvA RetL RetV)
abbrev s_l_word : Stmt := topS 46
abbrev n_l_word : List Str := ["_law_e", "_law_found"]
theorem sc_l_word : FnScope n_l_word ["_law_e"] (defScope s_l_word) := ⟨rfl, rfl, rfl, by decide +kernel, rfl, by decide +kernel, by decide +kernel⟩
abbrev s_l_part : Stmt := topS 47
abbrev n_l_part : List Str := ["_law_word_here", "_law_figures", "_law_sign"]
theorem sc_l_part : FnScope n_l_part ["_law_word_here"] (defScope s_l_part) := ⟨rfl, rfl, rfl, by decide +kernel, rfl, by decide +kernel, by decide +kernel⟩
abbrev s_l_read : Stmt := topS 48
abbrev n_l_read : List Str := ["_law_text", "_law_lines_here", "_law_words", "_law_letters", "_law_nothings", "_law_k", "_law_parts", "_law_word_here", "_law_part_here"]
theorem sc_l_read : FnScope n_l_read ["_law_text"] (defScope s_l_read) := ⟨rfl, rfl, rfl, by decide +kernel, rfl, by decide +kernel, by decide +kernel⟩
section
variable {P : Program} {w : World} {K : PySem.W.Frag} {mg : Str → Option Value} {base : Heap} {f : Addr} {fd : FuncData}
/-! ### texts of ASCII signs -/
def Asc (x : Str) : Prop := ∀ c ∈ tl x, c < 128
theorem spl_mem (s : Nat) : ∀ (l a p : List Nat), p ∈ TL.spl [s] 0 a l → ∀ c ∈ p, c ∈ a ∨ c ∈ l
  | [], a, p, h, c, hc => by
    rw [TL.spl_nil] at h
    rw [List.mem_singleton.mp h] at hc
    exact .inl hc
  | d :: q, a, p, h, c, hc => by
    cases hq : TL.pre [s] (d :: q) with
    | true =>
      rw [TL.spl_hit hq] at h
      rcases List.mem_cons.mp h with h | h
      · rw [h] at hc; exact .inl hc
      · rcases spl_mem s q [] p h c hc with h | h
        · cases h
        · exact .inr (List.mem_cons_of_mem _ h)
    | false =>
      rw [TL.spl_miss hq] at h
      rcases spl_mem s q _ p h c hc with h | h
      · rcases List.mem_append.mp h with h | h
        · exact .inl h
        · rw [List.mem_singleton.mp h]; exact .inr (List.mem_cons_self ..)
      · exact .inr (List.mem_cons_of_mem _ h)
theorem Asc.sp {x p : Str} (h : Asc x) (hp : p ∈ Txt.split x (" " : Str)) : Asc p := fun c hc => by
  have hm : tl p ∈ TL.spl [32] 0 [] (tl x) := by rw [← sp_tl]; exact List.mem_map.mpr ⟨p, hp, rfl⟩
  rcases spl_mem 32 _ _ _ hm c hc with h1 | h1
  · cases h1
  · exact h c h1
theorem Asc.nl {x p : Str} (h : Asc x) (hp : p ∈ Txt.split x ("\n" : Str)) : Asc p := fun c hc => by
  have hm : tl p ∈ TL.spl [10] 0 [] (tl x) := by rw [← nl_tl]; exact List.mem_map.mpr ⟨p, hp, rfl⟩
  rcases spl_mem 10 _ _ _ hm c hc with h1 | h1
  · cases h1
  · exact h c h1
theorem lay_sig : ∀ l : List Nat, (∀ c ∈ l, c < 128) → PyData.canLayAll0 (l.map fun n => PyData.str ⟨#[n]⟩) = true
  | [], _ => by simp [tSeq, tAsg, tRet, tOp, tUn, tVar, tC, rI, rI0, rU, gName, L2.start, CMul, CDiv, CPow, tIfS, tTest, rEq, rNe, scal, tNext, tCall, tCons, tNil, tCB, tIf, tAnd, L2.tOr, tNot, tB, tAndV, tOrV, tNotV, tChain, tLst, tDrop, rIxH, upd_same, cxK, tIsN, sFld, tFld, Evl.rListS, PyData.canLayAll0]
  | c :: l, h => by
    have h1 := h c (List.mem_cons_self ..)
    have ih := lay_sig l fun d hd => h d (List.mem_cons_of_mem _ hd)
    rw [List.map_cons]
    show (PyData.canLay0 (PyData.str ⟨#[c]⟩) && PyData.canLayAll0 (l.map fun n => PyData.str ⟨#[n]⟩)) = true
    rw [ih, Bool.and_true]
    simp only [PyData.canLay0]
    unfold PyData.strOk
    show (#[c].all fun x => decide (x < 0x110000)) = true
    rw [← Array.all_toList]
    show (decide (c < 0x110000) && true) = true
    rw [decide_eq_true (by omega)]
    rfl
theorem dep_sig : ∀ l : List Nat, PyData.depthAll (l.map fun n => PyData.str ⟨#[n]⟩) = 0
  | [] => by simp [tSeq, tAsg, tRet, tOp, tUn, tVar, tC, rI, rI0, rU, gName, L2.start, CMul, CDiv, CPow, tIfS, tTest, rEq, rNe, scal, tNext, tCall, tCons, tNil, tCB, tIf, tAnd, L2.tOr, tNot, tB, tAndV, tOrV, tNotV, tChain, tLst, tDrop, rIxH, upd_same, cxK, tIsN, sFld, tFld, Evl.rListS, PyData.depthAll]
  | n :: ns => by simp [tSeq, tAsg, tRet, tOp, tUn, tVar, tC, rI, rI0, rU, gName, L2.start, CMul, CDiv, CPow, tIfS, tTest, rEq, rNe, scal, tNext, tCall, tCons, tNil, tCB, tIf, tAnd, L2.tOr, tNot, tB, tAndV, tOrV, tNotV, tChain, tLst, tDrop, rIxH, upd_same, cxK, tIsN, sFld, tFld, Evl.rListS, PyData.depthAll, PyData.depth, dep_sig ns]
theorem sh_sig (l : List Nat) (h : ∀ c ∈ l, c < 128) : SeqAt.shaped (.list (l.map fun n => PyData.str ⟨#[n]⟩)) = true := by
  simp [tSeq, tAsg, tRet, tOp, tUn, tVar, tC, rI, rI0, rU, gName, L2.start, CMul, CDiv, CPow, tIfS, tTest, rEq, rNe, scal, tNext, tCall, tCons, tNil, tCB, tIf, tAnd, L2.tOr, tNot, tB, tAndV, tOrV, tNotV, tChain, tLst, tDrop, rIxH, upd_same, cxK, tIsN, sFld, tFld, Evl.rListS, SeqAt.shaped, PyData.canLay0, lay_sig l h, PyData.depth, dep_sig]
theorem dp_sigs {K : PySem.W.Frag} {H : Hp} : ∀ l : List Nat, DpAll K H (l.map fun n => V.str ⟨#[n]⟩) (l.map fun n => PyData.str ⟨#[n]⟩)
  | [] => .nil
  | n :: ns => .cons (.str _) (dp_sigs ns)
/-! ### the error's word -/
section
def spWordT (K : PySem.W.Frag) (S : Addr) (cs : List Addr) : Sp := fun vs H Q _ => ∃ a D dd fs, vs = [.ref a] ∧ H a = some (ExK (.ref D) (some dd) a) ∧ H dd = some (.xd fs) ∧ Wd K S cs D 6 ∧ ∀ H', Ex H H' → Q (.str "text") H'
theorem ok_l_word {S C0 C1 C2 C3 C4 C5 C6 : Addr} (F : FnP K "_law_word" "_law_word" s_l_word f fd) (B : Bi mg) (B_ValueError : mg "ValueError" = none) (g_SumError : mg "SumError" = some (.ref S)) (g_BadLetters : mg "BadLetters" = some (.ref C0)) (g_BadSum : mg "BadSum" = some (.ref C1)) (g_TooMany : mg "TooMany" = some (.ref C2))
    (g_NoNothing : mg "NoNothing" = some (.ref C3)) (g_BadSpot : mg "BadSpot" = some (.ref C4)) (g_NoWay : mg "NoWay" = some (.ref C5)) (g_BadText : mg "BadText" = some (.ref C6)) : FnOk P w K mg base CX0 1 f fd ["_law_e"] (spWordT K S [C0, C1, C2, C3, C4, C5, C6]) := by
  refine F.ok sc_l_word (fun vs H Q E h => ?_) (fun cdv A outer s H vs Q E hr h => ⟨_, PSs.nox
   (pss_cons (ps_set (i := 1) sc_l_word.nd rfl (Or.inl rfl) (pe_lst (pa_cons (pe_callB call_isXd rfl B.isinstance_ boot_isinstance (pa_cons (pv 0) (pa_cons (pe_gref rfl g_BadLetters) pa_nil))) (pa_cons (pe_callB call_isXd rfl B.isinstance_ boot_isinstance (pa_cons (pv 0) (pa_cons (pe_gref rfl g_BadSum) pa_nil))) (pa_cons (pe_callB call_isXd rfl B.isinstance_ boot_isinstance (pa_cons (pv 0) (pa_cons (pe_gref rfl g_TooMany) pa_nil))) (pa_cons (pe_callB call_isXd rfl B.isinstance_ boot_isinstance (pa_cons (pv 0) (pa_cons (pe_gref rfl g_NoNothing) pa_nil))) pa_nil))))))
      (pss_cons (ps_set (i := 1) sc_l_word.nd rfl (Or.inl rfl) (pe_op op_cat (pv 1) (pe_lst (pa_cons (pe_callB call_isXd rfl B.isinstance_ boot_isinstance (pa_cons (pv 0) (pa_cons (pe_gref rfl g_BadSpot) pa_nil))) (pa_cons (pe_callB call_isXd rfl B.isinstance_ boot_isinstance (pa_cons (pv 0) (pa_cons (pe_gref rfl g_NoWay) pa_nil))) (pa_cons (pe_callB call_isXd rfl B.isinstance_ boot_isinstance (pa_cons (pv 0) (pa_cons (pe_gref rfl g_BadText) pa_nil))) pa_nil))))))
      (pss_cons (ps_if (PW.pt (pw_or (pt_cmpR op_ne (pe_bm PySem.F.plainAttrs_list PySem.F.slot_list_count PySem.F.type_list_count mt_count (pv 1) (pa_cons pe_bl pa_nil)) pe_int (nomark _)) (pw_or (pt_not (pt_val (pe_callB call_isXd rfl B.isinstance_ boot_isinstance (pa_cons (pv 0) (pa_cons (pe_gref rfl g_SumError) pa_nil))))) (pw_or1 (pt_not (pt_val (pe_callB call_isXd rfl B.isinstance_ boot_isinstance (pa_cons (pv 0) (pa_cons (pe_bltn (v := .ty "ValueError") rfl B_ValueError boot_ValueError rfl) pa_nil)))))))))
      (pss_one (ps_ret pe_str))
      pss_nil)
      (pss_one (ps_ret (pe_ix ix_h (pe_lst (pa_cons pe_str (pa_cons pe_str (pa_cons pe_str (pa_cons pe_str (pa_cons pe_str (pa_cons pe_str (pa_cons pe_str pa_nil)))))))) (pe_bm PySem.F.plainAttrs_list PySem.F.slot_list_index PySem.F.type_list_index mt_index (pv 1) (pa_cons pe_bl pa_nil)) (fun _ _ => rfl))))))), ?_⟩)
  · obtain ⟨a, D, dd, fs, rfl, _⟩ := h
    rfl
  · obtain ⟨a, D, dd, fs, rfl, ha, hdd, W, q⟩ := h
    simp [tSeq, tAsg, tRet, tOp, tUn, tVar, tC, rI, rI0, rU, gName, L2.start, CMul, CDiv, CPow, tIfS, tTest, rEq, rNe, scal, tNext, tCall, tCons, tNil, tCB, tIf, tAnd, L2.tOr, tNot, tB, tAndV, tOrV, tNotV, tChain, tLst, tDrop, rIxH, upd_same, cxK, tIsN, sFld, tFld, Evl.rListS]
    have is : ∀ (H1 : Hp) (j : Nat) (C : Addr) (Q : VK), Ex H H1 → [C0, C1, C2, C3, C4, C5, C6][j]? = some C → Q (.bl (decide (j = 6))) H1 → rIsXd K [.ref a, .ref C] H1 Q := fun H1 j C Q e h q =>
      ⟨a, D, dd, fs, .ref C, .ref C, _, rfl, e _ _ ha, e _ _ hdd, W.ex, .own C, W.one j C h, q⟩
    refine is H 0 C0 _ (Ex.refl H) rfl (is H 1 C1 _ (Ex.refl H) rfl (is H 2 C2 _ (Ex.refl H) rfl (is H 3 C3 _ (Ex.refl H) rfl ?_)))
    refine ⟨sizeLine_ge _ (by decide), fun p hp => ?_⟩
    have e1 := ev_up (o := .lst [.bl (decide (0 = 6)), .bl (decide (1 = 6)), .bl (decide (2 = 6)), .bl (decide (3 = 6))]) hp
    refine is _ 4 C4 _ e1 rfl (is _ 5 C5 _ e1 rfl (is _ 6 C6 _ e1 rfl ⟨sizeLine_ge _ (by decide), fun p2 hp2 => ?_⟩))
    have e2 := ev_up (o := .lst [.bl (decide (4 = 6)), .bl (decide (5 = 6)), .bl (decide (6 = 6))]) hp2
    refine ⟨p, p2, _, _, rfl, rfl, e2 _ _ upd_same, upd_same, sizeLine_ge _ (by simp [tSeq, tAsg, tRet, tOp, tUn, tVar, tC, rI, rI0, rU, gName, L2.start, CMul, CDiv, CPow, tIfS, tTest, rEq, rNe, scal, tNext, tCall, tCons, tNil, tCB, tIf, tAnd, L2.tOr, tNot, tB, tAndV, tOrV, tNotV, tChain, tLst, tDrop, rIxH, upd_same, cxK, tIsN, sFld, tFld, Evl.rListS]), fun r hr => ?_⟩
    have e3 := ev_up (o := .lst ([.bl (decide (0 = 6)), .bl (decide (1 = 6)), .bl (decide (2 = 6)), .bl (decide (3 = 6))] ++ [.bl (decide (4 = 6)), .bl (decide (5 = 6)), .bl (decide (6 = 6))])) hr
    generalize hG : upd _ r _ = G at e3 ⊢
    have hGr : G r = some (.lst [.bl false, .bl false, .bl false, .bl false, .bl false, .bl false, .bl true]) := by rw [← hG]; exact upd_same
    have eG : Ex H G := (e1.trans e2).trans e3
    refine ⟨_, rfl, Or.inl ⟨rfl, _, Or.inl (Or.inl hGr)⟩, r, .bl true, _, rfl, rfl, Evl.sq_of hGr, rfl, rfl, ?_⟩
    have hcount : (([.bl false, .bl false, .bl false, .bl false, .bl false, .bl false, .bl true] : List V).countP (fun z => eqV z (.bl true))) = 1 := rfl
    rw [hcount]
    refine ⟨rfl, .inl ⟨rfl, a, D, dd, fs, .ref S, .ref S, true, rfl, eG _ _ ha, eG _ _ hdd, W.ex, .own S, W.sum, .inr ⟨rfl, a, D, dd, fs, .ty "ValueError", .type "ValueError", true, rfl, eG _ _ ha, eG _ _ hdd, W.ex, .ty _, W.val, .inr ⟨rfl, sizeLine_ge _ (by decide), fun p3 hp3 => ?_⟩⟩⟩⟩
    have e4 := ev_up (o := .lst [.str "letters", .str "sum", .str "many", .str "nothing", .str "spot", .str "way", .str "text"]) hp3
    refine ⟨_, rfl, Or.inl ⟨rfl, _, Or.inl (Or.inl (e4 _ _ hGr))⟩, r, _, .bl true, 6, .bl true, rfl, rfl, Evl.sq_of (e4 _ _ hGr), rfl, rfl, rfl, rfl, ?_, _, (6 : Nat), rfl, upd_same, _, rfl, q _ (eG.trans e4)⟩
    intro m z hm hz
    rcases (by omega : m = 0 ∨ m = 1 ∨ m = 2 ∨ m = 3 ∨ m = 4 ∨ m = 5) with rfl | rfl | rfl | rfl | rfl | rfl <;> (cases hz; rfl)
end
end
end Sr
/-! # Y5 -/
namespace Sr
open PySem PySem.Spec PyProof.Rows L2
open TL (tl numL)
open NumText (digitsVal)
open Evl (Ex Ev EvL EvU EvT EvA RetL RetV)
section
variable {P : Program} {wo : World} {K : PySem.W.Frag} {mg : Str → Option Value} {base : Heap} {f : Addr} {fd : FuncData}
def spPart : Sp := fun vs H Q _ => ∃ w : Str, vs = [.str w] ∧ w.length ≤ 4000 ∧ Asc w ∧ ∀ r H', H r = none → Ex H H' → H' r = some (.lst ((numW w).toList.map V.int)) → Q (.ref r) H'
theorem sig_in (c : Nat) : (!decide (c ∈ (("0123456789" : Str)).cps.toList)) = !isD c := by
  congr 1
  have e : ("0123456789" : Str).cps.toList = [48, 49, 50, 51, 52, 53, 54, 55, 56, 57] := by decide +kernel
  rw [e]
  unfold isD
  rw [← Bool.decide_and, decide_eq_decide]
  simp
  omega
theorem filt_nil {l : List Nat} : (l.filter fun c => !isD c) = [] ↔ l.all isD = true := by
  rw [List.filter_eq_nil_iff, List.all_eq_true]
  constructor
  · intro h c hc
    have := h c hc
    simpa using this
  · intro h c hc
    rw [h c hc]
    decide
theorem ok_l_part (F : FnP K "_law_part" "_law_part" s_l_part f fd) (B : Bi mg) (B_abs : mg "abs" = none) : FnOk P wo K mg base CX0 1 f fd ["_law_word_here"] spPart := by
  refine F.ok sc_l_part (fun vs H Q E h => ?_) (fun cdv A outer s H vs Q E hr h => ⟨_, PSs.nox
   (pss_cons (ps_set (i := 1) sc_l_part.nd rfl (Or.inl rfl) (pe_ifExp (pt_cmpR op_eq (pe_slice sl_str (pv 0) po_none (po_some pe_int)) pe_str (nomark _)) (pe_slice sl_str (pv 0) (po_some pe_int) po_none) (pv 0)))
      (pss_cons (ps_if (PW.pt (pw_or (pt_cmpR op_eq (pv 1) pe_str (nomark _)) (pw_or (pt_cmpR op_gt (pe_callB call_len_str rfl B.len_ boot_len (pa_cons (pv 1) pa_nil)) pe_int (nomark _)) (pw_or1 (pt_cmpR (op_neD (hu64 hr)) (pe_lc (own := [("_law_sign", 2)]) (g := gName 2) rfl sc_l_part.nd (pi_str (pv 1)) (blkOk_by (N := n_l_part) (sc := defScope s_l_part) (by decide +kernel)) (fun _ _ _ _ _ => (pg_name (i := 2) sc_l_part.nd rfl (Or.inl rfl))) (fun _ _ _ _ _ => (pts_one (pt_cmpR op_notIn_sign (pv 2) pe_str rfl))) (fun _ _ _ _ _ => (pv 2))) (pe_lst pa_nil) (nomark _))))))
      (pss_one (ps_ret (pe_lst pa_nil)))
      pss_nil)
      (pss_cons (ps_if (PW.pt (pw_and (pt_cmpR op_eq (pe_ix ix_str (pv 1) pe_int (fun _ _ => rfl)) pe_str (nomark _)) (pw_and1 (pt_cmpR op_ne (pv 0) pe_str (nomark _)))))
      (pss_one (ps_ret (pe_lst pa_nil)))
      pss_nil)
      (pss_one (ps_ret (pe_ifExp (pt_cmpR op_le (pe_callB call_abs rfl B_abs boot_absS (pa_cons (pe_callTy call_int_str rfl B.int_ boot_int (pa_cons (pv 0) pa_nil)) pa_nil)) (pe_op op_pow pe_int pe_int) (nomark _)) (pe_lst (pa_cons (pe_callTy call_int_str rfl B.int_ boot_int (pa_cons (pv 0) pa_nil)) pa_nil)) (pe_lst pa_nil))))))), ?_⟩)
  · obtain ⟨w, rfl, _⟩ := h
    rfl
  · obtain ⟨w, rfl, hw, hasc, k⟩ := h
    have lw := TL.len_tl w
    refine ⟨_, rfl, _, rfl, _, rfl, Evl.sz_of (by omega), rfl, _, rfl, ?_⟩
    have hdash : decide (V.str (cutS w none (some 1)) = V.str ("-" : Str)) = decide ((tl w).head? = some 45) := by
      rw [decide_eq_decide]
      have e0 : tl ("-" : Str) = [45] := by decide
      constructor
      · intro z
        have := congrArg tl (V.str.inj z)
        rw [tl_take1, e0] at this
        cases hh : tl w with
        | nil => rw [hh] at this; cases this
        | cons c r =>
          rw [hh] at this
          have t1 : [c] = [45] := this
          rw [(List.cons.inj t1).1]
          rfl
      · intro z
        have : cutS w none (some 1) = ("-" : Str) := TL.ext_tl (by
          rw [tl_take1, e0]
          cases hh : tl w with
          | nil => rw [hh] at z; cases z
          | cons c r =>
            rw [hh] at z
            rw [show c = 45 from Option.some.inj z]
            rfl)
        rw [this]
    by_cases hn : (tl w).head? = some 45
    · refine ifT (hdash.trans (decide_eq_true hn)) ⟨_, rfl, _, rfl, _, rfl, Evl.sz_of (by omega), ?_⟩
      have hF : tl (cutS w (some 1) none) = figL (tl w) := by
        rw [tl_cut1]
        unfold figL
        rw [if_pos hn]
      have hl : (cutS w (some 1) none).length ≤ w.length := cutS_length _ _ _
      generalize cutS w (some 1) none = F at hF hl ⊢
      have hNone : (!(figL (tl w)).isEmpty && (figL (tl w)).all isD) = false ∨ ¬ (figL (tl w)).length ≤ 13 ∨ ¬ ((figL (tl w)).head? ≠ some 48 ∨ tl w = [48]) → numW w = none := fun h => by
        unfold numW
        rw [goodL_eq]
        rcases h with h | h | h
        · rw [h]; rfl
        · rw [decide_eq_false h, Bool.and_false]; rfl
        · rw [decide_eq_false h, Bool.false_and, Bool.and_false]; rfl
      have lF := TL.len_tl F
      rw [hF] at lF
      have none_ret : numW w = none → ∀ H1, Ex H H1 → 0 ≤ sizeLine ∧ ∀ p, H1 p = none → Q (.ref p) (upd H1 p (.lst [])) := fun hn H1 e1 => ⟨Nat.zero_le _, fun p hp => k p _ (Evl.fresh_back e1 hp) (e1.trans (ev_up hp)) (by rw [upd_same, hn]; rfl)⟩
      refine ⟨_, rfl, rfl, _, rfl, ?_⟩
      by_cases he : figL (tl w) = []
      · have hs : F = ("" : Str) := TL.ext_tl (by rw [hF, he]; rfl)
        exact ifT (by rw [hs]; simp) (none_ret (hNone (.inl (by rw [he]; rfl))) _ (Ex.refl H))
      have hs : F ≠ ("" : Str) := fun z => he (by rw [← hF, z]; rfl)
      have hemp : (figL (tl w)).isEmpty = false := by
        cases hh : figL (tl w) with
        | nil => exact absurd hh he
        | cons => rfl
      refine ifF (by simp [hs]) ⟨_, rfl, _, rfl, Evl.sz_of (by omega), _, _, rfl, rfl, _, rfl, iteB (fun hb => ?_) (fun hb => ?_)⟩
      · have hb2 := of_decide_eq_true hb
        exact none_ret (hNone (.inr (.inl (by omega)))) _ (Ex.refl H)
      have hb2 := of_decide_eq_false hb
      have l13 : (figL (tl w)).length ≤ 13 := by omega
      refine ⟨_, rfl, F, rfl, fun D hD => ?_⟩
      refine lcSD (fun n => !decide (n ∈ (("0123456789" : Str)).cps.toList)) hD (by omega) (fun x => rfl) (fun n H1 e1 Q1 q1 => ⟨_, rfl, n, _, rfl, rfl, _, rfl, q1⟩) (fun n H1 e1 Q1 q1 => ⟨_, rfl, q1⟩) fun H2 e2 hD2 => ?_
      rw [hF, show (fun n => !decide (n ∈ (("0123456789" : Str)).cps.toList)) = (fun n => !isD n) from funext sig_in] at hD2
      refine ⟨Evl.sz_of (by simp), fun u hu => ?_⟩
      have e3 := ev_up (o := .lst []) hu
      refine ⟨_, _, .lst (Evl.sq_of (e3 _ _ hD2)) (dp_sigs _), dp_nil upd_same, sh_sig _ (fun c hc => ?_), sh_nil, ?_⟩
      · have := (List.mem_filter.mp hc).1
        refine hasc c ?_
        unfold figL at this
        split at this
        · first | exact List.mem_of_mem_drop this | exact this
        · first | exact this | exact List.mem_of_mem_drop this
      have e4 := e2.trans e3
      generalize upd H2 u (.lst []) = H3 at e4 ⊢
      rw [eqv_nil_r]
      cases hd : (figL (tl w)).all isD with
      | false =>
        refine ⟨_, rfl, ifT ?_ (none_ret (hNone (.inl (by rw [hd, Bool.and_false]))) _ e4)⟩
        have : ((figL (tl w)).filter fun c => !isD c) ≠ [] := fun z => by
          rw [filt_nil, hd] at z
          cases z
        cases hf : ((figL (tl w)).filter fun c => !isD c) with
        | nil => exact absurd hf this
        | cons => rfl
      | true =>
        have hf := filt_nil.mpr hd
        refine ⟨_, rfl, ifF (by rw [hf]; rfl) ?_⟩
        have h0 : (!(figL (tl w)).isEmpty && (figL (tl w)).all isD) = true := by rw [hemp, hd]; rfl
        obtain ⟨w1, w2, w3⟩ := word_int h0 l13
        -- the first sign
        obtain ⟨c0, r0, hc0⟩ : ∃ c r, figL (tl w) = c :: r := by
          cases hh : figL (tl w) with
          | nil => exact absurd hh he
          | cons c r => exact ⟨c, r, rfl⟩
        have hat : atI F.cps.toList 0 = some c0 := by
          have : F.cps.toList = figL (tl w) := hF
          rw [this, hc0]
          exact atI_nat (j := 0) rfl
        have hsg : ((⟨#[c0]⟩ : Str) = ("0" : Str)) ↔ c0 = 48 := by
          constructor
          · intro z
            have := congrArg tl z
            have e0 : tl ("0" : Str) = [48] := by decide
            rw [e0] at this
            have t1 : [c0] = [48] := this
            exact (List.cons.inj t1).1
          · intro z
            rw [z]
            rfl
        have hw0 : w = ("0" : Str) ↔ tl w = [48] := ⟨fun z => by rw [z]; decide, fun z => TL.ext_tl (by rw [z]; decide)⟩
        have last : ((figL (tl w)).head? ≠ some 48 ∨ tl w = [48]) → ∀ H1, Ex H H1 → (tIf (tTest (tOp (rI0 fun i j => V.bl (decide (i ≤ j))) (tCB (fun xs H Q => ∃ i, xs = [V.int i] ∧ Q (V.int (if i < 0 then -i else i)) H) (tCons (tCB (fun xs H Q => ∃ a n, xs = [V.str a] ∧ intText? a = some n ∧ a.length ≤ 640 ∧ Q (V.int n) H) (tCons (tVar 0) tNil)) tNil)) (tOp (rI CPow fun i j => V.int (i ^ j.toNat)) (tC (V.int 10)) (tC (V.int 12)))))
            (tLst (tCons (tCB (fun xs H Q => ∃ a n, xs = [V.str a] ∧ intText? a = some n ∧ a.length ≤ 640 ∧ Q (V.int n) H) (tCons (tVar 0) tNil)) tNil)) (tLst tNil)) [some (.str w), some (.str F), none] H1 Q := fun hcan H1 e1 => by
          refine ⟨_, rfl, _, _, rfl, w1, by omega, _, rfl, _, _, rfl, rfl, ⟨by decide, by decide, by decide⟩, _, _, rfl, rfl, _, rfl, iteB (fun hc => ?_) (fun hc => ?_)⟩
          · have hc := of_decide_eq_true hc
            have e12 : (10 : Int) ^ (12 : Int).toNat = 1000000000000 := by decide
            rw [e12] at hc
            have hc2 : (valL (tl w)).natAbs ≤ 1000000000000 := by split at hc <;> omega
            have hs : numW w = some (valL (tl w)) := by
              unfold numW
              rw [goodL_eq, h0, decide_eq_true l13, decide_eq_true hcan]
              rw [val_abs] at hc2
              rw [decide_eq_true hc2]
              rfl
            refine ⟨_, rfl, _, _, rfl, w1, by omega, Evl.sz_of (by simp), fun p hp => k p _ (Evl.fresh_back e1 hp) (e1.trans (ev_up hp)) ?_⟩
            rw [upd_same, hs]
            rfl
          · have hc := of_decide_eq_false hc
            have e12 : (10 : Int) ^ (12 : Int).toNat = 1000000000000 := by decide
            rw [e12] at hc
            have hc2 : ¬ (valL (tl w)).natAbs ≤ 1000000000000 := by split at hc <;> omega
            refine none_ret ?_ _ e1
            unfold numW
            rw [val_abs] at hc2
            rw [goodL_eq, decide_eq_false hc2, Bool.and_false, Bool.and_false]
            rfl
        refine ⟨_, rfl, _, _, c0, rfl, rfl, Evl.sz_of (by omega), hat, rfl, _, rfl, ?_⟩
        by_cases h48 : c0 = 48
        · refine ifT (decide_eq_true (congrArg V.str (hsg.mpr h48))) ⟨_, rfl, rfl, _, rfl, ?_⟩
          by_cases hz : tl w = [48]
          · exact ifF (by simp [hw0, hz]) (last (.inr hz) _ e4)
          · refine ifT (by simp [hw0, hz]) (none_ret (hNone (.inr (.inr ?_))) _ e4)
            rw [hc0, h48]
            intro z
            rcases z with z | z
            · exact z rfl
            · exact hz z
        · refine ifF (decide_eq_false fun z => h48 (hsg.mp (V.str.inj z))) (last (.inl ?_) _ e4)
          rw [hc0]
          intro z
          exact h48 (Option.some.inj z)
    · refine ifF (hdash.trans (decide_eq_false hn)) ⟨_, rfl, ?_⟩
      have hF : tl w = figL (tl w) := by
        unfold figL
        rw [if_neg hn]
      have hl : w.length ≤ w.length := Nat.le_refl _
      have hNone : (!(figL (tl w)).isEmpty && (figL (tl w)).all isD) = false ∨ ¬ (figL (tl w)).length ≤ 13 ∨ ¬ ((figL (tl w)).head? ≠ some 48 ∨ tl w = [48]) → numW w = none := fun h => by
        unfold numW
        rw [goodL_eq]
        rcases h with h | h | h
        · rw [h]; rfl
        · rw [decide_eq_false h, Bool.and_false]; rfl
        · rw [decide_eq_false h, Bool.false_and, Bool.and_false]; rfl
      have lF := TL.len_tl w
      rw [hF] at lF
      have none_ret : numW w = none → ∀ H1, Ex H H1 → 0 ≤ sizeLine ∧ ∀ p, H1 p = none → Q (.ref p) (upd H1 p (.lst [])) := fun hn H1 e1 => ⟨Nat.zero_le _, fun p hp => k p _ (Evl.fresh_back e1 hp) (e1.trans (ev_up hp)) (by rw [upd_same, hn]; rfl)⟩
      refine ⟨_, rfl, rfl, _, rfl, ?_⟩
      by_cases he : figL (tl w) = []
      · have hs : w = ("" : Str) := TL.ext_tl (by rw [hF, he]; rfl)
        exact ifT (by rw [hs]; simp) (none_ret (hNone (.inl (by rw [he]; rfl))) _ (Ex.refl H))
      have hs : w ≠ ("" : Str) := fun z => he (by rw [← hF, z]; rfl)
      have hemp : (figL (tl w)).isEmpty = false := by
        cases hh : figL (tl w) with
        | nil => exact absurd hh he
        | cons => rfl
      refine ifF (by simp [hs]) ⟨_, rfl, _, rfl, Evl.sz_of (by omega), _, _, rfl, rfl, _, rfl, iteB (fun hb => ?_) (fun hb => ?_)⟩
      · have hb2 := of_decide_eq_true hb
        exact none_ret (hNone (.inr (.inl (by omega)))) _ (Ex.refl H)
      have hb2 := of_decide_eq_false hb
      have l13 : (figL (tl w)).length ≤ 13 := by omega
      refine ⟨_, rfl, w, rfl, fun D hD => ?_⟩
      refine lcSD (fun n => !decide (n ∈ (("0123456789" : Str)).cps.toList)) hD (by omega) (fun x => rfl) (fun n H1 e1 Q1 q1 => ⟨_, rfl, n, _, rfl, rfl, _, rfl, q1⟩) (fun n H1 e1 Q1 q1 => ⟨_, rfl, q1⟩) fun H2 e2 hD2 => ?_
      rw [hF, show (fun n => !decide (n ∈ (("0123456789" : Str)).cps.toList)) = (fun n => !isD n) from funext sig_in] at hD2
      refine ⟨Evl.sz_of (by simp), fun u hu => ?_⟩
      have e3 := ev_up (o := .lst []) hu
      refine ⟨_, _, .lst (Evl.sq_of (e3 _ _ hD2)) (dp_sigs _), dp_nil upd_same, sh_sig _ (fun c hc => ?_), sh_nil, ?_⟩
      · have := (List.mem_filter.mp hc).1
        refine hasc c ?_
        unfold figL at this
        split at this
        · first | exact List.mem_of_mem_drop this | exact this
        · first | exact this | exact List.mem_of_mem_drop this
      have e4 := e2.trans e3
      generalize upd H2 u (.lst []) = H3 at e4 ⊢
      rw [eqv_nil_r]
      cases hd : (figL (tl w)).all isD with
      | false =>
        refine ⟨_, rfl, ifT ?_ (none_ret (hNone (.inl (by rw [hd, Bool.and_false]))) _ e4)⟩
        have : ((figL (tl w)).filter fun c => !isD c) ≠ [] := fun z => by
          rw [filt_nil, hd] at z
          cases z
        cases hf : ((figL (tl w)).filter fun c => !isD c) with
        | nil => exact absurd hf this
        | cons => rfl
      | true =>
        have hf := filt_nil.mpr hd
        refine ⟨_, rfl, ifF (by rw [hf]; rfl) ?_⟩
        have h0 : (!(figL (tl w)).isEmpty && (figL (tl w)).all isD) = true := by rw [hemp, hd]; rfl
        obtain ⟨w1, w2, w3⟩ := word_int h0 l13
        -- the first sign
        obtain ⟨c0, r0, hc0⟩ : ∃ c r, figL (tl w) = c :: r := by
          cases hh : figL (tl w) with
          | nil => exact absurd hh he
          | cons c r => exact ⟨c, r, rfl⟩
        have hat : atI w.cps.toList 0 = some c0 := by
          have : w.cps.toList = figL (tl w) := hF
          rw [this, hc0]
          exact atI_nat (j := 0) rfl
        have hsg : ((⟨#[c0]⟩ : Str) = ("0" : Str)) ↔ c0 = 48 := by
          constructor
          · intro z
            have := congrArg tl z
            have e0 : tl ("0" : Str) = [48] := by decide
            rw [e0] at this
            have t1 : [c0] = [48] := this
            exact (List.cons.inj t1).1
          · intro z
            rw [z]
            rfl
        have hw0 : w = ("0" : Str) ↔ tl w = [48] := ⟨fun z => by rw [z]; decide, fun z => TL.ext_tl (by rw [z]; decide)⟩
        have last : ((figL (tl w)).head? ≠ some 48 ∨ tl w = [48]) → ∀ H1, Ex H H1 → (tIf (tTest (tOp (rI0 fun i j => V.bl (decide (i ≤ j))) (tCB (fun xs H Q => ∃ i, xs = [V.int i] ∧ Q (V.int (if i < 0 then -i else i)) H) (tCons (tCB (fun xs H Q => ∃ a n, xs = [V.str a] ∧ intText? a = some n ∧ a.length ≤ 640 ∧ Q (V.int n) H) (tCons (tVar 0) tNil)) tNil)) (tOp (rI CPow fun i j => V.int (i ^ j.toNat)) (tC (V.int 10)) (tC (V.int 12)))))
            (tLst (tCons (tCB (fun xs H Q => ∃ a n, xs = [V.str a] ∧ intText? a = some n ∧ a.length ≤ 640 ∧ Q (V.int n) H) (tCons (tVar 0) tNil)) tNil)) (tLst tNil)) [some (.str w), some (.str w), none] H1 Q := fun hcan H1 e1 => by
          refine ⟨_, rfl, _, _, rfl, w1, by omega, _, rfl, _, _, rfl, rfl, ⟨by decide, by decide, by decide⟩, _, _, rfl, rfl, _, rfl, iteB (fun hc => ?_) (fun hc => ?_)⟩
          · have hc := of_decide_eq_true hc
            have e12 : (10 : Int) ^ (12 : Int).toNat = 1000000000000 := by decide
            rw [e12] at hc
            have hc2 : (valL (tl w)).natAbs ≤ 1000000000000 := by split at hc <;> omega
            have hs : numW w = some (valL (tl w)) := by
              unfold numW
              rw [goodL_eq, h0, decide_eq_true l13, decide_eq_true hcan]
              rw [val_abs] at hc2
              rw [decide_eq_true hc2]
              rfl
            refine ⟨_, rfl, _, _, rfl, w1, by omega, Evl.sz_of (by simp), fun p hp => k p _ (Evl.fresh_back e1 hp) (e1.trans (ev_up hp)) ?_⟩
            rw [upd_same, hs]
            rfl
          · have hc := of_decide_eq_false hc
            have e12 : (10 : Int) ^ (12 : Int).toNat = 1000000000000 := by decide
            rw [e12] at hc
            have hc2 : ¬ (valL (tl w)).natAbs ≤ 1000000000000 := by split at hc <;> omega
            refine none_ret ?_ _ e1
            unfold numW
            rw [val_abs] at hc2
            rw [goodL_eq, decide_eq_false hc2, Bool.and_false, Bool.and_false]
            rfl
        refine ⟨_, rfl, _, _, c0, rfl, rfl, Evl.sz_of (by omega), hat, rfl, _, rfl, ?_⟩
        by_cases h48 : c0 = 48
        · refine ifT (decide_eq_true (congrArg V.str (hsg.mpr h48))) ⟨_, rfl, rfl, _, rfl, ?_⟩
          by_cases hz : tl w = [48]
          · exact ifF (by simp [hw0, hz]) (last (.inr hz) _ e4)
          · refine ifT (by simp [hw0, hz]) (none_ret (hNone (.inr (.inr ?_))) _ e4)
            rw [hc0, h48]
            intro z
            rcases z with z | z
            · exact z rfl
            · exact hz z
        · refine ifF (decide_eq_false fun z => h48 (hsg.mp (V.str.inj z))) (last (.inl ?_) _ e4)
          rw [hc0]
          intro z
          exact h48 (Option.some.inj z)
end
end Sr
/-! # Y6 -/
namespace Sr
open PySem PySem.Spec PyProof.Rows L2
open TL (tl numL)
open Evl (Ex Ev EvL EvU EvT EvA RetL RetV)
section
variable {P : Program} {wo : World} {K : PySem.W.Frag} {mg : Str → Option Value} {base : Heap} {f : Addr} {fd : FuncData}
def spRead : Sp := fun vs H Q _ => ∃ x : Str, vs = [.str x] ∧ x.length ≤ 4000 ∧ Asc x ∧ (∀ k, readT x = .inl k → ∀ H', Ex H H' → Q (.int (k : Nat)) H') ∧
  ∀ n nss, readT x = .inr (n, nss) → ∀ t p H', H t = none → Ex H H' → H' t = some (.tup [.int (n : Nat), .ref p]) → RwA H' p nss → nss.length ≤ 16 → Q (.ref t) H'
theorem hu65 {A : Around} {k : Nat} (hr : Room k A) : A.units + 65 < cLine := by have := hr.un; omega
/-- the figures that a first line may have -/
theorem seven {n : Nat} (h : n ≤ 6) : inV (.str (istr (n : Int))) [.str "0", .str "1", .str "2", .str "3", .str "4", .str "5", .str "6"] = true := by
  rcases (by omega : n = 0 ∨ n = 1 ∨ n = 2 ∨ n = 3 ∨ n = 4 ∨ n = 5 ∨ n = 6) with rfl | rfl | rfl | rfl | rfl | rfl | rfl <;> decide +kernel
theorem seven_of {w : Str} (h : inV (.str w) [.str "0", .str "1", .str "2", .str "3", .str "4", .str "5", .str "6"] = true) : ∃ n : Nat, n ≤ 6 ∧ w = istr (n : Int) := by
  unfold inV at h
  simp [eqV] at h
  rcases h with h | h | h | h | h | h | h
  · exact ⟨0, by omega, by rw [← h]; decide +kernel⟩
  · exact ⟨1, by omega, by rw [← h]; decide +kernel⟩
  · exact ⟨2, by omega, by rw [← h]; decide +kernel⟩
  · exact ⟨3, by omega, by rw [← h]; decide +kernel⟩
  · exact ⟨4, by omega, by rw [← h]; decide +kernel⟩
  · exact ⟨5, by omega, by rw [← h]; decide +kernel⟩
  · exact ⟨6, by omega, by rw [← h]; decide +kernel⟩
theorem letters_none {l w0 w1 : Str} (h : lettersW l = none) (e : Txt.split l (" " : Str) = [w0, w1]) (h0 : w0 = ("letters" : Str)) : inV (.str w1) [.str "0", .str "1", .str "2", .str "3", .str "4", .str "5", .str "6"] = false := by
  cases hi : inV (.str w1) [.str "0", .str "1", .str "2", .str "3", .str "4", .str "5", .str "6"] with
  | false => rfl
  | true =>
    obtain ⟨n, hn, hw⟩ := seven_of hi
    rw [h0, hw] at e
    rw [LN_of e, lettersW_some hn] at h
    cases h
/-- the parts of a row -/
def gsW (ws : List Str) : List (List Int) := ws.map fun w => (numW w).toList
theorem gs_cases (ws : List Str) : (((gsW ws).map dRow).any (fun z => PyData.eqv z (.list [])) = true ∧ ws.mapM numW = none) ∨ (((gsW ws).map dRow).any (fun z => PyData.eqv z (.list [])) = false ∧ ∃ ns, ws.mapM numW = some ns ∧ gsW ws = ns.map fun i => [i]) := by
  induction ws with
  | nil => exact .inr ⟨rfl, [], rfl, rfl⟩
  | cons w ws ih =>
    have e : ((gsW (w :: ws)).map dRow).any (fun z => PyData.eqv z (.list [])) = (((numW w).toList).isEmpty || ((gsW ws).map dRow).any (fun z => PyData.eqv z (.list []))) := by
      show (PyData.eqv (dRow ((numW w).toList)) (.list []) || _) = _
      unfold dRow
      rw [eqv_nil_r, List.isEmpty_map]
      rfl
    rw [e, List.mapM_cons]
    cases h1 : numW w with
    | none => exact .inl ⟨rfl, rfl⟩
    | some i =>
      rcases ih with ⟨a, b⟩ | ⟨a, ns, b, c⟩
      · refine .inl ⟨by rw [a, Bool.or_true], ?_⟩
        rw [b]
        rfl
      · refine .inr ⟨by rw [a]; rfl, i :: ns, by rw [b]; rfl, ?_⟩
        show (numW w).toList :: gsW ws = _
        rw [c, h1]
        rfl
theorem ok_l_read (F : FnP K "_law_read" "_law_read" s_l_read f fd) (B : Bi mg) (D_l_part : Df P wo K mg base CX0 1 "_law_part" ["_law_word_here"] spPart) : FnOk P wo K mg base CX0 2 f fd ["_law_text"] spRead := by
  refine F.ok sc_l_read (fun vs H Q E h => ?_) (fun cdv A outer s H vs Q E hr h => ⟨_, PSs.nox
   (pss_cons (ps_set (i := 1) sc_l_read.nd rfl (Or.inl rfl) (pe_split (pv 0) pe_str))
      (pss_cons (ps_set (i := 2) sc_l_read.nd rfl (Or.inl rfl) (pe_split (pe_ix ix_list (pv 1) pe_int (fun _ _ => rfl)) pe_str))
      (pss_cons (ps_if (PW.pt (pw_or (pt_cmpR op_ne (pe_callB call_len_seq rfl B.len_ boot_len (pa_cons (pv 2) pa_nil)) pe_int (nomark _)) (pw_or (pt_cmpR op_ne (pe_ix ix_list (pv 2) pe_int (fun _ _ => rfl)) pe_str (nomark _)) (pw_or1 (pt_cmpR op_notIn_seq (pe_ix ix_list (pv 2) pe_int (fun _ _ => rfl)) (pe_lst (pa_cons pe_str (pa_cons pe_str (pa_cons pe_str (pa_cons pe_str (pa_cons pe_str (pa_cons pe_str (pa_cons pe_str pa_nil)))))))) rfl)))))
      (pss_one (ps_ret pe_int))
      pss_nil)
      (pss_cons (ps_set (i := 3) sc_l_read.nd rfl (Or.inl rfl) (pe_callTy call_int_str rfl B.int_ boot_int (pa_cons (pe_ix ix_list (pv 2) pe_int (fun _ _ => rfl)) pa_nil)))
      (pss_cons (ps_set (i := 4) sc_l_read.nd rfl (Or.inl rfl) (pe_lst pa_nil))
      (pss_cons (ps_for PassesOwn.never rfl (pi_range2 rfl B.range_ (pa_cons pe_int (pa_cons (pe_callB call_len_seq rfl B.len_ boot_len (pa_cons (pv 1) pa_nil)) pa_nil))) (pg_name (i := 5) sc_l_read.nd rfl (Or.inl rfl))
      (pss_cons (ps_set (i := 2) sc_l_read.nd rfl (Or.inl rfl) (pe_split (pe_ix ix_list (pv 1) (pv 5) (fun _ _ => rfl)) pe_str))
        (pss_cons (ps_setLc (i := 6) (own := [("_law_word_here", 7)]) (g := gName 7) (tt := tYes) rfl sc_l_read.nd rfl rfl (sw_true rfl rfl rfl (by decide +kernel)) (pi_list (pe_slice sl_list (pv 2) (po_some pe_int) po_none)) (blkOk_by (N := n_l_read) (sc := defScope s_l_read) (by decide +kernel)) (fun _ _ _ _ _ => (pg_name (i := 7) sc_l_read.nd rfl (Or.inl rfl))) (fun _ _ _ _ _ => pts_nil) (fun _ _ _ _ _ => (pe_df D_l_part (hr.mono (by decide)) (pa_cons (pv 7) pa_nil))))
        (pss_cons (ps_if (PW.pt (pw_or (pt_cmpR op_ne (pe_ix ix_list (pv 2) pe_int (fun _ _ => rfl)) pe_str (nomark _)) (pw_or (pt_cmpR op_ne (pe_callB call_len_seq rfl B.len_ boot_len (pa_cons (pv 6) pa_nil)) (pv 3) (nomark _)) (pw_or (pt_cmpR (op_inD (hu65 hr)) (pe_lst pa_nil) (pv 6) rfl) (pw_or1 (pt_cmpR op_eq (pe_callB call_len_seq rfl B.len_ boot_len (pa_cons (pv 4) pa_nil)) pe_int (nomark _)))))))
        (pss_one (ps_ret (pv 5)))
        pss_nil)
        (pss_one (ps_expr (pe_bm PySem.F.plainAttrs_list PySem.F.slot_list_append PySem.F.type_list_append mt_append (pv 4) (pa_cons (pe_lc (own := [("_law_part_here", 8)]) (g := gName 8) (tt := tYes) rfl sc_l_read.nd (pi_list (pv 6)) (blkOk_by (N := n_l_read) (sc := defScope s_l_read) (by decide +kernel)) (fun _ _ _ _ _ => (pg_name (i := 8) sc_l_read.nd rfl (Or.inl rfl))) (fun _ _ _ _ _ => pts_nil) (fun _ _ _ _ _ => (pe_ix (r := rIxL K) ix_list (pv 8) pe_int (fun _ _ => rfl)))) pa_nil))))))))
      (pss_one (ps_ret (pe_tup (pa_cons (pv 3) (pa_cons (pv 4) pa_nil))))))))))), ?_⟩)
  · obtain ⟨x, rfl, _⟩ := h
    rfl
  · obtain ⟨x, rfl, hx, hasc, k1, k2⟩ := h
    have hmany := nl_many (l := x)
    have hlen : ∀ p ∈ Txt.split x ("\n" : Str), p.length ≤ 4000 := fun p hp => Nat.le_trans (nl_len hp) hx
    have hap : ∀ p ∈ Txt.split x ("\n" : Str), Asc p := fun p hp => hasc.nl hp
    have hne := nl_ne x
    unfold readT at k1 k2
    refine ⟨_, rfl, ⟨_, rfl⟩, _, _, rfl, rfl, by decide, Evl.sz_of (by omega), ?_⟩
    generalize Txt.split x ("\n" : Str) = lss at hmany hlen hap hne k1 k2 ⊢
    cases lss with
    | nil => exact absurd rfl hne
    | cons l0 ls =>
    intro p hp
    have e1 := ev_up (o := .lst ((l0 :: ls).map V.str)) hp
    have hp1 : upd H p (.lst ((l0 :: ls).map V.str)) p = some (.lst ((l0 :: ls).map V.str)) := upd_same
    generalize upd H p (.lst ((l0 :: ls).map V.str)) = H1 at e1 hp1 ⊢
    dsimp only at k1 k2
    rw [List.length_cons] at hmany
    have ll0 := hlen l0 (List.mem_cons_self ..)
    have hm0 := sp_many (l := l0)
    refine ⟨_, rfl, p, _, _, V.str l0, rfl, rfl, Evl.sq_of hp1, atI_nat (j := 0) rfl, ⟨_, rfl⟩, _, _, rfl, rfl, by decide, Evl.sz_of (by omega), ?_⟩
    cases hlw : lettersW l0 with
    | none =>
      rw [hlw] at k1 k2
      have fin : ∀ H', Ex H1 H' → Q (.int 0) H' := fun H' e => k1 0 rfl H' (e1.trans e)
      have hn := fun w0 w1 => letters_none (w0 := w0) (w1 := w1) hlw
      generalize Txt.split l0 (" " : Str) = wss at hn ⊢
      intro q hq
      have e2 := ev_up (o := .lst (wss.map V.str)) hq
      have hq1 : upd H1 q (.lst (wss.map V.str)) q = some (.lst (wss.map V.str)) := upd_same
      generalize upd H1 q (.lst (wss.map V.str)) = H2 at e2 hq1 ⊢
      refine ⟨_, rfl, q, _, rfl, .inl (Evl.sq_of hq1), rfl, _, rfl, ?_⟩
      by_cases hl : wss.length = 2
      · obtain ⟨w0, w1, rfl⟩ : ∃ w0 w1, wss = [w0, w1] := by
          match wss, hl with
          | [a, b], _ => exact ⟨a, b, rfl⟩
        refine ifF (by simp) ?_
        refine ⟨_, rfl, q, _, _, V.str w0, rfl, rfl, Evl.sq_of hq1, atI_nat (j := 0) rfl, rfl, _, rfl, ?_⟩
        by_cases h0 : w0 = ("letters" : Str)
        · refine ifF (by simp [h0]) ?_
          refine ⟨_, rfl, q, _, _, V.str w1, rfl, rfl, Evl.sq_of hq1, atI_nat (j := 1) rfl, Evl.sz_of (by simp), fun u hu => ?_⟩
          refine ⟨u, _, rfl, .inl (Evl.sq_of upd_same), rfl, rfl, _, rfl, ifT ?_ (fin _ (e2.trans (ev_up hu)))⟩
          rw [if_pos rfl]
          have := hn w0 w1 rfl h0
          exact congrArg Bool.not this
        · exact ifT (by simp [h0]) (fin _ e2)
      · refine ifT ?_ (fin _ e2)
        rw [List.length_map]
        simp
        omega
    | some n =>
    obtain ⟨hn, hl0⟩ := lettersW_le hlw
    rw [hlw] at k1 k2
    dsimp only at k1 k2
    rw [hl0, LN_split]
    intro q hq
    have e2 := ev_up (o := .lst ([("letters" : Str), istr (n : Int)].map V.str)) hq
    have hq1 : upd H1 q (.lst ([("letters" : Str), istr (n : Int)].map V.str)) q = some (.lst ([V.str "letters", V.str (istr (n : Int))])) := upd_same
    have hp2 := e2 _ _ hp1
    generalize upd H1 q (.lst ([("letters" : Str), istr (n : Int)].map V.str)) = H2 at e2 hq1 hp2 ⊢
    refine ⟨_, rfl, q, _, rfl, .inl (Evl.sq_of hq1), rfl, _, rfl, ifF (by simp) ?_⟩
    refine ⟨_, rfl, q, _, _, V.str "letters", rfl, rfl, Evl.sq_of hq1, atI_nat (j := 0) rfl, rfl, _, rfl, ifF (by simp) ?_⟩
    refine ⟨_, rfl, q, _, _, V.str (istr (n : Int)), rfl, rfl, Evl.sq_of hq1, atI_nat (j := 1) rfl, Evl.sz_of (by simp), fun u hu => ?_⟩
    refine ⟨u, _, rfl, .inl (Evl.sq_of upd_same), rfl, rfl, _, rfl, ifF (by rw [if_pos rfl]; exact congrArg Bool.not (seven hn)) ?_⟩
    have eu := ev_up (o := .lst [V.str "0", V.str "1", V.str "2", V.str "3", V.str "4", V.str "5", V.str "6"]) hu
    have hp3 := eu _ _ hp2
    have hq3 := eu _ _ hq1
    generalize upd H2 u (.lst [V.str "0", V.str "1", V.str "2", V.str "3", V.str "4", V.str "5", V.str "6"]) = H3 at eu hp3 hq3 ⊢
    have il := istr_len (i := (n : Int)) (by omega)
    refine ⟨_, rfl, q, _, _, V.str (istr (n : Int)), rfl, rfl, Evl.sq_of hq3, atI_nat (j := 1) rfl, _, _, rfl, int_back (by omega), by omega, ?_⟩
    refine ⟨Evl.sz_of (by simp), fun R hR => ?_⟩
    have e4 := ev_up (o := .lst []) hR
    have hR4 : upd H3 R (.lst []) R = some (.lst []) := upd_same
    have hp4 := e4 _ _ hp3
    generalize upd H3 R (.lst []) = H4 at e4 hR4 hp4 ⊢
    have e14 := ((e1.trans e2).trans eu).trans e4
    have hRH : H R = none := Evl.fresh_back ((e1.trans e2).trans eu) hR
    refine ⟨_, rfl, p, _, rfl, .inl (Evl.sq_of hp4), _, _, rfl, ⟨by decide, by decide, by omega, by rw [List.length_map, List.length_cons]; omega⟩, ?_⟩
    have em : (((((l0 :: ls).map V.str).length : Nat) : Int) - 1).toNat = ls.length := by rw [List.length_map, List.length_cons]; omega
    rw [em]
    refine for_range (lo := 1) (n := ls.length) (fun i σ' H' => ∃ (rs : List Addr) (acc : List (List Int)) (y2 y5 y6 y7 y8 : Option V), σ' = [some (.str x), some (.ref p), y2, some (.int (n : Int)), some (.ref R), y5, y6, none, none] ∧ Ex H H' ∧ H' p = some (.lst ((l0 :: ls).map V.str)) ∧ H' R = some (.lst (rs.map V.ref)) ∧ RowsL H' rs acc ∧ (∀ q ∈ rs, q ≠ R) ∧ acc.length ≤ 16 ∧ (∀ ns ∈ acc, ns.length = n ∧ Near ns) ∧ readG n [] 1 ls = readG n acc (1 + i) (ls.drop i))
      ⟨[], [], _, none, none, none, none, rfl, e14, hp4, hR4, trivial, fun q h => (nomatch h), Nat.zero_le _, fun ns h => (nomatch h), rfl⟩ ?_ ?_
    · rintro i σ' H' hi ⟨rs, acc, y2, y5, y6, y7, y8, rfl, eH, hpH, hRH', hRw, hq, h16, hg, hrd⟩
      obtain ⟨l, hl⟩ : ∃ l, ls[i]? = some l := ⟨ls[i], by simp [hi]⟩
      have hdrop : ls.drop i = l :: ls.drop (i + 1) := by
        obtain ⟨hi, e⟩ := List.getElem?_eq_some_iff.mp hl
        rw [List.drop_eq_getElem_cons hi, e]
      rw [hdrop, readG_cons] at hrd
      have ei : (1 : Int) + (i : Int) = ((1 + i : Nat) : Int) := by omega
      rw [ei]
      have hml := List.mem_cons_of_mem l0 (List.mem_of_getElem? hl)
      have ll := hlen l hml
      have hsm := sp_many (l := l)
      have hwl : ∀ w ∈ Txt.split l (" " : Str), w.length ≤ 4000 ∧ Asc w := fun w hw => ⟨Nat.le_trans (sp_len hw) ll, (hap l hml).sp hw⟩
      have hwn := sp_ne l
      have hat : atI ((l0 :: ls).map V.str) ((1 + i : Nat) : Int) = some (V.str l) := atI_nat (by rw [Nat.add_comm, List.map_cons, List.getElem?_cons_succ, List.getElem?_map, hl]; rfl)
      refine ⟨_, rfl, _, rfl, p, _, _, V.str l, rfl, rfl, Evl.sq_of hpH, hat, ⟨_, rfl⟩, _, _, rfl, rfl, by decide, Evl.sz_of (by omega), ?_⟩
      have hrw : rowW l n = (match Txt.split l (" " : Str) with | [] => none | w :: ws => if w = ("nothing" : Str) ∧ ws.length = n then ws.mapM numW else none) := rfl
      have hnear := fun ns => rowW_near (l := l) (n := n) (ns := ns)
      generalize rowW l n = rw0 at hrd hrw hnear
      generalize Txt.split l (" " : Str) = wss at hsm hwl hwn hrw ⊢
      cases wss with
      | nil => exact absurd rfl hwn
      | cons w0 ws =>
      dsimp only at hrw
      rw [List.length_cons] at hsm
      intro q hq5
      have e5 := ev_up (o := .lst ((w0 :: ws).map V.str)) hq5
      have hq6 : upd H' q (.lst ((w0 :: ws).map V.str)) q = some (.lst ((w0 :: ws).map V.str)) := upd_same
      have hp6 := e5 _ _ hpH
      have hR6 := e5 _ _ hRH'
      have hRw6 := hRw.ex e5
      have eH6 := eH.trans e5
      generalize upd H' q (.lst ((w0 :: ws).map V.str)) = H6 at e5 hq6 hp6 hR6 hRw6 eH6 ⊢
      refine ⟨_, rfl, _, rfl, q, _, rfl, Evl.sq_of hq6, fun c hc => ?_⟩
      have ec : cutV ((w0 :: ws).map V.str) (some 1) none = ws.map V.str := cut_from _ 1
      rw [ec]
      have e7 := ev_up (o := .lst (ws.map V.str)) hc
      have hc7 : upd H6 c (.lst (ws.map V.str)) c = some (.lst (ws.map V.str)) := upd_same
      generalize upd H6 c (.lst (ws.map V.str)) = H7 at e7 hc7 ⊢
      refine ⟨c, rfl, ⟨_, Evl.sq_of hc7⟩, fun D hD => ?_⟩
      refine lcRowsD (gsW ws) hD (Evl.sq_of hc7) (by unfold gsW; rw [List.length_map, List.length_map]) (by rw [List.length_map]; omega) (fun x => rfl) (fun j y ns H8 e8 hy hns => ?_) fun qs H8 e8 hD8 hqs hqn => ?_
      · rw [List.getElem?_map] at hy
        cases hy2 : ws[j]? with
        | none => rw [hy2] at hy; cases hy
        | some y1 =>
          rw [hy2] at hy
          cases hy
          have hns2 : ns = (numW y1).toList := by
            unfold gsW at hns
            rw [List.getElem?_map, hy2] at hns
            exact (Option.some.inj hns).symm
          have hy1 := hwl y1 (List.mem_cons_of_mem _ (List.mem_of_getElem? hy2))
          intro H9 e9 Q2 q2
          refine ⟨_, rfl, y1, rfl, hy1.1, hy1.2, fun r H10 hr e10 hr10 => ?_⟩
          exact q2 r H10 hr e10 (by rw [hns2]; exact hr10)
      have e68 := e7.trans e8
      have eH8 := eH6.trans e68
      have hq8 := e68 _ _ hq6
      have hp8 := e68 _ _ hp6
      have hR8 := e68 _ _ hR6
      have hRw8 := hRw6.ex e68
      have ql := hqs.len
      have gl : (gsW ws).length = ws.length := by unfold gsW; rw [List.length_map]
      have kfin : readG n [] 1 ls = .inl (1 + i) → ∀ H9, Ex H8 H9 → Q (.int ((1 + i : Nat) : Int)) H9 := fun h H9 e9 => k1 _ h H9 (eH8.trans e9)
      have none_of : rw0 = none → readG n [] 1 ls = .inl (1 + i) := fun h => by rw [hrd, h]
      refine ⟨_, rfl, q, _, _, V.str w0, rfl, rfl, Evl.sq_of hq8, atI_nat (j := 0) rfl, rfl, _, rfl, ?_⟩
      by_cases hw : w0 = ("nothing" : Str)
      · refine ifF (by simp [hw]) ⟨_, rfl, D, _, rfl, .inl (Evl.sq_of hD8), _, rfl, rfl, _, rfl, ?_⟩
        by_cases hln : ws.length = n
        · have hcc : w0 = ("nothing" : Str) ∧ ws.length = n := ⟨hw, hln⟩
          rw [if_pos hcc] at hrw
          refine ifF (by simp; omega) ⟨Evl.sz_of (by simp), fun em hem => ?_⟩
          have e9 := ev_up (o := .lst []) hem
          refine ⟨_, rfl, _, _, dp_nil upd_same, dp_rows (e9 _ _ hD8) (hqs.ex e9), sh_nil, sh_rows _, _, rfl, ?_⟩
          rcases gs_cases ws with ⟨a, b⟩ | ⟨a, ns, b, c3⟩
          · exact ifT a ⟨_, rfl, kfin (none_of (by rw [hrw, b])) _ e9⟩
          · rw [hrw, b] at hrd
            dsimp only at hrd
            have hR9 := e9 _ _ hR8
            have rl := hRw8.len
            refine ifF a ⟨_, rfl, R, _, rfl, .inl (Evl.sq_of hR9), rfl, _, rfl, ?_⟩
            by_cases h6 : acc.length = 16
            · rw [if_pos h6] at hrd
              refine ifT ?_ ⟨_, rfl, kfin hrd _ e9⟩
              rw [List.length_map, rl, h6]
              rfl
            · rw [if_neg h6] at hrd
              have nr := hnear ns (by rw [hrw, b])
              refine ifF ?_ ?_
              · refine decide_eq_false fun z => ?_
                have z2 := V.int.inj z
                rw [List.length_map] at z2
                omega
              have hp9 := e9 _ _ hp8
              have hD9 := e9 _ _ hD8
              have hqs9 := hqs.ex e9
              have hRw9 := hRw8.ex e9
              have eH9 := eH8.trans e9
              generalize upd H8 em (.lst []) = H9 at e9 hR9 hp9 hD9 hqs9 hRw9 eH9 ⊢
              refine ⟨_, rfl, Or.inl ⟨rfl, _, Or.inl (Or.inl hR9)⟩, _, rfl, D, rfl, ⟨_, Evl.sq_of hD9⟩, fun z hz => ?_⟩
              have nl : ns.length = ws.length := by
                have := congrArg List.length c3
                rw [gl, List.length_map] at this
                exact this.symm
              refine lcLD (K := K) (a := D) (xs := qs.map V.ref) (fun j => V.int (ns.getD j 0)) hz (Evl.sq_of hD9) (by rw [List.length_map]; omega) (fun x => rfl) (fun j y H10 e10 hy => ?_) fun H11 e11 hz11 => ?_
              · rw [List.getElem?_map] at hy
                cases hy2 : qs[j]? with
                | none => rw [hy2] at hy; cases hy
                | some y1 =>
                  rw [hy2] at hy
                  cases hy
                  obtain ⟨g, hg1, hg2⟩ := hqs9.get hy2
                  rw [c3, List.getElem?_map] at hg1
                  cases hj : ns[j]? with
                  | none => rw [hj] at hg1; cases hg1
                  | some v =>
                    rw [hj] at hg1
                    cases hg1
                    intro H12 e12 Q2 q2
                    refine ⟨_, rfl, y1, _, _, V.int v, rfl, rfl, Evl.sq_of (e12 _ _ (e10 _ _ hg2)), atI_nat (j := 0) rfl, q2 _ H12 (Ex.refl H12) ?_⟩
                    rw [List.getD_eq_getElem?_getD, hj]
                    rfl
              have er : (List.range (qs.map V.ref).length).map (fun j => V.int (ns.getD j 0)) = ns.map V.int := by
                rw [List.length_map, ql, gl, ← nl]
                apply List.ext_getElem?
                intro i
                rw [List.getElem?_map, List.getElem?_map]
                by_cases hi : i < ns.length
                · rw [List.getElem?_range hi, List.getElem?_eq_getElem hi]
                  simp [List.getD_eq_getElem?_getD, List.getElem?_eq_getElem hi]
                · rw [List.getElem?_eq_none (by simpa using hi), List.getElem?_eq_none (by omega)]
                  rfl
              rw [er] at hz11
              have hR11 := e11 _ _ hR9
              have zR : z ≠ R := fun h => by rw [h, hR9] at hz; cases hz
              have pR : p ≠ R := fun h => by
                rw [h] at hp4
                rw [hR4] at hp4
                cases hp4
              refine ⟨R, _, .ref z, rfl, rfl, hR11, Evl.sz_lt (by rw [List.length_map]; omega), ?_⟩
              refine ⟨rs ++ [z], acc ++ [ns], _, _, _, none, none, rfl, Evl.Ex.mut (eH9.trans e11) hRH, by rw [upd_ne pR]; exact e11 _ _ hp9, by rw [upd_same, List.map_append]; rfl, ?_, ?_, by rw [List.length_append]; simp; omega, ?_, hrd⟩
              · refine RowsL.app ?_ ((hRw9.ex e11).upd fun q hq' => hq q hq')
                exact ⟨by rw [upd_ne zR]; exact hz11, trivial⟩
              · intro q hq'
                rcases List.mem_append.mp hq' with h | h
                · exact hq q h
                · rw [List.mem_singleton.mp h]; exact zR
              · intro ms hms
                rcases List.mem_append.mp hms with h | h
                · exact hg ms h
                · rw [List.mem_singleton.mp h]; exact nr
        · refine ifT (by simp; omega) ⟨_, rfl, kfin (none_of (by rw [hrw]; exact if_neg fun z => hln z.2)) _ (Ex.refl _)⟩
      · refine ifT (by simp [hw]) ⟨_, rfl, kfin (none_of (by rw [hrw]; exact if_neg fun z => hw z.1)) _ (Ex.refl _)⟩
    · rintro σ' H' ⟨rs, acc, y2, y5, y6, y7, y8, rfl, eH, hpH, hRH', hRw, hq, h16, hg, hrd⟩
      rw [List.drop_length] at hrd
      refine ⟨_, rfl, _, rfl, Evl.sz_of (by simp), fun t ht => ?_⟩
      have e := ev_up (o := .tup [.int (n : Int), .ref R]) ht
      exact k2 n acc hrd t R _ (Evl.fresh_back eH ht) (eH.trans e) upd_same ⟨rs, e _ _ hRH', hRw.ex e⟩ h16
end
end Sr
/-! # Y7 -/
namespace Sr
open PySem PySem.Spec PyProof.Rows L2
open TL (tl numL)
open Evl (Ex Ev EvL EvU EvT EvA RetL RetV)
abbrev s_l_lines : Stmt := topS 49
abbrev n_l_lines : List Str := ["_law_cell", "_law_letters", "_law_some", "_law_lines_here", "_law_one", "_law_k", "_law_part_here"]
theorem sc_l_lines : FnScope n_l_lines ["_law_cell"] (defScope s_l_lines) := ⟨rfl, rfl, rfl, by decide +kernel, rfl, by decide +kernel, by decide +kernel⟩
abbrev s_l_bent : Stmt := topS 50
abbrev n_l_bent : List Str := ["_law_cell", "_law_lines_here", "_law_at", "_law_other", "_law_way", "_law_some", "_law_found", "_law_spot", "_law_sign", "_law_line"]
theorem sc_l_bent : FnScope n_l_bent ["_law_cell", "_law_lines_here"] (defScope s_l_bent) := ⟨rfl, rfl, rfl, by decide +kernel, rfl, by decide +kernel, by decide +kernel⟩
abbrev s_l_said : Stmt := topS 51
abbrev n_l_said : List Str := ["_law_text", "_law_caught", "_law_found", "_law_e"]
theorem sc_l_said : FnScope n_l_said ["_law_text"] (defScope s_l_said) := ⟨rfl, rfl, rfl, by decide +kernel, rfl, by decide +kernel, by decide +kernel⟩
abbrev s_law : Stmt := topS 52
abbrev n_law : List Str := ["_law_script", "_law_k", "_law_cell", "_law_mixed_here", "_law_lines_here", "_law_turn", "_law_text", "_law_due", "_law_odd"]
theorem sc_law : FnScope n_law ["_law_script"] (defScope s_law) := ⟨rfl, rfl, rfl, by decide +kernel, rfl, by decide +kernel, by decide +kernel⟩
section
variable {P : Program} {w : World} {K : PySem.W.Frag} {mg : Str → Option Value} {base : Heap} {f : Addr} {fd : FuncData}
theorem lcRD {te : TE} {σ : L2.St} {H : Hp} {j : Nat} {vs : List Nat} {Dl : Addr} {Qd : Hp → Prop} {m : Nat} (G : Nat → V → Prop) (hD : H Dl = none) (hn : m ≤ 40000) (hw : ∀ x, wipe ((wipe σ vs).set j (some x)) vs = wipe σ vs)
    (he : ∀ (i : Nat) H1, Ex H H1 → i < m → EvX te ((wipe σ vs).set j (some (.int (i : Int)))) H1 (fun y _ => G i y))
    (q : ∀ ys H2, Ex H H2 → H2 Dl = some (.lst ys) → ys.length = m → (∀ k y, ys[k]? = some y → G k y) → Qd H2) :
    ∃ W : Nat → Nat → Hp → Prop, (∃ m', W 0 m' (upd H Dl (.lst []))) ∧ ∀ i m' H', W i m' H' →
      ((Itr 0 m).stop i H' ∧ Qd H') ∨ ((Itr 0 m).go i H' ∧ ∃ Nx : Hp → Prop, (∀ H'', Nx H'' → ∃ m2, m2 < m' ∧ W (i + 1) m2 H'') ∧ ∀ x H'', (Itr 0 m).yld i H' x H'' → gName j x (wipe σ vs) H'' fun σ2 H2 => wipe σ2 vs = wipe σ vs ∧ tYes σ2 H2 fun b H3 =>
        if b = true then te σ2 H3 fun y H4 => ∃ acc, H4 Dl = some (.lst acc) ∧ acc.length < sizeLine ∧ Nx (upd H4 Dl (.lst (acc ++ [y]))) else Nx H3) :=
  lc_range (lo := 0) (n := m) (Cwx H G Dl) ⟨hD, Evl.Ex.new hD, [], upd_same, rfl, fun k y hk => by simp at hk⟩ (fun i H' hi p => by
    have e0 : (0 : Int) + (i : Int) = (i : Int) := Int.zero_add _
    rw [e0]
    exact ⟨hw _, cwx_turn p (by omega) (he i H (Ex.refl H) hi)⟩)
    (fun H' ⟨p1, p2, ys, p3, p4, p5⟩ => q ys H' p2 p3 p4 p5)
theorem str_range {ns : List Int} : (List.range (ns.map V.int).length).map (fun i => V.str (istr (ns.getD i 0))) = (ns.map istr).map V.str := by
  apply List.ext_getElem?
  intro i
  rw [List.length_map, List.getElem?_map, List.getElem?_map, List.getElem?_map]
  by_cases hi : i < ns.length
  · rw [List.getElem?_range hi, List.getElem?_eq_getElem hi]
    simp [List.getD_eq_getElem?_getD, List.getElem?_eq_getElem hi]
  · rw [List.getElem?_eq_none (by simpa using hi), List.getElem?_eq_none (by omega)]
    rfl
/-- lines, k bends behind the first -/
structure Lns (k : Nat) (ls : List Str) : Prop where
  pos : 0 < ls.length
  many : ls.length ≤ 17 + k
  each : ∀ l ∈ ls, l.length ≤ 110 + k ∧ Asc l
theorem asc_LN {n : Nat} : Asc (LN (n : Int)) := fun c hc => by
  rw [tl_LN] at hc
  rcases List.mem_append.mp hc with h | h
  · simp at h
    omega
  · rcases sgL_mem h with h | h <;> omega
theorem asc_NL {ns : List Int} : Asc (NL ns) := fun c hc => by
  rw [tl_NL] at hc
  rcases mem_joinL hc with h | ⟨p, h1, h2⟩
  · simp at h
    omega
  · rw [List.map_cons] at h1
    rcases List.mem_cons.mp h1 with h1 | h1
    · rw [h1] at h2
      have e0 : tl ("nothing" : Str) = [110, 111, 116, 104, 105, 110, 103] := by decide
      rw [e0] at h2
      simp at h2
      omega
    · obtain ⟨x, hx, rfl⟩ := List.mem_map.mp h1
      obtain ⟨i, _, rfl⟩ := List.mem_map.mp hx
      rw [tl_int] at h2
      rcases sgL_mem h2 with h | h <;> omega
def spLines : Sp := fun vs H Q _ => ∃ c : Int, vs = [.int c] ∧ ∀ p ls H', H p = none → Ex H H' → H' p = some (.lst (ls.map V.str)) → Lns 0 ls → Q (.ref p) H'
theorem ok_l_lines (F : FnP K "_law_lines" "_law_lines" s_l_lines f fd) (B : Bi mg) (D_l_mixed : Df P w K mg base CX0 1 "_law_mixed" ["_law_cell", "_law_k"] spMixed) (D_l_told : Df P w K mg base CX0 4 "_law_told" ["_law_cells", "_law_letters"] (spTold K)) : FnOk P w K mg base CX0 5 f fd ["_law_cell"] spLines := by
  refine F.ok sc_l_lines (fun vs H Q E h => ?_) (fun cdv A outer s H vs Q E hr h => ⟨_, PSs.nox
   (pss_cons (ps_set (i := 1) sc_l_lines.nd rfl (Or.inl rfl) (pe_op op_mod (pe_df D_l_mixed (hr.mono (by decide)) (pa_cons (pv 0) (pa_cons pe_int pa_nil))) pe_int))
      (pss_cons (ps_setLc (i := 2) (own := [("_law_k", 5)]) (g := gName 5) (tt := tYes) rfl sc_l_lines.nd rfl rfl (sw_true rfl rfl rfl (by decide +kernel)) (pi_range1 rfl B.range_ (pa_cons (pe_ix ix_h (pe_lst (pa_cons (pe_op op_mod (pe_df D_l_mixed (hr.mono (by decide)) (pa_cons (pv 0) (pa_cons pe_int pa_nil))) pe_int) (pa_cons pe_int (pa_cons pe_int (pa_cons pe_int pa_nil))))) (pe_op op_mod (pe_df D_l_mixed (hr.mono (by decide)) (pa_cons (pv 0) (pa_cons pe_int pa_nil))) pe_int) (fun _ _ => rfl)) pa_nil)) (blkOk_by (N := n_l_lines) (sc := defScope s_l_lines) (by decide +kernel)) (fun _ _ _ _ _ => (pg_name (i := 5) sc_l_lines.nd rfl (Or.inl rfl))) (fun _ _ _ _ _ => pts_nil) (fun _ _ _ _ _ => (pe_df D_l_mixed (hr.mono (by decide)) (pa_cons (pv 0) (pa_cons (pe_op op_add pe_int (pv 5)) pa_nil)))))
      (pss_cons (ps_set (i := 3) sc_l_lines.nd rfl (Or.inl rfl) (pe_lst (pa_cons (pe_op op_add_str pe_str (pe_callTy call_str_int rfl B.str_ boot_str (pa_cons (pv 1) pa_nil))) pa_nil)))
      (pss_cons (ps_for PassesOwn.never rfl (pi_list (pe_df D_l_told (hr.mono (by decide)) (pa_cons (pv 2) (pa_cons (pv 1) pa_nil)))) (pg_name (i := 4) sc_l_lines.nd rfl (Or.inl rfl))
      (pss_one (ps_expr (pe_bm PySem.F.plainAttrs_list PySem.F.slot_list_append PySem.F.type_list_append mt_append (pv 3) (pa_cons (pe_join pe_str (pe_op op_cat (pe_lst (pa_cons pe_str pa_nil)) (pe_lc (own := [("_law_part_here", 6)]) (g := gName 6) (tt := tYes) rfl sc_l_lines.nd (pi_list (pv 4)) (blkOk_by (N := n_l_lines) (sc := defScope s_l_lines) (by decide +kernel)) (fun _ _ _ _ _ => (pg_name (i := 6) sc_l_lines.nd rfl (Or.inl rfl))) (fun _ _ _ _ _ => pts_nil) (fun _ _ _ _ _ => (pe_callTy call_str_int rfl B.str_ boot_str (pa_cons (pv 6) pa_nil)))))) pa_nil)))))
      (pss_one (ps_ret (pv 3))))))), ?_⟩)
  · obtain ⟨c, rfl, _⟩ := h
    rfl
  · obtain ⟨c, rfl, k⟩ := h
    simp only [cxK]
    refine ⟨_, rfl, c, 1, rfl, by decide, by decide, fun m m0 m1 _ => ⟨m, 7, rfl, rfl, (by show (0 : Int) < 7; decide), ?_⟩⟩
    obtain ⟨n, hn⟩ := Int.eq_ofNat_of_zero_le (a := m % 7) (by omega)
    have hn' : m % 7 = (n : Int) := hn
    have n6 : n ≤ 6 := by omega
    dsimp only
    rw [hn']
    refine ⟨_, rfl, c, 3, rfl, by decide, by decide, fun m3 m30 m31 _ => ⟨m3, 5, rfl, rfl, (by show (0 : Int) < 5; decide), Evl.sz_of (by simp), fun p hp => ?_⟩⟩
    have e1 := ev_up (o := .lst [V.int (m3 % 5), V.int 16, V.int 15, V.int 1]) hp
    have hp1 : upd H p (.lst [V.int (m3 % 5), V.int 16, V.int 15, V.int 1]) p = some (.lst [V.int (m3 % 5), V.int 16, V.int 15, V.int 1]) := upd_same
    dsimp only
    generalize upd H p (.lst [V.int (m3 % 5), V.int 16, V.int 15, V.int 1]) = H1 at e1 hp1 ⊢
    refine ⟨_, rfl, c, 4, rfl, by decide, by decide, fun m4 m40 m41 _ => ⟨m4, 4, rfl, rfl, (by show (0 : Int) < 4; decide), ?_⟩⟩
    have pk : ∃ z : Nat, atI [V.int (m3 % 5), V.int 16, V.int 15, V.int 1] (m4 % 4) = some (V.int (z : Int)) ∧ z ≤ 16 := by
      rcases (by omega : m4 % 4 = 0 ∨ m4 % 4 = 1 ∨ m4 % 4 = 2 ∨ m4 % 4 = 3) with h | h | h | h <;> rw [h]
      · refine ⟨(m3 % 5).toNat, ?_, by omega⟩
        rw [Int.toNat_of_nonneg (by omega)]
        rfl
      · exact ⟨16, rfl, by omega⟩
      · exact ⟨15, rfl, by omega⟩
      · exact ⟨1, rfl, by omega⟩
    obtain ⟨z, hz, z16⟩ := pk
    refine ⟨p, _, _, _, rfl, rfl, hp1, hz, _, rfl, by omega, by omega, ?_⟩
    rw [show ((z : Int)).toNat = z from Int.toNat_natCast z]
    intro Dl hD
    refine lcRD (m := z) (fun _ y => ∃ v : Int, y = V.int v ∧ True) hD (by omega) (fun x => rfl) (fun i H2 e2 hi H3 e3 Q3 q3 => ?_) fun ys H2 e2 hD2 yl hys => ?_
    · refine ⟨_, rfl, _, rfl, _, _, rfl, rfl, c, 2 + (i : Int), rfl, by omega, by omega, fun v _ _ _ => q3 _ H3 (Ex.refl H3) ⟨v, rfl, trivial⟩⟩
    obtain ⟨cs, rfl, _⟩ := ints_of hys
    rw [List.length_map] at yl
    refine ⟨_, rfl, (n : Int), rfl, log_ok (by omega), _, _, rfl, rfl, Evl.sz_of (Nat.le_trans (Nat.add_le_add_left (istr_len (i := (n : Int)) (by omega)) _) (by decide)), Evl.sz_of (by simp), fun Lp hLp => ?_⟩
    rw [show (("letters " : Str) ++ Str.ofString (toString (n : Int))) = LN n from rfl]
    have e3 := ev_up (o := .lst [V.str (LN n)]) hLp
    have hL3 : upd H2 Lp (.lst [V.str (LN n)]) Lp = some (.lst ([LN n].map V.str)) := upd_same
    have hD3 := e3 _ _ hD2
    generalize upd H2 Lp (.lst [V.str (LN n)]) = H3 at e3 hL3 hD3 ⊢
    have e02 := e1.trans e2
    refine ⟨_, rfl, _, rfl, Dl, cs, n, rfl, Evl.sq_of hD3, by omega, n6, fun a qs nss H4 ha e4 ha4 hR4 hN _ => ?_⟩
    have hL4 := e4 _ _ hL3
    have hLH : H Lp = none := Evl.fresh_back e02 hLp
    have aL : a ≠ Lp := fun z => by rw [z, hL3] at ha; cases ha
    have ql := hR4.len
    have off : ∀ r ∈ qs, r ≠ Lp := fun r hr z => by
      obtain ⟨i, hi⟩ := List.mem_iff_getElem?.mp hr
      obtain ⟨ns, _, h⟩ := hR4.get hi
      rw [z, hL4] at h
      have h := congrArg (fun o => match o with | some (HO.lst (V.str _ :: _)) => true | _ => false) h
      cases ns <;> cases h
    refine ⟨a, rfl, ⟨_, Evl.sq_of ha4⟩, for_list (K := K) (a := a) (xs := qs.map V.ref) (fun i σ' H' => ∃ (y4 : Option V), σ' = [some (.int c), some (.int (n : Int)), some (.ref Dl), some (.ref Lp), y4, none, none] ∧ Ex H H' ∧ H' a = some (.lst (qs.map V.ref)) ∧ RowsL H' qs nss ∧ H' Lp = some (.lst ((LN n :: (nss.take i).map NL).map V.str))) ⟨none, rfl, (e02.trans e3).trans e4, ha4, hR4, hL4⟩ (fun i σ' H' _ ⟨_, _, _, h, _⟩ => Evl.sq_of h) ?_ ?_⟩
    · rintro i v σ' H' hv ⟨y4, rfl, eH, haH, hRH, hL⟩
      rw [List.getElem?_map] at hv
      cases hv2 : qs[i]? with
      | none => rw [hv2] at hv; cases hv
      | some r =>
        rw [hv2] at hv
        obtain rfl : V.ref r = v := Option.some.inj hv
        obtain ⟨ns, hns, hr⟩ := hRH.get hv2
        have hi : i < nss.length := (List.getElem?_eq_some_iff.mp hns).1
        obtain ⟨nl, nn⟩ := hN.good ns (List.mem_of_getElem? hns)
        have hb : ∀ y ∈ ns, y.natAbs ≤ 1000000000000 := fun y hy => by have := nn y hy; omega
        refine ⟨_, rfl, Or.inl ⟨rfl, _, Or.inl (Or.inl hL)⟩, ⟨_, rfl⟩, Evl.sz_of (by simp), fun u hu => ?_⟩
        have e5 := ev_up (o := .lst [V.str "nothing"]) hu
        have hu5 : upd H' u (.lst [V.str "nothing"]) u = some (.lst [V.str "nothing"]) := upd_same
        have hr5 := e5 _ _ hr
        have ha5 := e5 _ _ haH
        have hR5 := hRH.ex e5
        have hL5 := e5 _ _ hL
        have eH5 := eH.trans e5
        generalize upd H' u (.lst [V.str "nothing"]) = H5 at e5 hu5 hr5 ha5 hR5 hL5 eH5 ⊢
        refine ⟨_, rfl, r, rfl, ⟨_, Evl.sq_of hr5⟩, fun D hD6 => ?_⟩
        refine lcLD (K := K) (a := r) (xs := ns.map V.int) (fun i => V.str (istr (ns.getD i 0))) hD6 (Evl.sq_of hr5) (by rw [List.length_map]; omega) (fun x => rfl) (fun i y H7 e7 hy => ?_) fun H6 e6 hD7 => ?_
        · rw [List.getElem?_map] at hy
          cases hy2 : ns[i]? with
          | none => rw [hy2] at hy; cases hy
          | some y1 =>
            rw [hy2] at hy
            cases hy
            intro H8 e8 Q2 q2
            refine ⟨_, rfl, y1, rfl, log_ok (hb y1 (List.mem_of_getElem? hy2)), q2 _ H8 (Ex.refl H8) ?_⟩
            rw [List.getD_eq_getElem?_getD, hy2]
            rfl
        rw [str_range] at hD7
        refine ⟨u, D, _, _, rfl, rfl, e6 _ _ hu5, hD7, Evl.sz_of (by rw [List.length_map, List.length_map]; simp; omega), fun L hL8 => ?_⟩
        have e8 := ev_up (o := .lst ([V.str "nothing"] ++ (ns.map istr).map V.str)) hL8
        have e68 := e6.trans e8
        refine ⟨_, L, ("nothing" : Str) :: ns.map istr, rfl, rfl, .inl (Evl.sq_of upd_same), ?_, ?_⟩
        · have := sum_le (B := 14) (l := (("nothing" : Str) :: ns.map istr).map (·.length)) fun x hx => by
            rw [List.map_cons] at hx
            rcases List.mem_cons.mp hx with h | h
            · rw [h]; decide
            · obtain ⟨y, hy, rfl⟩ := List.mem_map.mp h
              obtain ⟨i, hi, rfl⟩ := List.mem_map.mp hy
              exact istr_len (hb i hi)
          rw [List.length_map, List.length_cons, List.length_map] at this
          rw [List.length_cons, List.length_map]
          have e : (" " : Str).length = 1 := by decide
          rw [e]
          omega
        · have hL9 := e68 _ _ hL5
          have m16 := hN.m16
          refine ⟨Lp, _, .str (NL ns), rfl, rfl, hL9, Evl.sz_lt (by rw [List.length_map, List.length_cons, List.length_map, List.length_take]; omega), ?_⟩
          refine ⟨_, rfl, Evl.Ex.mut (eH5.trans e68) hLH, by rw [upd_ne aL]; exact e68 _ _ ha5, (hR5.ex e68).upd off, ?_⟩
          rw [upd_same, List.take_succ, hns]
          simp
    · rintro σ' H' ⟨y4, rfl, eH, haH, hRH, hL⟩
      rw [List.length_map, ql, List.take_length] at hL
      have m16 := hN.m16
      refine ⟨_, rfl, k Lp (LN n :: nss.map NL) H' hLH eH hL ⟨by simp, by rw [List.length_cons, List.length_map]; omega, fun l hl => ?_⟩⟩
      rcases List.mem_cons.mp hl with h | h
      · rw [h]
        exact ⟨Nat.le_trans (LN_len n6) (by decide), asc_LN⟩
      · obtain ⟨ns, hns, rfl⟩ := List.mem_map.mp h
        obtain ⟨nl, nn⟩ := hN.good ns hns
        exact ⟨Nat.le_trans (NL_len (by omega) fun y hy => by have := nn y hy; omega) (by decide), asc_NL⟩
end
end Sr
/-! # Y8 -/
namespace Sr
open PySem PySem.Spec PyProof.Rows L2
open TL (tl numL)
open Evl (Ex Ev EvL EvU EvT EvA RetL RetV)
section
variable {P : Program} {w : World} {K : PySem.W.Frag} {mg : Str → Option Value} {base : Heap} {f : Addr} {fd : FuncData}
def spBent : Sp := fun vs H Q _ => ∃ (c : Int) (a : Addr) (ls : List Str) (k : Nat), vs = [.int c, .ref a] ∧ H a = some (.lst (ls.map V.str)) ∧ Lns k ls ∧ k ≤ 3 ∧ ∀ p ls' H', H p = none → Ex H H' → H' p = some (.lst (ls'.map V.str)) → Lns (k + 1) ls' → Q (.ref p) H'
theorem lns_of {k : Nat} {ls ls' : List Str} (L : Lns k ls) (h0 : 0 < ls'.length) (h1 : ls'.length ≤ ls.length + 1) (h : ∀ l ∈ ls', l ∈ ls ∨ (l.length ≤ 111 + k ∧ Asc l)) : Lns (k + 1) ls' := by
  refine ⟨h0, by have := L.many; omega, fun l hl => ?_⟩
  rcases h l hl with h | h
  · have := L.each l h
    exact ⟨by omega, this.2⟩
  · exact ⟨by omega, h.2⟩
theorem lns_ins {k i j : Nat} {ls : List Str} {l : Str} (L : Lns k ls) (hij : i ≤ j) (hl : l.length ≤ 111 + k) (ha : Asc l) : Lns (k + 1) (ls.take i ++ [l] ++ ls.drop j) := by
  refine lns_of L (by rw [List.length_append, List.length_append, List.length_singleton]; omega) ?_ fun x hx => ?_
  · rw [List.length_append, List.length_append, List.length_take, List.length_drop, List.length_singleton]
    omega
  · rcases List.mem_append.mp hx with h | h
    · rcases List.mem_append.mp h with h | h
      · exact .inl (List.mem_of_mem_take h)
      · rw [List.mem_singleton.mp h]; exact .inr ⟨hl, ha⟩
    · exact .inl (List.mem_of_mem_drop h)
theorem lns_del {k i : Nat} {ls : List Str} (L : Lns k ls) (hi : i < ls.length) (h1 : 1 < ls.length) : Lns (k + 1) (ls.take i ++ ls.drop (i + 1)) := by
  refine lns_of L ?_ ?_ fun x hx => ?_
  · rw [List.length_append, List.length_take, List.length_drop]
    omega
  · rw [List.length_append, List.length_take, List.length_drop]
    omega
  · rcases List.mem_append.mp hx with h | h
    · exact .inl (List.mem_of_mem_take h)
    · exact .inl (List.mem_of_mem_drop h)
def odd30 : List Str := ["", " ", "letters 2", "letters 7", "letters 02", "letters", "letters 1 1", "letter 1", "Letters 1", "letters -1", "nothing", "nothing 0", "nothing 1 2", "nothing -0", "nothing 00", "nothing 01", "nothing  1", "nothing 1 ", "nothing 1000000000000", "nothing 1000000000001", "nothing -1000000000000", "nothing 99999999999999", "nothing -", "nothing +1", "nothing 1 -1 0", "nothing 1.0", "nothing a", "Nothing 1", " nothing 1", "nothings 1"]
theorem odd30_ok : ∀ l ∈ odd30, l.length ≤ 100 ∧ Asc l := by
  have h : odd30.all (fun l => decide (l.length ≤ 100) && (tl l).all (fun c => decide (c < 128))) = true := by decide +kernel
  intro l hl
  have := List.all_eq_true.mp h l hl
  rw [Bool.and_eq_true] at this
  exact ⟨of_decide_eq_true this.1, fun c hc => of_decide_eq_true (List.all_eq_true.mp this.2 c hc)⟩
theorem fin3 {σ : L2.St} {H H2 : Hp} {a c1 : Addr} {i j : Nat} {te : TE} {l : Str} {ls : List Str} {k : Nat} {Q : VK} (h1 : σ[1]? = some (some (.ref a))) (hij : i ≤ j) (hte : ∀ (H : Hp) (Q : VK), Q (.int (j : Int)) H → te σ H Q) (L : Lns k ls) (hk : k ≤ 3) (ha : H2 a = some (.lst (ls.map V.str))) (hc : H2 c1 = some (.lst ((ls.take i).map V.str))) (e : Ex H H2) (hl : l.length ≤ 111 + k) (hA : Asc l)
    (q : ∀ p ls' H', H p = none → Ex H H' → H' p = some (.lst (ls'.map V.str)) → Lns (k + 1) ls' → Q (.ref p) H') :
    [V.str l].length ≤ sizeLine ∧ ∀ p, H2 p = none → rCat (.ref c1) (.ref p) (upd H2 p (.lst [V.str l])) (fun x H1 => (tSl (rSlL K) (tVar 1) (tPart te) tNoPart) σ H1 fun y H3 => rCat x y H3 Q) := by
  have hm := L.many
  refine ⟨Evl.sz_of (by simp), fun u hu => ?_⟩
  have e1 := ev_up (o := .lst [V.str l]) hu
  refine ⟨c1, u, _, _, rfl, rfl, e1 _ _ hc, upd_same, Evl.sz_of (by rw [List.length_map, List.length_take, List.length_singleton]; omega), fun w hw => ?_⟩
  have ha1 := e1 _ _ ha
  have e01 := e.trans e1
  generalize upd H2 u (.lst [V.str l]) = H3 at ha1 e01 hw ⊢
  have ew : (ls.take i).map V.str ++ [V.str l] = (ls.take i ++ [l]).map V.str := by simp
  rw [ew]
  have e2 := ev_up (o := .lst ((ls.take i ++ [l]).map V.str)) hw
  have hw4 : upd H3 w (.lst ((ls.take i ++ [l]).map V.str)) w = some (.lst ((ls.take i ++ [l]).map V.str)) := upd_same
  have ha4 := e2 _ _ ha1
  have e02 := e01.trans e2
  generalize upd H3 w (.lst ((ls.take i ++ [l]).map V.str)) = H4 at e2 hw4 ha4 e02 ⊢
  refine ⟨_, h1, hte _ _ ⟨_, rfl, a, _, rfl, Evl.sq_of ha4, fun c2 hc2 => ?_⟩⟩
  have ec : cutV (ls.map V.str) (some (j : Int)) none = (ls.drop j).map V.str := by rw [List.map_drop]; exact cut_from _ j
  rw [ec]
  have e3 := ev_up (o := .lst ((ls.drop j).map V.str)) hc2
  refine ⟨w, c2, _, _, rfl, rfl, e3 _ _ hw4, upd_same, Evl.sz_of (by rw [List.length_map, List.length_map, List.length_append, List.length_take, List.length_drop, List.length_singleton]; omega), fun p hp => ?_⟩
  rw [← List.map_append]
  exact q p _ _ (Evl.fresh_back (e02.trans e3) hp) ((e02.trans e3).trans (ev_up hp)) upd_same (lns_ins L hij hl hA)
theorem tl_to (x : Str) (s : Nat) : tl (cutS x none (some (s : Int))) = (tl x).take s := by
  have e : x.cps.toList = tl x := rfl
  have l := TL.len_tl x
  unfold cutS
  show ((x.cps.toList.drop _).take _) = _
  rw [e, HT.sIx_none, HT.sIx_nat, l, List.drop_zero, Nat.sub_zero]
  by_cases h : s ≤ (tl x).length
  · rw [Nat.min_eq_left h]
  · rw [Nat.min_eq_right (by omega), List.take_length, List.take_of_length_le (by omega)]
theorem tl_from (x : Str) (s : Nat) : tl (cutS x (some (s : Int)) none) = (tl x).drop s := by
  have e : x.cps.toList = tl x := rfl
  have l := TL.len_tl x
  unfold cutS
  show ((x.cps.toList.drop _).take _) = _
  rw [e, HT.sIx_none, HT.sIx_nat, l]
  by_cases h : s ≤ (tl x).length
  · rw [Nat.min_eq_left h]
    exact List.take_of_length_le (by rw [List.length_drop]; omega)
  · rw [Nat.min_eq_right (by omega), List.drop_length, List.drop_of_length_le (by omega)]
    simp
theorem ixn {n i : Nat} (h : i < n) : L2.ixN n (i : Int) = some i := by
  unfold L2.ixN
  rw [if_pos (by omega), if_pos (by omega), Int.toNat_natCast]
theorem lns_swap {k i o : Nat} {ls : List Str} {li lo : Str} (L : Lns k ls) (hi : ls[i]? = some li) (ho : ls[o]? = some lo) : Lns (k + 1) ((ls.set i lo).set o li) := by
  refine lns_of L (by rw [List.length_set, List.length_set]; exact L.pos) (by rw [List.length_set, List.length_set]; omega) fun x hx => .inl ?_
  rcases List.mem_or_eq_of_mem_set hx with h | h
  · rcases List.mem_or_eq_of_mem_set h with h | h
    · exact h
    · rw [h]; exact List.mem_of_getElem? ho
  · rw [h]; exact List.mem_of_getElem? hi
theorem ok_l_bent (F : FnP K "_law_bent" "_law_bent" s_l_bent f fd) (B : Bi mg) (D_l_mixed : Df P w K mg base CX0 1 "_law_mixed" ["_law_cell", "_law_k"] spMixed) : FnOk P w K mg base CX0 2 f fd ["_law_cell", "_law_lines_here"] spBent := by
  refine F.ok sc_l_bent (fun vs H Q E h => ?_) (fun cdv A outer s H vs Q E hr h => ⟨_, PSs.nox
   (pss_cons (ps_set (i := 2) sc_l_bent.nd rfl (Or.inl rfl) (pe_op op_mod (pe_df D_l_mixed (hr.mono (by decide)) (pa_cons (pv 0) (pa_cons pe_int pa_nil))) (pe_callB call_len_seq rfl B.len_ boot_len (pa_cons (pv 1) pa_nil))))
      (pss_cons (ps_set (i := 3) sc_l_bent.nd rfl (Or.inl rfl) (pe_op op_mod (pe_df D_l_mixed (hr.mono (by decide)) (pa_cons (pv 0) (pa_cons pe_int pa_nil))) (pe_callB call_len_seq rfl B.len_ boot_len (pa_cons (pv 1) pa_nil))))
      (pss_cons (ps_set (i := 4) sc_l_bent.nd rfl (Or.inl rfl) (pe_op op_mod (pe_df D_l_mixed (hr.mono (by decide)) (pa_cons (pv 0) (pa_cons pe_int pa_nil))) pe_int))
      (pss_cons (ps_set (i := 5) sc_l_bent.nd rfl (Or.inl rfl) (pe_lst (pa_cons pe_str (pa_cons pe_str (pa_cons pe_str (pa_cons pe_str (pa_cons pe_str (pa_cons pe_str (pa_cons pe_str (pa_cons pe_str (pa_cons pe_str pa_nil)))))))))))
      (pss_cons (ps_set (i := 5) sc_l_bent.nd rfl (Or.inl rfl) (pe_op op_cat (pv 5) (pe_lst (pa_cons pe_str (pa_cons pe_str (pa_cons pe_str (pa_cons pe_str (pa_cons pe_str (pa_cons pe_str (pa_cons pe_str pa_nil))))))))))
      (pss_cons (ps_set (i := 5) sc_l_bent.nd rfl (Or.inl rfl) (pe_op op_cat (pv 5) (pe_lst (pa_cons pe_str (pa_cons pe_str pa_nil)))))
      (pss_cons (ps_set (i := 5) sc_l_bent.nd rfl (Or.inl rfl) (pe_op op_cat (pv 5) (pe_lst (pa_cons pe_str (pa_cons pe_str (pa_cons pe_str (pa_cons pe_str pa_nil)))))))
      (pss_cons (ps_set (i := 5) sc_l_bent.nd rfl (Or.inl rfl) (pe_op op_cat (pv 5) (pe_lst (pa_cons pe_str (pa_cons pe_str (pa_cons pe_str (pa_cons pe_str (pa_cons pe_str (pa_cons pe_str pa_nil)))))))))
      (pss_cons (ps_set (i := 5) sc_l_bent.nd rfl (Or.inl rfl) (pe_op op_cat (pv 5) (pe_lst (pa_cons pe_str (pa_cons pe_str pa_nil)))))
      (pss_cons (ps_if (pt_cmpR op_eq (pv 4) pe_int (nomark _))
      (pss_one (ps_ret (pe_ifExp (pt_cmpR op_gt (pe_callB call_len_seq rfl B.len_ boot_len (pa_cons (pv 1) pa_nil)) pe_int (nomark _)) (pe_op op_cat (pe_slice sl_list (pv 1) po_none (po_some (pv 2))) (pe_slice sl_list (pv 1) (po_some (pe_op op_add (pv 2) pe_int)) po_none)) (pe_lst (pa_cons pe_str pa_nil)))))
      pss_nil)
      (pss_cons (ps_if (pt_cmpR op_eq (pv 4) pe_int (nomark _))
      (pss_one (ps_ret (pe_op op_cat (pe_op op_cat (pe_slice sl_list (pv 1) po_none (po_some (pv 2))) (pe_lst (pa_cons (pe_ix ix_list (pv 1) (pv 3) (fun _ _ => rfl)) pa_nil))) (pe_slice sl_list (pv 1) (po_some (pv 2)) po_none))))
      pss_nil)
      (pss_cons (ps_if (pt_cmpR op_eq (pv 4) pe_int (nomark _))
      (pss_one (ps_ret (pe_op op_cat (pe_op op_cat (pe_slice sl_list (pv 1) po_none (po_some (pv 2))) (pe_lst (pa_cons (pe_ix ix_list (pv 5) (pe_op op_mod (pe_df D_l_mixed (hr.mono (by decide)) (pa_cons (pv 0) (pa_cons pe_int pa_nil))) pe_int) (fun _ _ => rfl)) pa_nil))) (pe_slice sl_list (pv 1) (po_some (pv 2)) po_none))))
      pss_nil)
      (pss_cons (ps_if (pt_cmpR op_eq (pv 4) pe_int (nomark _))
      (pss_one (ps_ret (pe_op op_cat (pe_op op_cat (pe_slice sl_list (pv 1) po_none (po_some (pv 2))) (pe_lst (pa_cons (pe_ix ix_list (pv 5) (pe_op op_mod (pe_df D_l_mixed (hr.mono (by decide)) (pa_cons (pv 0) (pa_cons pe_int pa_nil))) pe_int) (fun _ _ => rfl)) pa_nil))) (pe_slice sl_list (pv 1) (po_some (pe_op op_add (pv 2) pe_int)) po_none))))
      pss_nil)
      (pss_cons (ps_if (pt_cmpR op_eq (pv 4) pe_int (nomark _))
      (pss_cons (ps_set (i := 6) sc_l_bent.nd rfl (Or.inl rfl) (pe_callTy (r := Evl.rListS K) call_list_of rfl B.list_ boot_list (pa_cons (pv 1) pa_nil)))
        (pss_cons (ps_asg (pe_tup (pa_cons (pe_ix ix_list (pv 6) (pv 3) (fun _ _ => rfl)) (pa_cons (pe_ix ix_list (pv 6) (pv 2) (fun _ _ => rfl)) pa_nil))) (pg_tup rfl (pgs_cons (pg_sub (pv 6) (pv 2) set_list) (pgs_cons (pg_sub (pv 6) (pv 3) set_list) pgs_nil))))
        (pss_one (ps_ret (pv 6)))))
      pss_nil)
      (pss_cons (ps_set (i := 7) sc_l_bent.nd rfl (Or.inl rfl) (pe_op op_mod (pe_df D_l_mixed (hr.mono (by decide)) (pa_cons (pv 0) (pa_cons pe_int pa_nil))) (pe_op op_add (pe_callB call_len_str rfl B.len_ boot_len (pa_cons (pe_ix ix_list (pv 1) (pv 2) (fun _ _ => rfl)) pa_nil)) pe_int)))
      (pss_cons (ps_set (i := 8) sc_l_bent.nd rfl (Or.inl rfl) (pe_ix ix_str pe_str (pe_op op_mod (pe_df D_l_mixed (hr.mono (by decide)) (pa_cons (pv 0) (pa_cons pe_int pa_nil))) pe_int) (fun _ _ => rfl)))
      (pss_cons (ps_set (i := 9) sc_l_bent.nd rfl (Or.inl rfl) (pe_op op_add_str (pe_op op_add_str (pe_slice sl_str (pe_ix ix_list (pv 1) (pv 2) (fun _ _ => rfl)) po_none (po_some (pv 7))) (pe_ix ix_h (pe_lst (pa_cons (pv 8) (pa_cons (pv 8) (pa_cons pe_str pa_nil)))) (pe_op op_sub (pv 4) pe_int) (fun _ _ => rfl))) (pe_slice sl_str (pe_ix ix_list (pv 1) (pv 2) (fun _ _ => rfl)) (po_some (pe_op op_add (pv 7) (pe_callTy call_int1 rfl B.int_ boot_int (pa_cons (pe_cmpR op_gt (pv 4) pe_int (nomark _)) pa_nil)))) po_none)))
      (pss_one (ps_ret (pe_op op_cat (pe_op op_cat (pe_slice sl_list (pv 1) po_none (po_some (pv 2))) (pe_lst (pa_cons (pv 9) pa_nil))) (pe_slice sl_list (pv 1) (po_some (pe_op op_add (pv 2) pe_int)) po_none))))))))))))))))))))), ?_⟩)
  · obtain ⟨c, a, ls, k, rfl, _⟩ := h
    rfl
  · obtain ⟨c, a, ls, k, rfl, ha, L, hk, q⟩ := h
    simp only [cxK]
    have L0 := L.pos
    have Lm := L.many
    have hlen : ((ls.map V.str).length : Int) = (ls.length : Int) := by rw [List.length_map]
    refine ⟨_, rfl, c, 1, rfl, by decide, by decide, fun m1 m10 m11 _ => ⟨_, rfl, a, _, rfl, .inl (Evl.sq_of ha), _, _, rfl, rfl, by omega, ?_⟩⟩
    refine ⟨_, rfl, c, 2, rfl, by decide, by decide, fun m2 m20 m21 _ => ⟨_, rfl, a, _, rfl, .inl (Evl.sq_of ha), _, _, rfl, rfl, by omega, ?_⟩⟩
    refine ⟨_, rfl, c, 3, rfl, by decide, by decide, fun m3 m30 m31 _ => ⟨_, _, rfl, rfl, (by show (0 : Int) < 8; decide), ?_⟩⟩
    dsimp only
    rw [hlen]
    obtain ⟨i, hi, il⟩ : ∃ i : Nat, m1 % (ls.length : Int) = (i : Int) ∧ i < ls.length := by
      have g0 := Int.emod_nonneg m1 (b := (ls.length : Int)) (by omega)
      have g1 := Int.emod_lt_of_pos m1 (b := (ls.length : Int)) (by omega)
      exact ⟨(m1 % (ls.length : Int)).toNat, by rw [Int.toNat_of_nonneg g0], by omega⟩
    obtain ⟨o, ho, ol⟩ : ∃ o : Nat, m2 % (ls.length : Int) = (o : Int) ∧ o < ls.length := by
      have g0 := Int.emod_nonneg m2 (b := (ls.length : Int)) (by omega)
      have g1 := Int.emod_lt_of_pos m2 (b := (ls.length : Int)) (by omega)
      exact ⟨(m2 % (ls.length : Int)).toNat, by rw [Int.toNat_of_nonneg g0], by omega⟩
    obtain ⟨y, hy, y8⟩ : ∃ y : Nat, m3 % 8 = (y : Int) ∧ y < 8 := ⟨(m3 % 8).toNat, by omega, by omega⟩
    rw [hi, ho, hy]
    clear hi ho hy m30 m31 m20 m21 m10 m11
    -- the thirty lines
    refine ⟨Evl.sz_of (by simp), fun p1 hp1 => ?_⟩
    have e1 := ev_up (o := .lst [V.str "", V.str " ", V.str "letters 2", V.str "letters 7", V.str "letters 02", V.str "letters", V.str "letters 1 1", V.str "letter 1", V.str "Letters 1"]) hp1
    have g1 : upd H p1 (.lst [V.str "", V.str " ", V.str "letters 2", V.str "letters 7", V.str "letters 02", V.str "letters", V.str "letters 1 1", V.str "letter 1", V.str "Letters 1"]) p1 = some (.lst [V.str "", V.str " ", V.str "letters 2", V.str "letters 7", V.str "letters 02", V.str "letters", V.str "letters 1 1", V.str "letter 1", V.str "Letters 1"]) := upd_same
    generalize upd H p1 (.lst [V.str "", V.str " ", V.str "letters 2", V.str "letters 7", V.str "letters 02", V.str "letters", V.str "letters 1 1", V.str "letter 1", V.str "Letters 1"]) = H1 at e1 g1 ⊢
    refine ⟨_, rfl, Evl.sz_of (by simp), fun u1 hu1 => ?_⟩
    have a1 := ev_up (o := .lst [V.str "letters -1", V.str "nothing", V.str "nothing 0", V.str "nothing 1 2", V.str "nothing -0", V.str "nothing 00", V.str "nothing 01"]) hu1
    have b1 : upd H1 u1 (.lst [V.str "letters -1", V.str "nothing", V.str "nothing 0", V.str "nothing 1 2", V.str "nothing -0", V.str "nothing 00", V.str "nothing 01"]) u1 = some (.lst [V.str "letters -1", V.str "nothing", V.str "nothing 0", V.str "nothing 1 2", V.str "nothing -0", V.str "nothing 00", V.str "nothing 01"]) := upd_same
    have c1 := a1 _ _ g1
    generalize upd H1 u1 (.lst [V.str "letters -1", V.str "nothing", V.str "nothing 0", V.str "nothing 1 2", V.str "nothing -0", V.str "nothing 00", V.str "nothing 01"]) = G1 at a1 b1 c1 ⊢
    refine ⟨p1, u1, _, _, rfl, rfl, c1, b1, Evl.sz_of (by simp), fun p2 hp2 => ?_⟩
    have d1 := ev_up (o := .lst ([V.str "", V.str " ", V.str "letters 2", V.str "letters 7", V.str "letters 02", V.str "letters", V.str "letters 1 1", V.str "letter 1", V.str "Letters 1"] ++ [V.str "letters -1", V.str "nothing", V.str "nothing 0", V.str "nothing 1 2", V.str "nothing -0", V.str "nothing 00", V.str "nothing 01"])) hp2
    have g2 : upd G1 p2 (.lst ([V.str "", V.str " ", V.str "letters 2", V.str "letters 7", V.str "letters 02", V.str "letters", V.str "letters 1 1", V.str "letter 1", V.str "Letters 1"] ++ [V.str "letters -1", V.str "nothing", V.str "nothing 0", V.str "nothing 1 2", V.str "nothing -0", V.str "nothing 00", V.str "nothing 01"])) p2 = some (.lst [V.str "", V.str " ", V.str "letters 2", V.str "letters 7", V.str "letters 02", V.str "letters", V.str "letters 1 1", V.str "letter 1", V.str "Letters 1", V.str "letters -1", V.str "nothing", V.str "nothing 0", V.str "nothing 1 2", V.str "nothing -0", V.str "nothing 00", V.str "nothing 01"]) := upd_same
    generalize upd G1 p2 (.lst ([V.str "", V.str " ", V.str "letters 2", V.str "letters 7", V.str "letters 02", V.str "letters", V.str "letters 1 1", V.str "letter 1", V.str "Letters 1"] ++ [V.str "letters -1", V.str "nothing", V.str "nothing 0", V.str "nothing 1 2", V.str "nothing -0", V.str "nothing 00", V.str "nothing 01"])) = H2 at d1 g2 ⊢
    have e2 := (e1.trans a1).trans d1
    refine ⟨_, rfl, Evl.sz_of (by simp), fun u2 hu2 => ?_⟩
    have a2 := ev_up (o := .lst [V.str "nothing  1", V.str "nothing 1 "]) hu2
    have b2 : upd H2 u2 (.lst [V.str "nothing  1", V.str "nothing 1 "]) u2 = some (.lst [V.str "nothing  1", V.str "nothing 1 "]) := upd_same
    have c2 := a2 _ _ g2
    generalize upd H2 u2 (.lst [V.str "nothing  1", V.str "nothing 1 "]) = G2 at a2 b2 c2 ⊢
    refine ⟨p2, u2, _, _, rfl, rfl, c2, b2, Evl.sz_of (by simp), fun p3 hp3 => ?_⟩
    have d2 := ev_up (o := .lst ([V.str "", V.str " ", V.str "letters 2", V.str "letters 7", V.str "letters 02", V.str "letters", V.str "letters 1 1", V.str "letter 1", V.str "Letters 1", V.str "letters -1", V.str "nothing", V.str "nothing 0", V.str "nothing 1 2", V.str "nothing -0", V.str "nothing 00", V.str "nothing 01"] ++ [V.str "nothing  1", V.str "nothing 1 "])) hp3
    have g3 : upd G2 p3 (.lst ([V.str "", V.str " ", V.str "letters 2", V.str "letters 7", V.str "letters 02", V.str "letters", V.str "letters 1 1", V.str "letter 1", V.str "Letters 1", V.str "letters -1", V.str "nothing", V.str "nothing 0", V.str "nothing 1 2", V.str "nothing -0", V.str "nothing 00", V.str "nothing 01"] ++ [V.str "nothing  1", V.str "nothing 1 "])) p3 = some (.lst [V.str "", V.str " ", V.str "letters 2", V.str "letters 7", V.str "letters 02", V.str "letters", V.str "letters 1 1", V.str "letter 1", V.str "Letters 1", V.str "letters -1", V.str "nothing", V.str "nothing 0", V.str "nothing 1 2", V.str "nothing -0", V.str "nothing 00", V.str "nothing 01", V.str "nothing  1", V.str "nothing 1 "]) := upd_same
    generalize upd G2 p3 (.lst ([V.str "", V.str " ", V.str "letters 2", V.str "letters 7", V.str "letters 02", V.str "letters", V.str "letters 1 1", V.str "letter 1", V.str "Letters 1", V.str "letters -1", V.str "nothing", V.str "nothing 0", V.str "nothing 1 2", V.str "nothing -0", V.str "nothing 00", V.str "nothing 01"] ++ [V.str "nothing  1", V.str "nothing 1 "])) = H3 at d2 g3 ⊢
    have e3 := (e2.trans a2).trans d2
    refine ⟨_, rfl, Evl.sz_of (by simp), fun u3 hu3 => ?_⟩
    have a3 := ev_up (o := .lst [V.str "nothing 1000000000000", V.str "nothing 1000000000001", V.str "nothing -1000000000000", V.str "nothing 99999999999999"]) hu3
    have b3 : upd H3 u3 (.lst [V.str "nothing 1000000000000", V.str "nothing 1000000000001", V.str "nothing -1000000000000", V.str "nothing 99999999999999"]) u3 = some (.lst [V.str "nothing 1000000000000", V.str "nothing 1000000000001", V.str "nothing -1000000000000", V.str "nothing 99999999999999"]) := upd_same
    have c3 := a3 _ _ g3
    generalize upd H3 u3 (.lst [V.str "nothing 1000000000000", V.str "nothing 1000000000001", V.str "nothing -1000000000000", V.str "nothing 99999999999999"]) = G3 at a3 b3 c3 ⊢
    refine ⟨p3, u3, _, _, rfl, rfl, c3, b3, Evl.sz_of (by simp), fun p4 hp4 => ?_⟩
    have d3 := ev_up (o := .lst ([V.str "", V.str " ", V.str "letters 2", V.str "letters 7", V.str "letters 02", V.str "letters", V.str "letters 1 1", V.str "letter 1", V.str "Letters 1", V.str "letters -1", V.str "nothing", V.str "nothing 0", V.str "nothing 1 2", V.str "nothing -0", V.str "nothing 00", V.str "nothing 01", V.str "nothing  1", V.str "nothing 1 "] ++ [V.str "nothing 1000000000000", V.str "nothing 1000000000001", V.str "nothing -1000000000000", V.str "nothing 99999999999999"])) hp4
    have g4 : upd G3 p4 (.lst ([V.str "", V.str " ", V.str "letters 2", V.str "letters 7", V.str "letters 02", V.str "letters", V.str "letters 1 1", V.str "letter 1", V.str "Letters 1", V.str "letters -1", V.str "nothing", V.str "nothing 0", V.str "nothing 1 2", V.str "nothing -0", V.str "nothing 00", V.str "nothing 01", V.str "nothing  1", V.str "nothing 1 "] ++ [V.str "nothing 1000000000000", V.str "nothing 1000000000001", V.str "nothing -1000000000000", V.str "nothing 99999999999999"])) p4 = some (.lst [V.str "", V.str " ", V.str "letters 2", V.str "letters 7", V.str "letters 02", V.str "letters", V.str "letters 1 1", V.str "letter 1", V.str "Letters 1", V.str "letters -1", V.str "nothing", V.str "nothing 0", V.str "nothing 1 2", V.str "nothing -0", V.str "nothing 00", V.str "nothing 01", V.str "nothing  1", V.str "nothing 1 ", V.str "nothing 1000000000000", V.str "nothing 1000000000001", V.str "nothing -1000000000000", V.str "nothing 99999999999999"]) := upd_same
    generalize upd G3 p4 (.lst ([V.str "", V.str " ", V.str "letters 2", V.str "letters 7", V.str "letters 02", V.str "letters", V.str "letters 1 1", V.str "letter 1", V.str "Letters 1", V.str "letters -1", V.str "nothing", V.str "nothing 0", V.str "nothing 1 2", V.str "nothing -0", V.str "nothing 00", V.str "nothing 01", V.str "nothing  1", V.str "nothing 1 "] ++ [V.str "nothing 1000000000000", V.str "nothing 1000000000001", V.str "nothing -1000000000000", V.str "nothing 99999999999999"])) = H4 at d3 g4 ⊢
    have e4 := (e3.trans a3).trans d3
    refine ⟨_, rfl, Evl.sz_of (by simp), fun u4 hu4 => ?_⟩
    have a4 := ev_up (o := .lst [V.str "nothing -", V.str "nothing +1", V.str "nothing 1 -1 0", V.str "nothing 1.0", V.str "nothing a", V.str "Nothing 1"]) hu4
    have b4 : upd H4 u4 (.lst [V.str "nothing -", V.str "nothing +1", V.str "nothing 1 -1 0", V.str "nothing 1.0", V.str "nothing a", V.str "Nothing 1"]) u4 = some (.lst [V.str "nothing -", V.str "nothing +1", V.str "nothing 1 -1 0", V.str "nothing 1.0", V.str "nothing a", V.str "Nothing 1"]) := upd_same
    have c4 := a4 _ _ g4
    generalize upd H4 u4 (.lst [V.str "nothing -", V.str "nothing +1", V.str "nothing 1 -1 0", V.str "nothing 1.0", V.str "nothing a", V.str "Nothing 1"]) = G4 at a4 b4 c4 ⊢
    refine ⟨p4, u4, _, _, rfl, rfl, c4, b4, Evl.sz_of (by simp), fun p5 hp5 => ?_⟩
    have d4 := ev_up (o := .lst ([V.str "", V.str " ", V.str "letters 2", V.str "letters 7", V.str "letters 02", V.str "letters", V.str "letters 1 1", V.str "letter 1", V.str "Letters 1", V.str "letters -1", V.str "nothing", V.str "nothing 0", V.str "nothing 1 2", V.str "nothing -0", V.str "nothing 00", V.str "nothing 01", V.str "nothing  1", V.str "nothing 1 ", V.str "nothing 1000000000000", V.str "nothing 1000000000001", V.str "nothing -1000000000000", V.str "nothing 99999999999999"] ++ [V.str "nothing -", V.str "nothing +1", V.str "nothing 1 -1 0", V.str "nothing 1.0", V.str "nothing a", V.str "Nothing 1"])) hp5
    have g5 : upd G4 p5 (.lst ([V.str "", V.str " ", V.str "letters 2", V.str "letters 7", V.str "letters 02", V.str "letters", V.str "letters 1 1", V.str "letter 1", V.str "Letters 1", V.str "letters -1", V.str "nothing", V.str "nothing 0", V.str "nothing 1 2", V.str "nothing -0", V.str "nothing 00", V.str "nothing 01", V.str "nothing  1", V.str "nothing 1 ", V.str "nothing 1000000000000", V.str "nothing 1000000000001", V.str "nothing -1000000000000", V.str "nothing 99999999999999"] ++ [V.str "nothing -", V.str "nothing +1", V.str "nothing 1 -1 0", V.str "nothing 1.0", V.str "nothing a", V.str "Nothing 1"])) p5 = some (.lst [V.str "", V.str " ", V.str "letters 2", V.str "letters 7", V.str "letters 02", V.str "letters", V.str "letters 1 1", V.str "letter 1", V.str "Letters 1", V.str "letters -1", V.str "nothing", V.str "nothing 0", V.str "nothing 1 2", V.str "nothing -0", V.str "nothing 00", V.str "nothing 01", V.str "nothing  1", V.str "nothing 1 ", V.str "nothing 1000000000000", V.str "nothing 1000000000001", V.str "nothing -1000000000000", V.str "nothing 99999999999999", V.str "nothing -", V.str "nothing +1", V.str "nothing 1 -1 0", V.str "nothing 1.0", V.str "nothing a", V.str "Nothing 1"]) := upd_same
    generalize upd G4 p5 (.lst ([V.str "", V.str " ", V.str "letters 2", V.str "letters 7", V.str "letters 02", V.str "letters", V.str "letters 1 1", V.str "letter 1", V.str "Letters 1", V.str "letters -1", V.str "nothing", V.str "nothing 0", V.str "nothing 1 2", V.str "nothing -0", V.str "nothing 00", V.str "nothing 01", V.str "nothing  1", V.str "nothing 1 ", V.str "nothing 1000000000000", V.str "nothing 1000000000001", V.str "nothing -1000000000000", V.str "nothing 99999999999999"] ++ [V.str "nothing -", V.str "nothing +1", V.str "nothing 1 -1 0", V.str "nothing 1.0", V.str "nothing a", V.str "Nothing 1"])) = H5 at d4 g5 ⊢
    have e5 := (e4.trans a4).trans d4
    refine ⟨_, rfl, Evl.sz_of (by simp), fun u5 hu5 => ?_⟩
    have a5 := ev_up (o := .lst [V.str " nothing 1", V.str "nothings 1"]) hu5
    have b5 : upd H5 u5 (.lst [V.str " nothing 1", V.str "nothings 1"]) u5 = some (.lst [V.str " nothing 1", V.str "nothings 1"]) := upd_same
    have c5 := a5 _ _ g5
    generalize upd H5 u5 (.lst [V.str " nothing 1", V.str "nothings 1"]) = G5 at a5 b5 c5 ⊢
    refine ⟨p5, u5, _, _, rfl, rfl, c5, b5, Evl.sz_of (by simp), fun p6 hp6 => ?_⟩
    have d5 := ev_up (o := .lst ([V.str "", V.str " ", V.str "letters 2", V.str "letters 7", V.str "letters 02", V.str "letters", V.str "letters 1 1", V.str "letter 1", V.str "Letters 1", V.str "letters -1", V.str "nothing", V.str "nothing 0", V.str "nothing 1 2", V.str "nothing -0", V.str "nothing 00", V.str "nothing 01", V.str "nothing  1", V.str "nothing 1 ", V.str "nothing 1000000000000", V.str "nothing 1000000000001", V.str "nothing -1000000000000", V.str "nothing 99999999999999", V.str "nothing -", V.str "nothing +1", V.str "nothing 1 -1 0", V.str "nothing 1.0", V.str "nothing a", V.str "Nothing 1"] ++ [V.str " nothing 1", V.str "nothings 1"])) hp6
    have g6 : upd G5 p6 (.lst ([V.str "", V.str " ", V.str "letters 2", V.str "letters 7", V.str "letters 02", V.str "letters", V.str "letters 1 1", V.str "letter 1", V.str "Letters 1", V.str "letters -1", V.str "nothing", V.str "nothing 0", V.str "nothing 1 2", V.str "nothing -0", V.str "nothing 00", V.str "nothing 01", V.str "nothing  1", V.str "nothing 1 ", V.str "nothing 1000000000000", V.str "nothing 1000000000001", V.str "nothing -1000000000000", V.str "nothing 99999999999999", V.str "nothing -", V.str "nothing +1", V.str "nothing 1 -1 0", V.str "nothing 1.0", V.str "nothing a", V.str "Nothing 1"] ++ [V.str " nothing 1", V.str "nothings 1"])) p6 = some (.lst [V.str "", V.str " ", V.str "letters 2", V.str "letters 7", V.str "letters 02", V.str "letters", V.str "letters 1 1", V.str "letter 1", V.str "Letters 1", V.str "letters -1", V.str "nothing", V.str "nothing 0", V.str "nothing 1 2", V.str "nothing -0", V.str "nothing 00", V.str "nothing 01", V.str "nothing  1", V.str "nothing 1 ", V.str "nothing 1000000000000", V.str "nothing 1000000000001", V.str "nothing -1000000000000", V.str "nothing 99999999999999", V.str "nothing -", V.str "nothing +1", V.str "nothing 1 -1 0", V.str "nothing 1.0", V.str "nothing a", V.str "Nothing 1", V.str " nothing 1", V.str "nothings 1"]) := upd_same
    generalize upd G5 p6 (.lst ([V.str "", V.str " ", V.str "letters 2", V.str "letters 7", V.str "letters 02", V.str "letters", V.str "letters 1 1", V.str "letter 1", V.str "Letters 1", V.str "letters -1", V.str "nothing", V.str "nothing 0", V.str "nothing 1 2", V.str "nothing -0", V.str "nothing 00", V.str "nothing 01", V.str "nothing  1", V.str "nothing 1 ", V.str "nothing 1000000000000", V.str "nothing 1000000000001", V.str "nothing -1000000000000", V.str "nothing 99999999999999", V.str "nothing -", V.str "nothing +1", V.str "nothing 1 -1 0", V.str "nothing 1.0", V.str "nothing a", V.str "Nothing 1"] ++ [V.str " nothing 1", V.str "nothings 1"])) = H6 at d5 g6 ⊢
    have e6 := (e5.trans a5).trans d5
    have g7 : H6 p6 = some (.lst (odd30.map V.str)) := g6
    have ha6 := e6 _ _ ha
    rw [show (((((((List.set (L2.start n_l_bent [V.int c, V.ref a]) 2 (some (V.int (i : Int)))).set 3 (some (V.int (o : Int)))).set 4 (some (V.int (y : Int)))).set 5 (some (V.ref p1))).set 5 (some (V.ref p2))).set 5 (some (V.ref p3))).set 5 (some (V.ref p4))).set 5 (some (V.ref p5)) = [some (V.int c), some (V.ref a), some (V.int (i : Int)), some (V.int (o : Int)), some (V.int (y : Int)), some (V.ref p5), none, none, none, none] from rfl]
    have ecut : cutV (ls.map V.str) none (some (i : Int)) = (ls.take i).map V.str := by rw [List.map_take]; exact cut_to _ i
    obtain ⟨lo, hlo⟩ : ∃ lo, ls[o]? = some lo := ⟨ls[o], by simp [ol]⟩
    obtain ⟨li, hli⟩ : ∃ li, ls[i]? = some li := ⟨ls[i], by simp [il]⟩
    have Lo := L.each lo (List.mem_of_getElem? hlo)
    have Li := L.each li (List.mem_of_getElem? hli)
    have ato : atI (ls.map V.str) ((o : Nat) : Int) = some (V.str lo) := atI_nat (by rw [List.getElem?_map, hlo]; rfl)
    have ati : atI (ls.map V.str) ((i : Nat) : Int) = some (V.str li) := atI_nat (by rw [List.getElem?_map, hli]; rfl)
    have pick : ∀ m : Int, 0 ≤ m → ∃ l, atI (odd30.map V.str) (m % 30) = some (V.str l) ∧ l.length ≤ 111 + k ∧ Asc l := fun m _ => by
      have g0 := Int.emod_nonneg m (b := 30) (by decide)
      have g1 := Int.emod_lt_of_pos m (b := 30) (by decide)
      have hl : odd30.length = 30 := rfl
      obtain ⟨j, hj, jl⟩ : ∃ j : Nat, m % 30 = (j : Int) ∧ j < odd30.length := ⟨(m % 30).toNat, by omega, by omega⟩
      obtain ⟨l, hl⟩ : ∃ l, odd30[j]? = some l := ⟨odd30[j], by simp [jl]⟩
      have := odd30_ok l (List.mem_of_getElem? hl)
      exact ⟨l, by rw [hj]; exact atI_nat (by rw [List.getElem?_map, hl]; rfl), by omega, this.2⟩
    refine ⟨_, rfl, rfl, _, rfl, iteB (fun h0 => ?_) (fun h0 => ?_)⟩
    · refine ⟨_, rfl, a, _, rfl, .inl (Evl.sq_of ha6), _, _, rfl, rfl, _, rfl, iteB (fun hb => ?_) (fun hb => ?_)⟩
      · have hb := of_decide_eq_true hb
        rw [List.length_map] at hb
        refine ⟨_, rfl, _, rfl, _, rfl, a, _, rfl, Evl.sq_of ha6, fun c1 hc1 => ?_⟩
        rw [ecut]
        have e7 := ev_up (o := .lst ((ls.take i).map V.str)) hc1
        have c17 : upd H6 c1 (.lst ((ls.take i).map V.str)) c1 = some (.lst ((ls.take i).map V.str)) := upd_same
        have ha7 := e7 _ _ ha6
        have g8 := e7 _ _ g7
        have e07 := e6.trans e7
        generalize upd H6 c1 (.lst ((ls.take i).map V.str)) = H7 at e7 c17 ha7 g8 e07 ⊢
        refine ⟨_, rfl, _, rfl, _, _, rfl, rfl, _, rfl, a, _, rfl, Evl.sq_of ha7, fun c2 hc2 => ?_⟩
        have ec : cutV (ls.map V.str) (some ((i : Int) + 1)) none = (ls.drop (i + 1)).map V.str := by rw [List.map_drop]; exact cut_from _ (i + 1)
        rw [ec]
        have e8 := ev_up (o := .lst ((ls.drop (i + 1)).map V.str)) hc2
        refine ⟨c1, c2, _, _, rfl, rfl, e8 _ _ c17, upd_same, Evl.sz_of (by rw [List.length_map, List.length_map, List.length_take, List.length_drop]; omega), fun p hp => ?_⟩
        rw [← List.map_append]
        exact q p _ _ (Evl.fresh_back (e07.trans e8) hp) ((e07.trans e8).trans (ev_up hp)) upd_same (lns_del L il (by omega))
      · refine ⟨Evl.sz_of (by simp), fun p hp => q p [""] _ (Evl.fresh_back e6 hp) (e6.trans (ev_up hp)) upd_same (lns_of L (by simp) (by simp) fun l hl => ?_)⟩
        rw [List.mem_singleton.mp hl]
        exact .inr ⟨by show 0 ≤ _; omega, fun c hc => nomatch hc⟩
    refine ⟨_, rfl, rfl, _, rfl, iteB (fun h1 => ?_) (fun h1 => ?_)⟩
    · refine ⟨_, rfl, _, rfl, _, rfl, a, _, rfl, Evl.sq_of ha6, fun c1 hc1 => ?_⟩
      rw [ecut]
      have e7 := ev_up (o := .lst ((ls.take i).map V.str)) hc1
      have c17 : upd H6 c1 (.lst ((ls.take i).map V.str)) c1 = some (.lst ((ls.take i).map V.str)) := upd_same
      have ha7 := e7 _ _ ha6
      have g8 := e7 _ _ g7
      have e07 := e6.trans e7
      generalize upd H6 c1 (.lst ((ls.take i).map V.str)) = H7 at e7 c17 ha7 g8 e07 ⊢
      exact ⟨_, rfl, _, rfl, a, _, _, V.str lo, rfl, rfl, Evl.sq_of ha7, ato, fin3 (i := i) (j := i) rfl (Nat.le_refl _) (fun H Q h => ⟨_, rfl, h⟩) L hk ha7 c17 e07 (by omega) Lo.2 q⟩
    refine ⟨_, rfl, rfl, _, rfl, iteB (fun h2 => ?_) (fun h2 => ?_)⟩
    · refine ⟨_, rfl, _, rfl, _, rfl, a, _, rfl, Evl.sq_of ha6, fun c1 hc1 => ?_⟩
      rw [ecut]
      have e7 := ev_up (o := .lst ((ls.take i).map V.str)) hc1
      have c17 : upd H6 c1 (.lst ((ls.take i).map V.str)) c1 = some (.lst ((ls.take i).map V.str)) := upd_same
      have ha7 := e7 _ _ ha6
      have g8 := e7 _ _ g7
      have e07 := e6.trans e7
      generalize upd H6 c1 (.lst ((ls.take i).map V.str)) = H7 at e7 c17 ha7 g8 e07 ⊢
      refine ⟨_, rfl, _, rfl, c, 4, rfl, by decide, by decide, fun m m0 _ _ => ⟨_, _, rfl, rfl, (by show (0 : Int) < 30; decide), ?_⟩⟩
      obtain ⟨l, hl, l1, l2⟩ := pick m m0
      exact ⟨p6, _, _, V.str l, rfl, rfl, Evl.sq_of g8, hl, fin3 (i := i) (j := i) rfl (Nat.le_refl _) (fun H Q h => ⟨_, rfl, h⟩) L hk ha7 c17 e07 l1 l2 q⟩
    refine ⟨_, rfl, rfl, _, rfl, iteB (fun h3 => ?_) (fun h3 => ?_)⟩
    · refine ⟨_, rfl, _, rfl, _, rfl, a, _, rfl, Evl.sq_of ha6, fun c1 hc1 => ?_⟩
      rw [ecut]
      have e7 := ev_up (o := .lst ((ls.take i).map V.str)) hc1
      have c17 : upd H6 c1 (.lst ((ls.take i).map V.str)) c1 = some (.lst ((ls.take i).map V.str)) := upd_same
      have ha7 := e7 _ _ ha6
      have g8 := e7 _ _ g7
      have e07 := e6.trans e7
      generalize upd H6 c1 (.lst ((ls.take i).map V.str)) = H7 at e7 c17 ha7 g8 e07 ⊢
      refine ⟨_, rfl, _, rfl, c, 4, rfl, by decide, by decide, fun m m0 _ _ => ⟨_, _, rfl, rfl, (by show (0 : Int) < 30; decide), ?_⟩⟩
      obtain ⟨l, hl, l1, l2⟩ := pick m m0
      exact ⟨p6, _, _, V.str l, rfl, rfl, Evl.sq_of g8, hl, fin3 (i := i) (j := i + 1) rfl (Nat.le_succ _) (fun H Q h => ⟨_, rfl, _, _, rfl, rfl, h⟩) L hk ha7 c17 e07 l1 l2 q⟩
    refine ⟨_, rfl, rfl, _, rfl, iteB (fun h4 => ?_) (fun h4 => ?_)⟩
    · refine ⟨_, rfl, a, _, rfl, .inl (Evl.sq_of ha6), fun g hg => ?_⟩
      have e7 := ev_up (o := .lst (ls.map V.str)) hg
      have gg : upd H6 g (.lst (ls.map V.str)) g = some (.lst (ls.map V.str)) := upd_same
      have e07 := e6.trans e7
      generalize upd H6 g (.lst (ls.map V.str)) = H7 at e7 gg e07 ⊢
      refine ⟨_, rfl, _, rfl, g, _, _, V.str lo, rfl, rfl, Evl.sq_of gg, ato, _, rfl, _, rfl, g, _, _, V.str li, rfl, rfl, Evl.sq_of gg, ati, Evl.sz_of (by simp), fun T hT => ?_⟩
      have e8 := ev_up (o := .tup [V.str lo, V.str li]) hT
      have gg8 := e8 _ _ gg
      have hT8 : upd H7 T (.tup [V.str lo, V.str li]) T = some (.tup [V.str lo, V.str li]) := upd_same
      have e08 := e07.trans e8
      generalize upd H7 T (.tup [V.str lo, V.str li]) = H8 at e8 gg8 hT8 e08 ⊢
      have ixi : L2.ixN (ls.map V.str).length ((i : Nat) : Int) = some i := ixn (by rw [List.length_map]; exact il)
      have ixo : L2.ixN ((ls.map V.str).set i (V.str lo)).length ((o : Nat) : Int) = some o := ixn (by rw [List.length_set, List.length_map]; exact ol)
      refine ⟨T, _, rfl, Evl.st_of hT8, rfl, _, _, rfl, _, rfl, _, rfl, g, _, _, i, rfl, rfl, gg8, ixi, ?_⟩
      have eg : g ≠ a := fun z => by
        rw [z, ha6] at hg
        cases hg
      refine ⟨_, _, rfl, _, rfl, _, rfl, g, _, _, o, rfl, rfl, upd_same, ixo, rfl, _, rfl, ?_⟩
      have hgH : H g = none := Evl.fresh_back e6 hg
      rw [upd_upd]
      have est : ((ls.map V.str).set i (V.str lo)).set o (V.str li) = ((ls.set i lo).set o li).map V.str := by rw [List.map_set, List.map_set]
      rw [est]
      exact q g _ _ hgH (Evl.Ex.mut e08 hgH) upd_same (lns_swap L hli hlo)
    obtain ⟨y', rfl⟩ : ∃ y' : Nat, y = 5 + y' := ⟨y - 5, by
      have h0 := of_decide_eq_false h0
      have h1 := of_decide_eq_false h1
      have h2 := of_decide_eq_false h2
      have h3 := of_decide_eq_false h3
      have h4 := of_decide_eq_false h4
      simp at h0 h1 h2 h3 h4
      omega⟩
    have y3 : y' < 3 := by omega
    clear h0 h1 h2 h3 h4
    refine ⟨_, rfl, c, 5, rfl, by decide, by decide, fun m5 m50 m51 _ => ⟨_, rfl, _, rfl, a, _, _, V.str li, rfl, rfl, Evl.sq_of ha6, ati, _, rfl, Evl.sz_of (by omega), _, _, rfl, rfl, _, _, rfl, rfl, by omega, ?_⟩⟩
    obtain ⟨sp, hsp, spl⟩ : ∃ sp : Nat, m5 % ((li.length : Int) + 1) = (sp : Int) ∧ sp ≤ li.length := by
      have g0 := Int.emod_nonneg m5 (b := (li.length : Int) + 1) (by omega)
      have g1 := Int.emod_lt_of_pos m5 (b := (li.length : Int) + 1) (by omega)
      exact ⟨(m5 % ((li.length : Int) + 1)).toNat, by rw [Int.toNat_of_nonneg g0], by omega⟩
    dsimp only
    rw [hsp]
    have sg : ∀ m : Int, 0 ≤ m → ∃ d, atI (("0123456789- nothigles+." : Str)).cps.toList (m % 23) = some d ∧ d < 128 := fun m _ => by
      have g0 := Int.emod_nonneg m (b := 23) (by decide)
      have g1 := Int.emod_lt_of_pos m (b := 23) (by decide)
      have hl : (("0123456789- nothigles+." : Str)).cps.toList.length = 23 := by decide +kernel
      have ha : ((("0123456789- nothigles+." : Str)).cps.toList.all fun d => decide (d < 128)) = true := by decide +kernel
      generalize (("0123456789- nothigles+." : Str)).cps.toList = S at hl ha ⊢
      obtain ⟨j, hj, jl⟩ : ∃ j : Nat, m % 23 = (j : Int) ∧ j < S.length := ⟨(m % 23).toNat, by omega, by omega⟩
      obtain ⟨d, hd⟩ : ∃ d, S[j]? = some d := ⟨S[j], by simp [jl]⟩
      exact ⟨d, by rw [hj]; exact atI_nat hd, of_decide_eq_true (List.all_eq_true.mp ha d (List.mem_of_getElem? hd))⟩
    refine ⟨_, rfl, c, 6, rfl, by decide, by decide, fun m6 m60 _ _ => ⟨_, _, rfl, rfl, (by show (0 : Int) < 23; decide), ?_⟩⟩
    obtain ⟨d, hd, d128⟩ := sg m6 m60
    refine ⟨_, _, d, rfl, rfl, Evl.sz_of (by decide +kernel), hd, ?_⟩
    refine ⟨_, rfl, _, rfl, a, _, _, V.str li, rfl, rfl, Evl.sq_of ha6, ati, _, rfl, _, rfl, li, rfl, Evl.sz_of (by omega), ?_⟩
    refine ⟨_, rfl, _, rfl, Evl.sz_of (by simp), fun u hu => ?_⟩
    have eu := ev_up (o := .lst [V.str ⟨#[d]⟩, V.str ⟨#[d]⟩, V.str ""]) hu
    have hu7 : upd H6 u (.lst [V.str ⟨#[d]⟩, V.str ⟨#[d]⟩, V.str ""]) u = some (.lst [V.str ⟨#[d]⟩, V.str ⟨#[d]⟩, V.str ""]) := upd_same
    have ha7 := eu _ _ ha6
    have e7 := e6.trans eu
    generalize upd H6 u (.lst [V.str ⟨#[d]⟩, V.str ⟨#[d]⟩, V.str ""]) = H7 at eu hu7 ha7 e7 ⊢
    obtain ⟨sgn, hsgn, hs1, hs2⟩ : ∃ sgn : Str, atI [V.str ⟨#[d]⟩, V.str ⟨#[d]⟩, V.str ""] (((5 + y' : Nat) : Int) - 5) = some (V.str sgn) ∧ sgn.length ≤ 1 ∧ Asc sgn := by
      rcases (by omega : y' = 0 ∨ y' = 1 ∨ y' = 2) with h | h | h <;> subst h
      · exact ⟨⟨#[d]⟩, rfl, Nat.le_refl _, fun c hc => by rw [List.mem_singleton.mp hc]; exact d128⟩
      · exact ⟨⟨#[d]⟩, rfl, Nat.le_refl _, fun c hc => by rw [List.mem_singleton.mp hc]; exact d128⟩
      · exact ⟨"", rfl, Nat.zero_le _, fun c hc => nomatch hc⟩
    have lA := TL.len_tl (cutS li none (some (sp : Int)))
    rw [tl_to, List.length_take, ← TL.len_tl] at lA
    refine ⟨_, rfl, _, _, rfl, rfl, ?_⟩
    refine ⟨u, _, _, V.str sgn, rfl, rfl, hu7, hsgn, ?_⟩
    refine ⟨_, _, rfl, rfl, Evl.sz_of (by omega), ?_⟩
    have fin : ∀ b : Nat, (some (((sp : Int) + (b : Int))) : Option Int) = some ((sp + b : Nat) : Int) := fun b => by rw [Int.natCast_add]
    refine ⟨_, rfl, _, rfl, a, _, _, V.str li, rfl, rfl, Evl.sq_of ha7, ati, _, rfl, _, rfl, _, _, rfl, rfl, .inr ⟨_, rfl, _, _, rfl, rfl, _, rfl, li, rfl, Evl.sz_of (by omega), ?_⟩⟩
    obtain ⟨b, hb⟩ : ∃ b : Nat, (if decide ((5 : Int) < ((5 + y' : Nat) : Int)) = true then (1 : Int) else 0) = (b : Int) := by
      split
      · exact ⟨1, rfl⟩
      · exact ⟨0, rfl⟩
    dsimp only
    rw [hb, fin b]
    have lC := TL.len_tl (cutS li (some ((sp + b : Nat) : Int)) none)
    rw [tl_from, List.length_drop, ← TL.len_tl] at lC
    have hx := Li.1
    refine ⟨_, _, rfl, rfl, Evl.sz_of (by rw [Str.length_append]; omega), ?_⟩
    have hline : ((cutS li none (some (sp : Int)) ++ sgn) ++ cutS li (some ((sp + b : Nat) : Int)) none).length ≤ 111 + k := by
      rw [Str.length_append, Str.length_append]
      omega
    have hasc : Asc ((cutS li none (some (sp : Int)) ++ sgn) ++ cutS li (some ((sp + b : Nat) : Int)) none) := fun c hc => by
      rw [TL.tl_append, TL.tl_append, tl_to, tl_from] at hc
      rcases List.mem_append.mp hc with h | h
      · rcases List.mem_append.mp h with h | h
        · exact Li.2 c (List.mem_of_mem_take h)
        · exact hs2 c h
      · exact Li.2 c (List.mem_of_mem_drop h)
    generalize ((cutS li none (some (sp : Int)) ++ sgn) ++ cutS li (some ((sp + b : Nat) : Int)) none) = line at hline hasc ⊢
    refine ⟨_, rfl, _, rfl, _, rfl, a, _, rfl, Evl.sq_of ha7, fun c1 hc1 => ?_⟩
    rw [ecut]
    have e8 := ev_up (o := .lst ((ls.take i).map V.str)) hc1
    have c18 : upd H7 c1 (.lst ((ls.take i).map V.str)) c1 = some (.lst ((ls.take i).map V.str)) := upd_same
    have ha8 := e8 _ _ ha7
    have e08 := e7.trans e8
    generalize upd H7 c1 (.lst ((ls.take i).map V.str)) = H8 at e8 c18 ha8 e08 ⊢
    exact ⟨_, rfl, fin3 (i := i) (j := i + 1) rfl (Nat.le_succ _) (fun H Q h => ⟨_, rfl, _, _, rfl, rfl, h⟩) L hk ha8 c18 e08 hline hasc q⟩
end
end Sr
/-! # Y9 -/
namespace Sr
open PySem PySem.Spec PyProof.Rows L2
open TL (tl numL)
open C8 (InsC call_isC pe_gc)
open Evl (Ex Ev EvL EvU EvT EvA RetL RetV)
/-- what isinstance asks of an own class, as one looks it up -/
def isB (K : PySem.W.Frag) (C : Addr) : Bool := He.eqO (PySem.W.findIn K (.ref C) "__class__") (some (some (.builtin "object.__class__"))) && (He.eqO (PySem.W.specialIn K (.builtin "object.__class__") "__get__") (some (some (.builtin "getset_descriptor.__get__"))) && (decide (PySem.W.takesIn K (.builtin "object.__class__") = some true) && (decide (PySem.W.mroIn K C (.type "object") = some true) && decide (PySem.W.kitOne K (.ref C) (.ref C) = some true))))
theorem isB_ok {K : PySem.W.Frag} {C : Addr} (c : Cls K C) (h : isB K C = true) : InsC K C := by
  obtain ⟨h1, h⟩ := Bool.and_eq_true_iff.mp h
  obtain ⟨h2, h⟩ := Bool.and_eq_true_iff.mp h
  obtain ⟨h3, h⟩ := Bool.and_eq_true_iff.mp h
  obtain ⟨h4, h5⟩ := Bool.and_eq_true_iff.mp h
  exact ⟨c, He.eqO_ok h1, He.eqO_ok h2, of_decide_eq_true h3, of_decide_eq_true h4, of_decide_eq_true h5⟩
section
variable {P : Program} {w : World} {K : PySem.W.Frag} {mg : Str → Option Value} {base : Heap} {f : Addr} {fd : FuncData}
abbrev tryOf : Stmt → List Stmt
  | .Try b _ _ _ _ => b
  | _ => []
abbrev bodyAt (s : Stmt) (k : Nat) : Stmt := ((defBody s)[k]?).getD s
/-- the error that a text is refused with -/
structure ErrT (K : PySem.W.Frag) (mg : Str → Option Value) (S : Addr) (cs : List Addr) (CT : Addr) : Prop where
  g : mg "SumError" = some (.ref S)
  w : Wd K S cs CT 6
  e : PySem.W.exmOne K (.ref CT) (.ref S) = some true
def spSaid : Sp := fun vs H Q _ => ∃ v : V, vs = [v] ∧
  ((∃ T, Kd H v T ∧ T ≠ "str" ∧ ∀ t H', H t = none → Ex H H' → H' t = some (.tup [.str "line", .non]) → Q (.ref t) H') ∨
    ∃ x : Str, v = .str x ∧ x.length ≤ 4000 ∧ (∀ k, readT x = .inl k → ∀ t H', H t = none → Ex H H' → H' t = some (.tup [.str "line", .int (k : Nat)]) → Q (.ref t) H') ∧
      ∀ n nss, readT x = .inr (n, nss) → ∀ t p H', H t = none → Ex H H' → H' t = some (.tup [.int (n : Nat), .ref p]) → RwA H' p nss → Q (.ref t) H')
theorem lkLetters {n : Nat} {ln : Addr} {pv : V} : List.lookup (α := Str) "letters" (fsR n ln pv) = none := lkRN (by decide +kernel) (by decide +kernel) (by decide +kernel)
theorem lkNothings {n : Nat} {ln : Addr} {pv : V} : List.lookup (α := Str) "nothings" (fsR n ln pv) = none := lkRN (by decide +kernel) (by decide +kernel) (by decide +kernel)
theorem ok_l_said {C CT S : Addr} {cs : List Addr} (F : FnP K "_law_said" "_law_said" s_l_said f fd) (B : Bi mg) (R : Rc K C) (RM : RmMk P w K mg base C) (IC : InsC K C) (X : ErrT K mg S cs CT) (XT : XdC P w K mg base "BadText" "line" CT)
    (ML : Mt P w K mg base CX0 1 C "letters" ["self"] (spRLet C)) (MN : Mt P w K mg base CX0 1 C "nothings" ["self"] (spRNth C))
    (D_room_of : Df P w K mg base (L2.CX P w) 7 "room_of" ["text"] (spRoomOf C CT)) (D_l_word : Df P w K mg base CX0 1 "_law_word" ["_law_e"] (spWordT K S cs)) : FnOk P w K mg base CX0 8 f fd ["_law_text"] spSaid := by
  obtain ⟨fL, fdL, FL, mL, bL⟩ := ML
  obtain ⟨fN, fdN, FN, mN, bN⟩ := MN
  obtain ⟨fR, fdR, FR, gR, kR, bR⟩ := D_room_of
  refine F.ok sc_l_said (fun vs H Q E h => ?_) (fun cdv A outer s H vs Q E hr h => ⟨_, PSs.nox
   (pss_cons (ps_set (i := 1) sc_l_said.nd rfl (Or.inl rfl) pe_non)
      (pss_cons (ps_set (i := 2) sc_l_said.nd rfl (Or.inl rfl) pe_non)
      (pss_cons (ps_try_keep (i := 3) rfl rfl sc_l_said.nd rfl rfl ⟨rfl, by decide, .inl X.g⟩ rfl
      (fun W pn xe tk _ => by
        have h : PSs ((cxOf CX0 P w K mg base n_l_said "_law_said" (defScope s_l_said) f cdv A outer s H E).nox.tr pn xe) (tryOf (bodyAt s_l_said 2)) _ :=
        (pss_one (ps_set (i := 2) sc_l_said.nd rfl (Or.inl rfl) (pe_callS FR (hr.mono (by decide)) rfl gR kR bR (fun σ => passAt tk σ) (pa_cons (pv 0) pa_nil))))
        exact h)
      (fun a oe cls d pn hz hf => (pss_one (ps_set (i := 1) sc_l_said.nd rfl (Or.inl rfl) (pv 3)))))
      (pss_cons (ps_if (pt_cmp (pc_isN (pv 1)))
      (pss_one (ps_ret (pe_ifExp (pt_val (pe_callB (call_isC IC) rfl B.isinstance_ boot_isinstance (pa_cons (pv 2) (pa_cons (pe_gc (v := .ref C) rfl ⟨_, RM.g, rfl⟩) pa_nil)))) (pe_tup (pa_cons (pe_meth0 (pv 2) R.cl mL FL (hr.mono (by decide)) bL .nil pass0) (pa_cons (pe_meth0 (pv 2) R.cl mN FN (hr.mono (by decide)) bN .nil pass0) pa_nil))) pe_non)))
      pss_nil)
      (pss_cons (ps_if (PW.pt (pw_or (pt_cmpR op_ne (pe_df D_l_word (hr.mono (by decide)) (pa_cons (pv 1) pa_nil)) pe_str (nomark _)) (pw_or1 (pt_val (pe_callB call_isK rfl B.isinstance_ boot_isinstance (pa_cons (pe_xk (pv 1) rfl) (pa_cons (pe_bltn (v := .ty "bool") rfl B.bool_ boot_bool rfl) pa_nil)))))))
      (pss_one (ps_ret pe_non))
      pss_nil)
      (pss_one (ps_ret (pe_tup (pa_cons pe_str (pa_cons (pe_xk (pv 1) rfl) pa_nil)))))))))), ?_⟩)
  · obtain ⟨v, rfl, _⟩ := h
    rfl
  · obtain ⟨v, rfl, h⟩ := h
    simp only [cxK]
    have exc : ∀ (u : V) (T : String) (d : Addr) (H1 : Hp), (∀ H', Kd H' u T) → kitB T "bool" = some false → Ex H H1 → H1 d = some (.xd [("line", u)]) → (∀ t H', H t = none → Ex H H' → H' t = some (.tup [.str "line", u]) → Q (.ref t) H') →
        WE (wKeep K (Value.ref S) 3 (fun a cls d => tAsg (tVar 3) (gName 1))
          { nx := tSeq (tIfS (tB (tIsN (tVar 1))) (tRet (tIf (tB (tCB (fun xs H Q => ∃ a dx fs, xs = [V.ref a, V.ref C] ∧ H a = some (HO.ins C dx fs) ∧ Q (V.bl true) H) (tCons (tVar 2) (tCons (tC (V.ref C)) tNil)))) (tTup (tCons (tMeth C "letters" (spRLet C) [] E0 (tVar 2) tNil) (tCons (tMeth C "nothings" (spRNth C) [] E0 (tVar 2) tNil) tNil))) (tC V.non))) tNext)
              (tSeq (tIfS (tOr (tTest (tOp rNe (tCall (spWordT K S cs) [] E0 (tCons (tVar 1) tNil)) (tC (V.str "text")))) (tB (tCB rIsK (tCons (tXk K "line" (tVar 1)) (tCons (tC (V.ty "bool")) tNil))))) (tRet (tC V.non)) tNext)
                (tRet (tTup (tCons (tC (V.str "line")) (tCons (tXk K "line" (tVar 1)) tNil)))))
              { nx := fun x H' => Q V.non H', rt := Q }, rt := Q }) [some v, some V.non, some V.non, none] (.ref CT) (some d) H1 := by
      intro u T d H1 kd kb e1 hd q
      refine ⟨X.e, fun a ha => ?_⟩
      have e2 := ev_up (o := ExK (.ref CT) (some d) a) ha
      have hd2 := e2 _ _ hd
      have ha2 : upd H1 a (ExK (.ref CT) (some d) a) a = some (ExK (.ref CT) (some d) a) := upd_same
      have e12 := e1.trans e2
      refine ⟨_, rfl, _, rfl, _, rfl, ifF rfl ⟨_, rfl, a, CT, d, _, rfl, ha2, hd2, X.w, fun H' e' => ⟨rfl, _, rfl, ifF (by simp) ?_⟩⟩⟩
      have ha3 := e' _ _ ha2
      have hd3 := e' _ _ hd2
      refine ⟨_, rfl, a, CT, d, _, u, rfl, ha3, XT.xf, XT.fl, hd3, lk0 rfl, u, T, "bool", false, rfl, kd H', kb, _, rfl, ifF rfl ?_⟩
      refine ⟨_, rfl, a, CT, d, _, u, rfl, ha3, XT.xf, XT.fl, hd3, lk0 rfl, Evl.sz_of (by simp), fun t ht => ?_⟩
      exact q t _ (Evl.fresh_back (e12.trans e') ht) ((e12.trans e').trans (ev_up ht)) upd_same
    refine ⟨_, rfl, v, rfl, ?_⟩
    rcases h with ⟨T, hk, hT, k⟩ | ⟨x, rfl, hx, k1, k2⟩
    · exact .inl ⟨T, hk, hT, fun d H' hd e hd2 => exc .non "NoneType" d H' (fun _ => .non) (by decide +kernel) e hd2 k⟩
    · refine .inr ⟨x, rfl, hx, fun k hk d H' hd e hd2 => exc (.int (k : Nat)) "int" d H' (fun _ => .int _) (by decide +kernel) e hd2 (k1 k hk), fun n nss hk y ln H1 e1 hy hln hR => ?_⟩
      obtain ⟨dx, hy1⟩ := hR.obj
      refine ⟨_, rfl, _, rfl, ifT rfl ⟨_, rfl, y, dx, _, rfl, hy1, _, rfl, ifT rfl ?_⟩⟩
      refine ⟨_, rfl, y, dx, _, rfl, hy1, lkLetters, y, dx, ln, n, .non, rfl, hy1, ?_⟩
      have m16 := hR.m16
      refine ⟨_, rfl, y, dx, _, rfl, hy1, lkNothings, y, dx, ln, n, .non, nss, rfl, hy1, hR.nth, by omega, fun p qs H2 hp e2 hp2 hq _ => ?_⟩
      refine ⟨Evl.sz_of (by simp), fun t ht => ?_⟩
      have e3 := ev_up (o := .tup [.int (n : Int), .ref p]) ht
      exact k2 n nss hk t p _ (Evl.fresh_back (e1.trans e2) ht) ((e1.trans e2).trans e3) upd_same ⟨qs, e3 _ _ hp2, hq.ex e3⟩
end
end Sr
/-! # YL -/
namespace Sr
open PySem PySem.Spec PyProof.Rows L2
open TL (tl numL)
open Evl (Ex Ev EvL EvU EvT EvA RetL RetV)
section
variable {P : Program} {w : World} {K : PySem.W.Frag} {mg : Str → Option Value} {base : Heap} {f : Addr} {fd : FuncData}
theorem join_len {k : Nat} {ls : List Str} (L : Lns k ls) (hk : k ≤ 3) : (Txt.join ("\n" : Str) ls).length ≤ 3000 := by
  rw [TL.len_tl, TL.join_eq, TL.tl_join]
  have h := joinL_len (S := tl ("\n" : Str)) (B := 113) (ps := ls.map tl) fun p hp => by
    obtain ⟨x, hx, rfl⟩ := List.mem_map.mp hp
    have := (L.each x hx).1
    rw [TL.len_tl] at this
    omega
  rw [List.length_map] at h
  have e : (113 + (tl ("\n" : Str)).length) = 114 := by decide
  rw [e] at h
  have := L.many
  omega
theorem join_asc {k : Nat} {ls : List Str} (L : Lns k ls) : Asc (Txt.join ("\n" : Str) ls) := fun c hc => by
  rw [TL.join_eq, TL.tl_join] at hc
  rcases mem_joinL hc with h | ⟨p, h1, h2⟩
  · have e : tl ("\n" : Str) = [10] := by decide
    rw [e] at h
    simp at h
    omega
  · obtain ⟨x, hx, rfl⟩ := List.mem_map.mp h1
    exact (L.each x hx).2 c h2
theorem eqv_line (d : PyData) (h : PyData.eqv d d = true) : PyData.eqv (.tuple [.str "line", d]) (.tuple [.str "line", d]) = true := by
  simp [PyData.eqv, PyData.eqvAll, h]
theorem sh_line {d : PyData} (h : PyData.canLay0 d = true) (h2 : PyData.depth d ≤ 60) : SeqAt.shaped (.tuple [.str "line", d]) = true := by
  have e : PyData.strOk ("line" : Str) = true := by decide +kernel
  simp [SeqAt.shaped, PyData.canLay0, PyData.canLayAll0, h, e, PyData.depth, PyData.depthAll]
  omega
theorem eqv_read (n : Int) (nss : List (List Int)) : PyData.eqv (.tuple [.int n, .list (nss.map dRow)]) (.tuple [.int n, .list (nss.map dRow)]) = true := by
  have h := eqv_tbl nss
  simp [PyData.eqv, PyData.eqvAll] at h ⊢
  exact h
theorem sh_read (n : Int) (nss : List (List Int)) : SeqAt.shaped (.tuple [.int n, .list (nss.map dRow)]) = true := by
  have := dep_rows nss
  simp [SeqAt.shaped, PyData.canLay0, PyData.canLayAll0, lay_rows, PyData.depth, PyData.depthAll]
  omega
theorem dp_pair {K : PySem.W.Frag} {H : Hp} {t : Addr} {u v : V} {d e : PyData} (h : H t = some (.tup [u, v])) (h1 : Dp K H u d) (h2 : Dp K H v e) : Dp K H (.ref t) (.tuple [d, e]) := .tup (Evl.st_of h) (.cons h1 (.cons h2 .nil))
theorem read_empty : readT ("" : Str) = .inl 0 := by decide +kernel
def spLaw (K : PySem.W.Frag) : Sp := fun vs H Q _ => ∃ (a : Addr) (ns : List Int), vs = [.ref a] ∧ SqL K H a (ns.map V.int) ∧ ns.length ≤ 900 ∧ ∀ H', Q (.bl true) H'
theorem ok_law (F : FnP K "law" "law" s_law f fd) (B : Bi mg) (D_l_mixed : Df P w K mg base CX0 1 "_law_mixed" ["_law_cell", "_law_k"] spMixed) (D_l_lines : Df P w K mg base CX0 5 "_law_lines" ["_law_cell"] spLines) (D_l_bent : Df P w K mg base CX0 2 "_law_bent" ["_law_cell", "_law_lines_here"] spBent)
    (D_l_read : Df P w K mg base CX0 2 "_law_read" ["_law_text"] spRead) (D_l_said : Df P w K mg base CX0 8 "_law_said" ["_law_text"] spSaid) : FnOk P w K mg base CX0 9 f fd ["_law_script"] (spLaw K) := by
  refine F.ok sc_law (fun vs H Q E h => ?_) (fun cdv A outer s H vs Q E hr h => ⟨_, PSs.nox
   (pss_cons (ps_for PassesOwn.never rfl (pi_enum rfl B.enumerate_ (pa_cons (pe_op op_cat (pe_lst (pa_cons pe_int (pa_cons pe_int pa_nil))) (pe_callTy (r := Evl.rListS K) call_list_of rfl B.list_ boot_list (pa_cons (pe_slice sl_list (pv 0) po_none (po_some pe_int)) pa_nil))) pa_nil)) (pg_tup rfl (pgs_cons (pg_name (i := 1) sc_law.nd rfl (Or.inl rfl)) (pgs_cons (pg_name (i := 2) sc_law.nd rfl (Or.inl rfl)) pgs_nil)))
      (pss_cons (ps_set (i := 3) sc_law.nd rfl (Or.inl rfl) (pe_df D_l_mixed (hr.mono (by decide)) (pa_cons (pv 2) (pa_cons (pe_op op_add pe_int (pv 1)) pa_nil))))
        (pss_cons (ps_set (i := 4) sc_law.nd rfl (Or.inl rfl) (pe_df D_l_lines (hr.mono (by decide)) (pa_cons (pe_df D_l_mixed (hr.mono (by decide)) (pa_cons (pv 3) (pa_cons pe_int pa_nil))) pa_nil)))
        (pss_cons (ps_for PassesOwn.never rfl (pi_range1 rfl B.range_ (pa_cons (pe_op op_mul (pe_callTy call_int1 rfl B.int_ boot_int (pa_cons (pe_cmpR op_gt (pv 1) pe_int (nomark _)) pa_nil)) (pe_op op_add pe_int (pe_op op_mod (pe_df D_l_mixed (hr.mono (by decide)) (pa_cons (pv 3) (pa_cons pe_int pa_nil))) pe_int))) pa_nil)) (pg_name (i := 5) sc_law.nd rfl (Or.inl rfl))
        (pss_one (ps_set (i := 4) sc_law.nd rfl (Or.inl rfl) (pe_df D_l_bent (hr.mono (by decide)) (pa_cons (pe_df D_l_mixed (hr.mono (by decide)) (pa_cons (pv 3) (pa_cons (pe_op op_add pe_int (pv 5)) pa_nil))) (pa_cons (pv 4) pa_nil))))))
        (pss_cons (ps_set (i := 6) sc_law.nd rfl (Or.inl rfl) (pe_join pe_str (pv 4)))
        (pss_cons (ps_set (i := 7) sc_law.nd rfl (Or.inl rfl) (pe_df D_l_read (hr.mono (by decide)) (pa_cons (pv 6) pa_nil)))
        (pss_cons (ps_if (pt_cmpR (op_neD (hu64 hr)) (pe_df D_l_said (hr.mono (by decide)) (pa_cons (pv 6) pa_nil)) (pe_ifExp (pt_val (pe_callB call_isK rfl B.isinstance_ boot_isinstance (pa_cons (pv 7) (pa_cons (pe_bltn (v := .ty "tuple") rfl B.tuple_ boot_tuple rfl) pa_nil)))) (pv 7) (pe_tup (pa_cons pe_str (pa_cons (pv 7) pa_nil)))) (nomark _))
        (pss_one (ps_ret pe_bl))
        pss_nil)
        (pss_cons (ps_set (i := 8) sc_law.nd rfl (Or.inl rfl) (pe_ix ix_h (pe_lst (pa_cons pe_non (pa_cons pe_int (pa_cons pe_bl (pa_cons (pv 4) (pa_cons (pe_callTy call_tuple_of rfl B.tuple_ boot_tuple (pa_cons (pv 4) pa_nil)) (pa_cons pe_dnewK pa_nil))))))) (pe_op op_mod (pe_df D_l_mixed (hr.mono (by decide)) (pa_cons (pv 3) (pa_cons pe_int pa_nil))) pe_int) (fun _ _ => rfl)))
        (pss_one (ps_if (pt_cmpR (op_neD (hu64 hr)) (pe_df D_l_said (hr.mono (by decide)) (pa_cons (pv 8) pa_nil)) (pe_tup (pa_cons pe_str (pa_cons pe_non pa_nil))) (nomark _))
        (pss_one (ps_ret pe_bl))
        pss_nil))))))))))
      (pss_one (ps_ret (pe_cmpR (op_eqD (hu64 hr)) (pe_df D_l_said (hr.mono (by decide)) (pa_cons pe_str pa_nil)) (pe_tup (pa_cons pe_str (pa_cons pe_int pa_nil))) (nomark _))))), ?_⟩)
  · obtain ⟨a, ns, rfl, _⟩ := h
    rfl
  · obtain ⟨a, ns, rfl, ha, hl, q⟩ := h
    simp only [cxK]
    refine ⟨Evl.sz_of (by simp), fun u hu => ?_⟩
    have e1 := ev_up (o := .lst [V.int 0, V.int 1]) hu
    have hu1 : upd H u (.lst [V.int 0, V.int 1]) u = some (.lst [V.int 0, V.int 1]) := upd_same
    have ha1 := Evl.ex_l e1 ha
    generalize upd H u (.lst [V.int 0, V.int 1]) = H1 at e1 hu1 ha1 ⊢
    refine ⟨_, rfl, _, rfl, a, _, rfl, ha1, fun c0 hc0 => ?_⟩
    have ecut : cutV (ns.map V.int) none (some 40) = (ns.take 40).map V.int := by
      have := cut_to (ns.map V.int) 40
      rw [List.map_take]
      exact this
    rw [ecut]
    have e2 := ev_up (o := .lst ((ns.take 40).map V.int)) hc0
    refine ⟨c0, _, rfl, .inl (Evl.sq_of upd_same), fun c1 hc1 => ?_⟩
    have e3 := ev_up (o := .lst ((ns.take 40).map V.int)) hc1
    have tl40 : (ns.take 40).length ≤ 40 := by rw [List.length_take]; omega
    refine ⟨u, c1, _, _, rfl, rfl, e3 _ _ (e2 _ _ hu1), upd_same, Evl.sz_of (by rw [List.length_map]; simp; omega), fun c hc => ?_⟩
    have hcc : upd (upd (upd H1 c0 (.lst ((ns.take 40).map V.int))) c1 (.lst ((ns.take 40).map V.int))) c (.lst ([V.int 0, V.int 1] ++ (ns.take 40).map V.int)) c = some (.lst ((0 :: 1 :: ns.take 40).map V.int)) := upd_same
    generalize upd (upd (upd H1 c0 (.lst ((ns.take 40).map V.int))) c1 (.lst ((ns.take 40).map V.int))) c (.lst ([V.int 0, V.int 1] ++ (ns.take 40).map V.int)) = H2 at hcc ⊢
    have cl : (0 :: 1 :: ns.take 40).length ≤ 42 := by rw [List.length_cons, List.length_cons]; omega
    generalize 0 :: 1 :: ns.take 40 = cs at hcc cl
    refine ⟨c, _, rfl, Evl.sq_of hcc, for_enum (xs := cs.map V.int) (fun i σ' H' => (∃ y1 y2 y3 y4 y5 y6 y7 y8 : Option V, σ' = [some (.ref a), y1, y2, y3, y4, y5, y6, y7, y8]) ∧ H' c = some (.lst (cs.map V.int))) ⟨⟨_, _, _, _, _, _, _, _, rfl⟩, hcc⟩ (fun i σ' H' _ ⟨_, h⟩ => Evl.sq_of h) ?_ ?_⟩
    · rintro i v σ' H' T hv ⟨⟨y1, y2, y3, y4, y5, y6, y7, y8, rfl⟩, hcH⟩ hT
      rw [List.getElem?_map] at hv
      cases hv2 : cs[i]? with
      | none => rw [hv2] at hv; cases hv
      | some cell =>
      rw [hv2] at hv
      obtain rfl : V.int cell = v := Option.some.inj hv
      have hi : i < cs.length := (List.getElem?_eq_some_iff.mp hv2).1
      have eT := ev_up (o := .tup [.int (i : Nat), .int cell]) hT
      refine ⟨T, _, rfl, Evl.st_of upd_same, rfl, _, _, rfl, _, _, rfl, rfl, ?_⟩
      have hc2 := eT _ _ hcH
      generalize upd H' T (.tup [.int (i : Nat), .int cell]) = H3 at eT hc2 ⊢
      refine ⟨_, rfl, _, rfl, _, _, rfl, rfl, cell, 60 + (i : Int), rfl, by omega, by omega, fun m m0 m1 _ => ?_⟩
      refine ⟨_, rfl, m, 1, rfl, by decide, by decide, fun mm _ _ _ => ⟨mm, rfl, fun p0 ls0 H4 hp0 e4 hp4 L0 => ?_⟩⟩
      have hc4 := e4 _ _ hc2
      refine ⟨_, rfl, _, _, rfl, rfl, .inr ⟨_, rfl, _, rfl, m, 2, rfl, by decide, by decide, fun m2 m20 m21 _ => ⟨_, _, rfl, rfl, (by show (0 : Int) < 3; decide), _, _, rfl, rfl, ?_⟩⟩⟩
      obtain ⟨t, ht, t3⟩ : ∃ t : Nat, (if decide ((0 : Int) < (i : Int)) = true then (1 : Int) else 0) * (1 + m2 % 3) = (t : Int) ∧ t ≤ 3 := by
        split
        · exact ⟨(1 + m2 % 3).toNat, by omega, by omega⟩
        · exact ⟨0, by simp, by omega⟩
      refine ⟨_, _, rfl, rfl, .inr (by omega), ?_⟩
      refine ⟨(t : Int), congrArg (fun z : Int => [V.int z]) ht, by omega, by omega, ?_⟩
      rw [show ((t : Int)).toNat = t from Int.toNat_natCast t]
      refine for_range (n := t) (fun j σ' H' => ∃ (p : Addr) (ls : List Str) (y5 : Option V), σ' = [some (.ref a), some (.int (i : Nat)), some (.int cell), some (.int m), some (.ref p), y5, y6, y7, y8] ∧ H' c = some (.lst (cs.map V.int)) ∧ H' p = some (.lst (ls.map V.str)) ∧ Lns j ls) ⟨p0, ls0, y5, rfl, hc4, hp4, L0⟩ ?_ ?_
      · rintro j σ' H5 hj ⟨p, ls, y5, rfl, hc5, hp5, L⟩
        have ez : (0 : Int) + (j : Int) = (j : Int) := Int.zero_add _
        rw [ez]
        refine ⟨_, rfl, _, rfl, _, _, rfl, rfl, m, 3 + (j : Int), rfl, by omega, by omega, fun mj _ _ _ => ⟨_, rfl, mj, p, ls, j, rfl, hp5, L, by omega, fun p' ls' H6 _ e6 hp6 L' => ?_⟩⟩
        exact ⟨p', ls', _, rfl, e6 _ _ hc5, hp6, L'⟩
      · rintro σ' H5 ⟨p2, ls, y5, rfl, hc5, hp5, L⟩
        have jl := join_len L t3
        have ja := join_asc L
        have hb : (ls.map (·.length)).sum + ls.length * ("\n" : Str).length ≤ 16777216 := by
          have h1 := sum_le (B := 113) (l := ls.map (·.length)) fun x hx => by
            obtain ⟨y, hy, rfl⟩ := List.mem_map.mp hx
            have := (L.each y hy).1
            omega
          rw [List.length_map] at h1
          have h2 := L.many
          have e : ("\n" : Str).length = 1 := by decide
          rw [e]
          omega
        refine ⟨⟨_, rfl⟩, _, rfl, _, p2, ls, rfl, rfl, .inl (Evl.sq_of hp5), hb, ?_⟩
        generalize Txt.join ("\n" : Str) ls = x at jl ja ⊢
        refine ⟨_, rfl, x, rfl, by omega, ja, fun k hk H6 e6 => ?_, fun n nss hk t0 q0 H6 _ e6 ht0 hq0 h16 => ?_⟩
        · refine ⟨_, rfl, _, rfl, .inr ⟨x, rfl, by omega, fun k' hk' t1 H7 _ e7 ht1 => ?_, fun n nss hk' => by rw [hk] at hk'; cases hk'⟩⟩
          rw [hk] at hk'
          cases hk'
          refine ⟨_, rfl, _, "int", "tuple", false, rfl, .int _, by decide +kernel, _, rfl, ifF rfl ⟨_, rfl, Evl.sz_of (by simp), fun t2 ht2 => ?_⟩⟩
          have e8 := ev_up (o := .tup [.str "line", .int (k : Nat)]) ht2
          refine ⟨_, _, dp_pair (e8 _ _ ht1) (.str _) (.int _), dp_pair upd_same (.str _) (.int _), sh_line (by simp [PyData.canLay0]) (by simp [PyData.depth]), sh_line (by simp [PyData.canLay0]) (by simp [PyData.depth]), _, rfl, ifF (by rw [eqv_line _ (by simp [PyData.eqv])]; rfl) ?_⟩
          have hpX := e8 _ _ (e7 _ _ (e6 _ _ hp5))
          have hcX := e8 _ _ (e7 _ _ (e6 _ _ hc5))
          generalize upd H7 t2 (.tup [.str "line", .int (k : Nat)]) = HX at hpX hcX ⊢
          refine ⟨_, rfl, _, rfl, p2, _, rfl, .inl ⟨Evl.sq_of hpX, fun tt htt => fun dd hdd => ?_⟩⟩
          have ea := ev_up (o := .tup (ls.map V.str)) htt
          have eb := ev_up (o := .dK []) hdd
          have htt2 : upd (upd HX tt (.tup (ls.map V.str))) dd (.dK []) tt = some (.tup (ls.map V.str)) := eb _ _ upd_same
          have hdd2 : upd (upd HX tt (.tup (ls.map V.str))) dd (.dK []) dd = some (.dK []) := upd_same
          have eX := ea.trans eb
          generalize upd (upd HX tt (.tup (ls.map V.str))) dd (.dK []) = HY at eX htt2 hdd2 ⊢
          refine ⟨Evl.sz_of (by simp), fun Lo hLo => ?_⟩
          have ec := ev_up (o := .lst [V.non, V.int 5, V.bl true, V.ref p2, V.ref tt, V.ref dd]) hLo
          have hLo2 : upd HY Lo (.lst [V.non, V.int 5, V.bl true, V.ref p2, V.ref tt, V.ref dd]) Lo = some (.lst [V.non, V.int 5, V.bl true, V.ref p2, V.ref tt, V.ref dd]) := upd_same
          have htt3 := ec _ _ htt2
          have hdd3 := ec _ _ hdd2
          have hp3 := ec _ _ (eX _ _ hpX)
          have hc3 := ec _ _ (eX _ _ hcX)
          generalize upd HY Lo (.lst [V.non, V.int 5, V.bl true, V.ref p2, V.ref tt, V.ref dd]) = HZ at ec hLo2 htt3 hdd3 hp3 hc3 ⊢
          refine ⟨_, rfl, m, 9, rfl, by decide, by decide, fun m9 m90 m91 _ => ⟨_, _, rfl, rfl, (by show (0 : Int) < 6; decide), ?_⟩⟩
          have pk : ∃ v T, atI [V.non, V.int 5, V.bl true, V.ref p2, V.ref tt, V.ref dd] (m9 % 6) = some v ∧ Kd HZ v T ∧ T ≠ "str" := by
            rcases (by omega : m9 % 6 = 0 ∨ m9 % 6 = 1 ∨ m9 % 6 = 2 ∨ m9 % 6 = 3 ∨ m9 % 6 = 4 ∨ m9 % 6 = 5) with h | h | h | h | h | h <;> rw [h]
            · exact ⟨_, _, rfl, .non, by decide⟩
            · exact ⟨_, _, rfl, .int 5, by decide⟩
            · exact ⟨_, _, rfl, .bl true, by decide⟩
            · exact ⟨_, _, rfl, .lst hp3, by decide⟩
            · exact ⟨_, _, rfl, .tup htt3, by decide⟩
            · exact ⟨_, _, rfl, .dK hdd3, by decide⟩
          obtain ⟨v, T, hv, kd, hT⟩ := pk
          refine ⟨Lo, _, _, v, rfl, rfl, hLo2, hv, ?_⟩
          refine ⟨_, rfl, v, rfl, .inl ⟨T, kd, hT, fun t1 H8 _ e8 ht1 => ⟨Evl.sz_of (by simp), fun t2 ht2 => ?_⟩⟩⟩
          have e9 := ev_up (o := .tup [.str "line", .non]) ht2
          refine ⟨_, _, dp_pair (e9 _ _ ht1) (.str _) .non, dp_pair upd_same (.str _) .non, sh_line rfl (by decide), sh_line rfl (by decide), _, rfl, ifF (by rw [eqv_line _ rfl]; rfl) ?_⟩
          exact ⟨⟨_, _, _, _, _, _, _, _, rfl⟩, e9 _ _ (e8 _ _ hc3)⟩
        · refine ⟨_, rfl, _, rfl, .inr ⟨x, rfl, by omega, (fun k' hk' => by rw [hk] at hk'; cases hk'), fun n' nss' hk' t1 q1 HX _ e7 ht1 hq1 => ?_⟩⟩
          rw [hk] at hk'
          cases hk'
          refine ⟨_, rfl, _, "tuple", "tuple", true, rfl, .tup (e7 _ _ ht0), by decide +kernel, _, rfl, ifT rfl ⟨_, rfl, ?_⟩⟩
          obtain ⟨qs1, hq1a, hq1b⟩ := hq1
          obtain ⟨qs0, hq0a, hq0b⟩ := hq0
          refine ⟨_, _, dp_pair ht1 (.int _) (dp_rows hq1a hq1b), dp_pair (e7 _ _ ht0) (.int _) (dp_rows (e7 _ _ hq0a) (hq0b.ex e7)), sh_read _ _, sh_read _ _, _, rfl, ifF (by rw [eqv_read]; rfl) ?_⟩
          have hpX := e7 _ _ (e6 _ _ hp5)
          have hcX := e7 _ _ (e6 _ _ hc5)
          refine ⟨_, rfl, _, rfl, p2, _, rfl, .inl ⟨Evl.sq_of hpX, fun tt htt => fun dd hdd => ?_⟩⟩
          have ea := ev_up (o := .tup (ls.map V.str)) htt
          have eb := ev_up (o := .dK []) hdd
          have htt2 : upd (upd HX tt (.tup (ls.map V.str))) dd (.dK []) tt = some (.tup (ls.map V.str)) := eb _ _ upd_same
          have hdd2 : upd (upd HX tt (.tup (ls.map V.str))) dd (.dK []) dd = some (.dK []) := upd_same
          have eX := ea.trans eb
          generalize upd (upd HX tt (.tup (ls.map V.str))) dd (.dK []) = HY at eX htt2 hdd2 ⊢
          refine ⟨Evl.sz_of (by simp), fun Lo hLo => ?_⟩
          have ec := ev_up (o := .lst [V.non, V.int 5, V.bl true, V.ref p2, V.ref tt, V.ref dd]) hLo
          have hLo2 : upd HY Lo (.lst [V.non, V.int 5, V.bl true, V.ref p2, V.ref tt, V.ref dd]) Lo = some (.lst [V.non, V.int 5, V.bl true, V.ref p2, V.ref tt, V.ref dd]) := upd_same
          have htt3 := ec _ _ htt2
          have hdd3 := ec _ _ hdd2
          have hp3 := ec _ _ (eX _ _ hpX)
          have hc3 := ec _ _ (eX _ _ hcX)
          generalize upd HY Lo (.lst [V.non, V.int 5, V.bl true, V.ref p2, V.ref tt, V.ref dd]) = HZ at ec hLo2 htt3 hdd3 hp3 hc3 ⊢
          refine ⟨_, rfl, m, 9, rfl, by decide, by decide, fun m9 m90 m91 _ => ⟨_, _, rfl, rfl, (by show (0 : Int) < 6; decide), ?_⟩⟩
          have pk : ∃ v T, atI [V.non, V.int 5, V.bl true, V.ref p2, V.ref tt, V.ref dd] (m9 % 6) = some v ∧ Kd HZ v T ∧ T ≠ "str" := by
            rcases (by omega : m9 % 6 = 0 ∨ m9 % 6 = 1 ∨ m9 % 6 = 2 ∨ m9 % 6 = 3 ∨ m9 % 6 = 4 ∨ m9 % 6 = 5) with h | h | h | h | h | h <;> rw [h]
            · exact ⟨_, _, rfl, .non, by decide⟩
            · exact ⟨_, _, rfl, .int 5, by decide⟩
            · exact ⟨_, _, rfl, .bl true, by decide⟩
            · exact ⟨_, _, rfl, .lst hp3, by decide⟩
            · exact ⟨_, _, rfl, .tup htt3, by decide⟩
            · exact ⟨_, _, rfl, .dK hdd3, by decide⟩
          obtain ⟨v, T, hv, kd, hT⟩ := pk
          refine ⟨Lo, _, _, v, rfl, rfl, hLo2, hv, ?_⟩
          refine ⟨_, rfl, v, rfl, .inl ⟨T, kd, hT, fun t1 H8 _ e8 ht1 => ⟨Evl.sz_of (by simp), fun t2 ht2 => ?_⟩⟩⟩
          have e9 := ev_up (o := .tup [.str "line", .non]) ht2
          refine ⟨_, _, dp_pair (e9 _ _ ht1) (.str _) .non, dp_pair upd_same (.str _) .non, sh_line rfl (by decide), sh_line rfl (by decide), _, rfl, ifF (by rw [eqv_line _ rfl]; rfl) ?_⟩
          exact ⟨⟨_, _, _, _, _, _, _, _, rfl⟩, e9 _ _ (e8 _ _ hc3)⟩
    · rintro σ' H' ⟨⟨y1, y2, y3, y4, y5, y6, y7, y8, rfl⟩, hcH⟩
      refine ⟨_, rfl, .inr ⟨"", rfl, by decide, fun k' hk' t1 H7 _ e7 ht1 => ?_, fun n nss hk' => by rw [read_empty] at hk'; cases hk'⟩⟩
      rw [read_empty] at hk'
      cases hk'
      refine ⟨Evl.sz_of (by simp), fun t2 ht2 => ?_⟩
      have e8 := ev_up (o := .tup [.str "line", .int 0]) ht2
      refine ⟨_, _, dp_pair (e8 _ _ ht1) (.str _) (.int _), dp_pair upd_same (.str _) (.int _), sh_line (by simp [PyData.canLay0]) (by simp [PyData.depth]), sh_line (by simp [PyData.canLay0]) (by simp [PyData.depth]), ?_⟩
      rw [show (PyData.int ((0 : Nat) : Int)) = PyData.int 0 from rfl, eqv_line _ (by simp [PyData.eqv])]
      exact q _
end
end Sr
/-! # SH -/
namespace Sr
open PySem PySem.Spec PyProof.Rows L2
/-! ### what the head must see of an error with one field -/
def oexB (K : PySem.W.Frag) (C : Addr) : Bool := (match K.lookup C with
  | some ⟨.type "type", _, .cls cd, sl⟩ => (match cd.mro, sl.toList with
    | .ref C' :: bm, [_, _, _, _, some (.builtin n), _] => C' == C && n == "ValueError.__new__" && !cd.hasDel && cd.hasDict && PySem.HandSPX.refsVE bm
    | _, _ => false)
  | _ => false) && (He.eqO (PySem.W.findIn K (.ref C) "__setattr__") (some (some (.builtin "object.__setattr__"))) && (decide (PySem.W.subIn K (.ref C) (.type "BaseException") = some true) && (decide (PySem.W.typeIn K (.ref C) = some (.type "type")) && PySem.W.keepIn K (.ref C))))
theorem oexB_ok {K : PySem.W.Frag} {C : Addr} (h : oexB K C = true) : OexC K C := by
  obtain ⟨q, h⟩ := He.ba h
  obtain ⟨h2, h⟩ := He.ba h
  obtain ⟨h3, h⟩ := He.ba h
  obtain ⟨h4, h5⟩ := He.ba h
  refine ⟨?_, He.eqO_ok h2, of_decide_eq_true h3, of_decide_eq_true h4, h5⟩
  split at q
  · rename_i dd cd sl ho
    split at q
    · rename_i C' bm k0 k1 k2 k3 n k5 hm hs
      simp only [Bool.and_eq_true, beq_iff_eq, Bool.not_eq_true'] at q
      obtain ⟨⟨⟨⟨rfl, rfl⟩, hdel⟩, hdi⟩, ht⟩ := q
      obtain ⟨nm, bs, mro, ns, qn, hd, sn, sub, ab, col, del⟩ := cd
      dsimp only at hm hdel hdi
      subst hm hdel hdi
      have hsl : sl = #[k0, k1, k2, k3, some (.builtin "ValueError.__new__"), k5] := by
        obtain ⟨l⟩ := sl
        simp only at hs
        rw [hs]
      subst hsl
      exact ⟨nm, qn, ns, bs, bm, sn, sub, ab, col, dd, k0, k1, k2, k3, k5, ho, ht⟩
    · cases q
  · cases q
def celA (K : PySem.W.Frag) (p : Str × Option Str) : Addr := match K.lookup (He.fAd K p) with
  | some ⟨_, _, .func fd, _⟩ => (match fd.closure with
    | [(_, a)] => a
    | _ => 0)
  | _ => 0
def fileB (K : PySem.W.Frag) (cdv : Value) (file : Str) : Bool := match cdv with
  | .ref cda => (match K.lookup cda with
    | some ⟨_, _, .fields vs, _⟩ => (match (vs[2]? : Option Value) with
      | some (Value.str f _) => file == f
      | _ => false)
    | _ => false)
  | _ => false
def supB (K : PySem.W.Frag) (C : Addr) (qual fld file : Str) (p : Str × Option Str) : Bool :=
  (match K.lookup (He.fAd K p) with
    | some ⟨_, _, .func fd, _⟩ => PySem.W.codeIn K fd.code qual && (He.dflB K fd.defaults [] && fileB K fd.code file)
    | _ => false) &&
  ((match K.lookup (celA K p) with
    | some ⟨_, _, .cell (some (.ref a)), _⟩ => decide (a = C)
    | _ => false) &&
  (He.eqO (PySem.W.findIn K (.ref C) "__init__") (some (some (.ref (He.fAd K p)))) &&
  (decide (PySem.W.typeIn K (.ref (He.fAd K p)) = some (.type "function")) &&
  ((PySem.W.clsIn K C).isSome &&
  (decide (PySem.W.mroIn K C (.ref C) = some true) &&
  (He.eqO (PySem.W.nsIn K PySem.cStatics "thirdparty.any") (some none) &&
  (He.eqO (PySem.W.ks_superIn K C C "__init__") (some (some (.builtin "ValueError.__init__"))) &&
  (decide (PySem.W.subIn K (.ref C) (.type "ValueError") = some true) &&
  (oexB K C &&
  (xfB K C &&
  He.eqO (PySem.W.findIn K (.ref C) fld) (some none)))))))))))
theorem sup_of {P : Program} {w : World} {K : PySem.W.Frag} {mg : Str → Option Value} {base : Heap} {C : Addr} {x fld qual file : Str} {params : Arguments} {body : List Stmt} {scope : Scope} {p : Str × Option Str}
    (hz : He.fnW K p = (some (("__init__" : Str), qual, params, FuncBody.stmts body, scope, mainGlobals, [(("__class__" : Str), celA K p)], builtinsNs) : He.FnW)) (hb : supB K C qual fld file p = true) (hf : ((P.main.file : Str) == file) = true) (hs : mg "super" = none) (ht : (P.main.scope.names.lookup ("super" : Str)).isSome = false)
    (hp : ∃ ar : Arg, (params.posonlyargs ++ params.args).head? = some ar ∧ ar.arg = "self") (hg : mg x = some (.ref C))
    (bnd : ∀ (kV doc pm : Value) (an : Option Addr) (cdv ct : Value) (cc : Addr) (us : List Value), us.length = 2 → bindArgs (PySem.W.ksFn "__init__" qual params body scope .none kV doc pm an cdv ct cc) ⟨us, []⟩ = pure ((["self", fld] : List Str).zip us))
    (ok : ∀ (f : Addr) (fd : FuncData), SupK P K mg C fld qual params body scope f fd → FnOk P w K mg base CX0 1 f fd ["self", fld] (spExI C fld)) : XdC P w K mg base x fld C := by
  obtain ⟨c1, hb⟩ := He.ba hb
  obtain ⟨c2, hb⟩ := He.ba hb
  obtain ⟨c3, hb⟩ := He.ba hb
  obtain ⟨c4, hb⟩ := He.ba hb
  obtain ⟨c5, hb⟩ := He.ba hb
  obtain ⟨c6, hb⟩ := He.ba hb
  obtain ⟨c7, hb⟩ := He.ba hb
  obtain ⟨c8, hb⟩ := He.ba hb
  obtain ⟨c9, hb⟩ := He.ba hb
  obtain ⟨c10, hb⟩ := He.ba hb
  obtain ⟨c11, c12⟩ := He.ba hb
  have oc := oexB_ok c10
  have xf := xfB_ok c11
  unfold He.fnW at hz
  cases q : K.lookup (He.fAd K p) with
  | none => rw [q] at c1; cases c1
  | some o =>
    obtain ⟨oc', od, dt, osl⟩ := o
    rw [q] at c1 hz
    cases dt with
    | func fd =>
      obtain ⟨n1, n2, n3, n4, n5, n6, n7, n8, n9, n10, n11, n12, n13, n14, n15⟩ := fd
      have e2 : (some (n1, n2, n3, n4, n5, n6, n7, n15) : He.FnW) = (some (("__init__" : Str), qual, params, FuncBody.stmts body, scope, mainGlobals, [(("__class__" : Str), celA K p)], builtinsNs) : He.FnW) := hz
      simp only [Option.some.injEq, Prod.mk.injEq] at e2
      obtain ⟨h1, h2, h3, h4, h5, h6, h7, h8⟩ := e2
      subst h1 h2 h3 h4 h5 h6 h7 h8
      have c1' : (PySem.W.codeIn K n13 n2 && (He.dflB K n8 [] && fileB K n13 file)) = true := c1
      obtain ⟨k1, k2⟩ := He.ba c1'
      obtain ⟨k3, k4⟩ := He.ba k2
      have hd : n8 = .none := by
        rcases He.dflB_ok k3 with ⟨_, h⟩ | ⟨h, _⟩
        · exact h
        · exact absurd rfl h
      subst hd
      unfold fileB at k4
      split at k4
      · rename_i cda
        split at k4
        · rename_i ccl cdd vs ccs hl
          split at k4
          · rename_i f tf hv
            have ef : file = f := by simpa using k4
            subst ef
            generalize hcc : celA K p = cc at c2 q
            split at c2
            · rename_i cl cld a csl hcl
              have ea : a = C := of_decide_eq_true c2
              subst ea
              have SK : SupK P K mg a fld n2 n3 body n5 (He.fAd K p) (PySem.W.ksFn "__init__" n2 n3 body n5 .none n9 n10 n11 n12 (.ref cda) n14 cc) :=
                ⟨⟨_, oc', od, _, _, _, _, _, cda, cc, _, osl, ccl, cdd, vs, ccs, file, tf, cl, cld, csl, rfl, q, k1, hl, hv, hf, hcl⟩, hp, Option.isSome_iff_exists.mp c5, of_decide_eq_true c6, hs, ht, He.eqO_ok c7, He.eqO_ok c8, of_decide_eq_true c9, oc, He.eqO_ok c12⟩
              exact ⟨hg, oc, ⟨_, _, He.eqO_ok c3, of_decide_eq_true c4, ok _ _ SK, .all fun us hu => bnd _ _ _ _ _ _ _ us hu⟩, xf, He.eqO_ok c12⟩
            · cases c2
          · cases k4
        · cases k4
      · cases k4
    | _ => cases c1
end Sr
/-! # YI -/
namespace Sr
open PySem PySem.Spec PyProof.Rows L2
abbrev s_BadText_init : Stmt := inClass (topS 10) 0
theorem scS_BadText : ScS (defScope s_BadText_init) "line" := ⟨rfl, rfl, rfl, by decide +kernel, by decide +kernel, by decide +kernel, by decide +kernel, by decide +kernel, by decide +kernel, by decide +kernel⟩
theorem ok_badtext {P : Program} {w : World} {K : PySem.W.Frag} {mg : Str → Option Value} {base : Heap} {C f : Addr} {fd : FuncData} (SK : SupK P K mg C "line" "BadText.__init__" (defArgs s_BadText_init) (defBody s_BadText_init) (defScope s_BadText_init) f fd) : FnOk P w K mg base CX0 1 f fd ["self", "line"] (spExI C "line") :=
  ok_exinit SK scS_BadText rfl (by decide +kernel) (by decide +kernel) (pl := ?pl) (fun env => by rfl) (fun env => by rfl) (fun env => by rfl)
end Sr
/-! # N1 -/
namespace Sr
open PySem PySem.Spec PyProof.Rows L2
/-! ### a law's head that tells the defs that no one looks on: the written part is widened by the objects that say so -/
def Wider (h : Heap) (K K' : PySem.W.Frag) : Prop := K'.In h ∧ (∀ base : Heap, K'.In base → K.In base) ∧ ∀ H a xs, SqL K' H a xs → SqL K H a xs
theorem Wider.refl {h : Heap} {K : PySem.W.Frag} (X : K.In h) : Wider h K K := ⟨X, fun _ z => z, fun _ _ _ z => z⟩
theorem lookup_cons_self {K : PySem.W.Frag} {b : Addr} {ob : Obj} : List.lookup b ((b, ob) :: K) = some ob := by
  show List.lookup b ((b, ob) :: K) = some ob
  simp [List.lookup]
theorem lookup_cons_ne {K : PySem.W.Frag} {a b : Addr} {ob : Obj} (n : a ≠ b) : List.lookup a ((b, ob) :: K) = List.lookup a K := by
  show List.lookup a ((b, ob) :: K) = List.lookup a K
  have e : (a == b) = false := beq_eq_false_iff_ne.mpr n
  simp [List.lookup, e]
theorem Wider.more {h : Heap} {K K' : PySem.W.Frag} (X : K.In h) (W : Wider h K K') {b : Addr} {ob : Obj} (hb : h.get? b = some ob) (hn : ∀ its n, ob.cls = .type "list" → ob.data = .seq its n → False) :
    ∃ K'' : PySem.W.Frag, Wider h K K'' ∧ (∀ base : Heap, K''.In base → base.get? b = some ob) ∧ ∀ base : Heap, K''.In base → K'.In base := by
  obtain ⟨w1, w2, w3⟩ := W
  have dn : ∀ base : Heap, PySem.W.Frag.In ((b, ob) :: K') base → K'.In base := fun base z a o e => by
    by_cases q : a = b
    · subst q
      have e2 := w1 a o e
      rw [hb] at e2; cases e2
      exact z a ob lookup_cons_self
    · exact z a o ((lookup_cons_ne q).trans e)
  refine ⟨(b, ob) :: K', ⟨fun a o e => ?_, fun base z => w2 base (dn base z), fun H a xs z => ?_⟩, fun base z => z b ob lookup_cons_self, dn⟩
  · by_cases q : a = b
    · subst q
      rw [lookup_cons_self] at e; cases e
      exact hb
    · exact w1 a o ((lookup_cons_ne (ob := ob) q).symm.trans e)
  · rcases z with z | ⟨o, its, n, e, c, d, dt, r⟩
    · exact w3 H a xs (.inl z)
    · by_cases q : a = b
      · subst q
        rw [lookup_cons_self] at e; cases e
        exact (hn its n c dt).elim
      · exact w3 H a xs (.inr ⟨o, its, n, (lookup_cons_ne (ob := ob) q).symm.trans e, c, d, dt, r⟩)
theorem Wider.ns {h : Heap} {K K' : PySem.W.Frag} (X : K.In h) (W : Wider h K K') {b : Addr} {m : Str → Option Value} (hb : h.Ns b m) :
    ∃ K'' : PySem.W.Frag, Wider h K K'' ∧ (∀ base : Heap, K''.In base → base.Ns b m) ∧ ∀ base : Heap, K''.In base → K'.In base := by
  obtain ⟨o, es, ep, e, d, r⟩ := hb
  obtain ⟨K'', w, g, dn⟩ := W.more X e fun its n _ z => by rw [d] at z; cases z
  exact ⟨K'', w, fun base z => ⟨o, es, ep, g base z, d, r⟩, dn⟩
theorem Wider.seer {h : Heap} {K : PySem.W.Frag} (X : K.In h) (N : h.NoSeer) : ∃ K' : PySem.W.Frag, Wider h K K' ∧ ∀ base : Heap, K'.In base → base.NoSeer := by
  obtain ⟨mc, n1, c1⟩ := N.statics
  obtain ⟨mm, n2, c2⟩ := N.mods
  obtain ⟨mb, n3, c3⟩ := N.imp
  obtain ⟨mg, bm, ob, n4, c4, c5, c6, c7⟩ := N.main
  obtain ⟨K1, w1, g1, _⟩ := (Wider.refl X).ns X n1
  obtain ⟨K2, w2, g2, d2⟩ := w1.ns X n2
  obtain ⟨K3, w3, g3, d3⟩ := w2.ns X n3
  obtain ⟨K4, w4, g4, d4⟩ := w3.ns X n4
  obtain ⟨K5, w5, g5, d5⟩ := w4.more X c5 fun its n z _ => by rw [c6] at z; exact absurd (Value.type.inj z) (by decide)
  refine ⟨K5, w5, fun base z5 => ?_⟩
  have z4 := d5 base z5
  have z3 := d4 base z4
  have z2 := d3 base z3
  have z1 := d2 base z2
  exact ⟨⟨mc, g1 base z1, c1⟩, ⟨mm, g2 base z2, c2⟩, ⟨mb, g3 base z3, c3⟩, ⟨mg, bm, ob, g4 base z4, c4, g5 base z5, c6, c7⟩⟩
/-- an Env0 over the widened written part is one over the written part -/
theorem env0_less {P : Program} {w : World} {K K' : PySem.W.Frag} {mg : Str → Option Value} {base : Heap} {A : Around} {outer : List Env} {s : Shared} {H : Hp} (e : Env0 P w K' mg base A outer s H) (X : K.In base) : Env0 P w K mg base A outer s H :=
  ⟨e.frames, ⟨X, e.mod.glob, e.mod.blt, e.mod.nolimit⟩, e.bs, e.bsz, e.funs, e.frf, e.hok, e.bare⟩
theorem fnOk_more {P : Program} {w : World} {K K' : PySem.W.Frag} {mg : Str → Option Value} {base : Heap} {CX : CXT} {k : Nat} {f : Addr} {fd : FuncData} {ps : List Str} {sp : Sp} (F : FnOk P w K mg base CX k f fd ps sp) (X : K.In base) : FnOk P w K' mg base CX k f fd ps sp :=
  ⟨F.len, fun A outer s H args us vs Q E hr e hb hv hs => F.run A outer s H args us vs Q E hr (env0_less e X) hb hv hs⟩
theorem walk_seer {l : PySem.W.OpenLaw} {n k : Nat} {q : Program} {loose : List Str} {XP : (Str → Option Value) → Heap → Prop} {YP : World → Heap → Prop} {d : DefRec} {K : Params → PySem.W.Frag} {CX : World → CXT} {sp : World → Sp} {x : Str}
    (hn : l.most = some n) (hn2 : n ≤ sizeLine) (hdf : d.params.defaults = []) (hr : Room k callerA) (hi : importsNone q = true)
    (hY : ∀ (w : World) (h : Heap), YP w h → (K w.params).In h)
    (F : ∀ (w : World) (mg : Str → Option Value) (fa : Addr) (h : Heap), (K w.params).In h → h.Ns mainGlobals mg → mg d.name = some (.ref fa) →
      ∃ fd : FuncData, (∀ (s : Shared) (u : Value), BindsTo s fd ⟨[u], []⟩ [(x, u)]) ∧
        ∀ base : Heap, (K w.params).In base → base.Ns mainGlobals mg → base.NoSeer → FnOk l.prog w (K w.params) mg base (CX w) k fa fd [x] (sp w))
    (hsp : ∀ (w : World) (H : Hp) (a : Addr) (ns : List Int), ns.length ≤ n → Only H → SqL (K w.params) H a (ns.map V.int) → sp w [.ref a] H (fun v _ => v = .bl true) fun _ _ _ => False)
    (hCX : ∀ (w : World) (H : Hp) (s : Shared) (e : Value) (s' : Shared), CX w [] H s (fun _ _ _ => False) e s' → False) :
    PySem.W.WalkO q loose XP YP l.row.toRowW d [] (fun f vs => PySem.call f vs) := by
  refine Att.attach_call hn hdf fun w s₀ s₁ mg mb fa o pm cd doc a vs ns G Y ho hd hcd hmg hobj hints hlen hg => ?_
  have KX := hY w _ Y
  obtain ⟨K', W, S⟩ := Wider.seer KX (G.T.seer hi)
  obtain ⟨fd, hb, hF⟩ := F w mg fa _ KX G.T.g hmg
  exact law_call W.1 G.T.g G.T.b G.T.builtins G.T.nolimit hg hobj hints (Nat.le_trans hlen hn2) hr (fun base z y => fnOk_more (hF base (W.2.1 base z) y (S base z)) (W.2.1 base z)) hb (fun H hO hS => hsp w H a ns hlen hO (W.2.2 H a _ hS)) fun H e s' => hCX w H s₁ e s'
end Sr
/-! # Hd14 -/
namespace Sr
open PySem PySem.Spec PyProof.Rows L2
def fn : List He.DefD := [
⟨("is_whole", none), "is_whole", "is_whole", defArgs s_is_whole, defBody s_is_whole, defScope s_is_whole, [], []⟩,
  ⟨("is_row", none), "is_row", "is_row", defArgs s_is_row, defBody s_is_row, defScope s_is_row, [], []⟩,
  ⟨("is_near_row", none), "is_near_row", "is_near_row", defArgs s_is_near_row, defBody s_is_near_row, defScope s_is_near_row, [], []⟩,
  ⟨("are_near_rows", none), "are_near_rows", "are_near_rows", defArgs s_are_near_rows, defBody s_are_near_rows, defScope s_are_near_rows, [], []⟩,
  ⟨("Room", some "__init__"), "__init__", "Room.__init__", defArgs s_Room_init, defBody s_Room_init, defScope s_Room_init, [.non], []⟩,
  ⟨("Room", some "letters"), "letters", "Room.letters", defArgs s_Room_letters, defBody s_Room_letters, defScope s_Room_letters, [], []⟩,
  ⟨("Room", some "nothings"), "nothings", "Room.nothings", defArgs s_Room_nothings, defBody s_Room_nothings, defScope s_Room_nothings, [], []⟩,
  ⟨("_law_mixed", none), "_law_mixed", "_law_mixed", defArgs s_l_mixed, defBody s_l_mixed, defScope s_l_mixed, [], []⟩,
  ⟨("_law_number", none), "_law_number", "_law_number", defArgs s_l_number, defBody s_l_number, defScope s_l_number, [], []⟩,
  ⟨("_law_nothing", none), "_law_nothing", "_law_nothing", defArgs s_l_nothing, defBody s_l_nothing, defScope s_l_nothing, [], []⟩,
  ⟨("_law_told", none), "_law_told", "_law_told", defArgs s_l_told, defBody s_l_told, defScope s_l_told, [], []⟩,
  ⟨("letters_line", none), "letters_line", "letters_line", defArgs s_letters_line, defBody s_letters_line, defScope s_letters_line, [], []⟩,
  ⟨("letters_of", none), "letters_of", "letters_of", defArgs s_letters_of, defBody s_letters_of, defScope s_letters_of, [], []⟩,
  ⟨("number_of", none), "number_of", "number_of", defArgs s_number_of, defBody s_number_of, defScope s_number_of, [], []⟩,
  ⟨("row_of", none), "row_of", "row_of", defArgs s_row_of, defBody s_row_of, defScope s_row_of, [], []⟩,
  ⟨("room_of", none), "room_of", "room_of", defArgs s_room_of, defBody s_room_of, defScope s_room_of, [], []⟩,
  ⟨("_law_word", none), "_law_word", "_law_word", defArgs s_l_word, defBody s_l_word, defScope s_l_word, [], []⟩,
  ⟨("_law_part", none), "_law_part", "_law_part", defArgs s_l_part, defBody s_l_part, defScope s_l_part, [], []⟩,
  ⟨("_law_read", none), "_law_read", "_law_read", defArgs s_l_read, defBody s_l_read, defScope s_l_read, [], []⟩,
  ⟨("_law_lines", none), "_law_lines", "_law_lines", defArgs s_l_lines, defBody s_l_lines, defScope s_l_lines, [], []⟩,
  ⟨("_law_bent", none), "_law_bent", "_law_bent", defArgs s_l_bent, defBody s_l_bent, defScope s_l_bent, [], []⟩,
  ⟨("_law_said", none), "_law_said", "_law_said", defArgs s_l_said, defBody s_l_said, defScope s_l_said, [], []⟩,
  ⟨("law", none), "law", "law", defArgs s_law, defBody s_law, defScope s_law, [], []⟩]
def fa : List He.Fa := [.free "int", .free "bool", .free "list", .free "str", .free "tuple", .free "type", .free "len", .free "range", .free "enumerate", .free "zip", .free "isinstance", .free "all", .free "any", .free "sum", .free "sorted", .free "ValueError", .free "abs", .glo "Stairs", .cls "Stairs", .mkr "Stairs", .glo "Plan", .cls "Plan", .mkr "Plan", .glo "Room", .cls "Room", .mkr "Room", .noat "Stairs" "_width", .noat "Stairs" "_many", .noat "Stairs" "_steps", .noat "Stairs" "_idle", .noat "Plan" "stairs", .noat "Plan" "moduli", .noat "Plan" "gauges", .noat "Plan" "_corners", .noat "Plan" "_letters", .noat "Room" "_letters", .noat "Room" "_nothings", .noat "Room" "_plan", .int "MOST_LETTERS" 6, .int "MOST_NOTHINGS" 16, .int "FURTHEST" 1000000000000, .glo "is_whole", .glo "is_row", .glo "is_near_row", .glo "are_near_rows", .meth "Room" "letters", .meth "Room" "nothings", .glo "_law_mixed", .glo "_law_number", .glo "_law_nothing", .glo "_law_told", .glo "letters_line", .glo "letters_of", .glo "number_of", .glo "row_of", .glo "room_of", .glo "_law_word", .glo "_law_part", .glo "_law_read", .glo "_law_lines", .glo "_law_bent", .glo "_law_said", .glo "law", .free "super", .glo "SumError", .glo "BadLetters", .glo "BadSum", .glo "TooMany", .glo "NoNothing", .glo "BadSpot", .glo "NoWay", .glo "BadText", .exm "BadText" "SumError" true]
def e7 : List Str := ["BadLetters", "BadSum", "TooMany", "NoNothing", "BadSpot", "NoWay", "BadText"]
def exC (K : PySem.W.Frag) (x : Str) : Bool :=
  He.eqO (PySem.W.findIn K (.ref (He.ga K x)) "__getattribute__") (some (some (.builtin "BaseException.__getattribute__"))) &&
  (He.eqO (PySem.W.findIn K (.ref (He.ga K x)) "__getattr__") (some none) &&
  (decide (PySem.W.subIn K (.ref (He.ga K x)) (.type "BaseException") = some true) &&
  (PySem.W.hasDictIn K (He.ga K x) &&
  (He.eqO (PySem.W.findIn K (.ref (He.ga K x)) "__class__") (some (some (.builtin "object.__class__"))) &&
  (He.eqO (PySem.W.specialIn K (.builtin "object.__class__") "__get__") (some (some (.builtin "getset_descriptor.__get__"))) &&
  (decide (PySem.W.takesIn K (.builtin "object.__class__") = some true) &&
  decide (PySem.W.mroIn K (He.ga K x) (.type "object") = some true)))))))
theorem exC_ok {K : PySem.W.Frag} {x : Str} (h : exC K x = true) : ExcC K (He.ga K x) := by
  obtain ⟨h1, h⟩ := He.ba h
  obtain ⟨h2, h⟩ := He.ba h
  obtain ⟨h3, h⟩ := He.ba h
  obtain ⟨h4, h⟩ := He.ba h
  obtain ⟨h5, h⟩ := He.ba h
  obtain ⟨h6, h⟩ := He.ba h
  obtain ⟨h7, h8⟩ := He.ba h
  exact ⟨He.eqO_ok h1, He.eqO_ok h2, of_decide_eq_true h3, h4, He.eqO_ok h5, He.eqO_ok h6, of_decide_eq_true h7, of_decide_eq_true h8⟩
def wdB (K : PySem.W.Frag) (x : Str) (k : Nat) : Bool :=
  exC K x && ((List.range 7).all (fun j => decide (PySem.W.kitOne K (.ref (He.ga K x)) (.ref (He.ga K (e7.getD j ""))) = some (decide (j = k)))) &&
  (decide (PySem.W.kitOne K (.ref (He.ga K x)) (.ref (He.ga K "SumError")) = some true) && decide (PySem.W.kitOne K (.ref (He.ga K x)) (.type "ValueError") = some true)))
theorem wdB_ok {K : PySem.W.Frag} {x : Str} {k : Nat} (h : wdB K x k = true) : Wd K (He.ga K "SumError") [He.ga K "BadLetters", He.ga K "BadSum", He.ga K "TooMany", He.ga K "NoNothing", He.ga K "BadSpot", He.ga K "NoWay", He.ga K "BadText"] (He.ga K x) k := by
  obtain ⟨h1, h⟩ := He.ba h
  obtain ⟨h2, h⟩ := He.ba h
  obtain ⟨h3, h4⟩ := He.ba h
  refine ⟨exC_ok h1, fun j C hj => ?_, of_decide_eq_true h3, of_decide_eq_true h4⟩
  have hj7 : j < 7 := (List.getElem?_eq_some_iff.mp hj).1
  have z := of_decide_eq_true (List.all_eq_true.mp h2 j (List.mem_range.mpr hj7))
  match j, hj, hj7, z with
  | 0, hj, _, z => cases hj; exact z
  | 1, hj, _, z => cases hj; exact z
  | 2, hj, _, z => cases hj; exact z
  | 3, hj, _, z => cases hj; exact z
  | 4, hj, _, z => cases hj; exact z
  | 5, hj, _, z => cases hj; exact z
  | 6, hj, _, z => cases hj; exact z
  | n + 7, _, h7, _ => exact absurd h7 (by omega)

def exB (K : PySem.W.Frag) : Bool := wdB K "BadText" 6 && (isB K (He.ga K "Room") && (true))
theorem facts {P : Program} {w : World} {K : PySem.W.Frag} {h : Heap} {mg : Str → Option Value} {f : Addr} (hT : P.given.tree = none) (X : K.In h) (G : h.Ns mainGlobals mg) (hfa : mg ("law" : Str) = some (.ref f)) (c : He.SaysD fa fn K) (ex : exB K = true) (hz : He.fnW K ("BadText", some "__init__") = (some (("__init__" : Str), "BadText.__init__", defArgs s_BadText_init, FuncBody.stmts (defBody s_BadText_init), defScope s_BadText_init, mainGlobals, [(("__class__" : Str), celA K ("BadText", some "__init__"))], builtinsNs) : He.FnW))
    (hsb : supB K (He.ga K "BadText") "BadText.__init__" "line" P.main.file ("BadText", some "__init__") = true) (hts : (P.main.scope.names.lookup ("super" : Str)).isSome = false) :
    ∃ fd : FuncData, (∀ (s : Shared) (v : Value), BindsTo s fd ⟨[v], []⟩ [("_law_script", v)]) ∧ ∀ base : Heap, K.In base → base.Ns mainGlobals mg → base.NoSeer → FnOk P w K mg base CX0 9 f fd ["_law_script"] (spLaw K) := by
  have B : Bi mg := ⟨He.free_ok X G (c.fact 0 (f := .free "int") rfl), He.free_ok X G (c.fact 1 (f := .free "bool") rfl), He.free_ok X G (c.fact 2 (f := .free "list") rfl), He.free_ok X G (c.fact 3 (f := .free "str") rfl), He.free_ok X G (c.fact 4 (f := .free "tuple") rfl), He.free_ok X G (c.fact 5 (f := .free "type") rfl), He.free_ok X G (c.fact 6 (f := .free "len") rfl), He.free_ok X G (c.fact 7 (f := .free "range") rfl), He.free_ok X G (c.fact 8 (f := .free "enumerate") rfl), He.free_ok X G (c.fact 9 (f := .free "zip") rfl), He.free_ok X G (c.fact 10 (f := .free "isinstance") rfl), He.free_ok X G (c.fact 11 (f := .free "all") rfl), He.free_ok X G (c.fact 12 (f := .free "any") rfl), He.free_ok X G (c.fact 13 (f := .free "sum") rfl)⟩
  have B_ValueError := He.free_ok X G (c.fact 15 (f := .free "ValueError") rfl)
  have B_abs := He.free_ok X G (c.fact 16 (f := .free "abs") rfl)
  obtain ⟨x0, ex⟩ := He.ba ex
  obtain ⟨xi, ex⟩ := He.ba ex
  have g_SumError := (He.glo_ok X G (c.fact 64 (f := .glo "SumError") rfl))
  have g_BadLetters := (He.glo_ok X G (c.fact 65 (f := .glo "BadLetters") rfl))
  have g_BadSum := (He.glo_ok X G (c.fact 66 (f := .glo "BadSum") rfl))
  have g_TooMany := (He.glo_ok X G (c.fact 67 (f := .glo "TooMany") rfl))
  have g_NoNothing := (He.glo_ok X G (c.fact 68 (f := .glo "NoNothing") rfl))
  have g_BadSpot := (He.glo_ok X G (c.fact 69 (f := .glo "BadSpot") rfl))
  have g_NoWay := (He.glo_ok X G (c.fact 70 (f := .glo "NoWay") rfl))
  have g_BadText := (He.glo_ok X G (c.fact 71 (f := .glo "BadText") rfl))
  have B_sorted := He.free_ok X G (c.fact 14 (f := .free "sorted") rfl)
  have T_MOST_LETTERS : Ci mg "MOST_LETTERS" 6 := He.int_ok X G (c.fact 38 (f := .int "MOST_LETTERS" 6) rfl)
  have T_MOST_NOTHINGS : Ci mg "MOST_NOTHINGS" 16 := He.int_ok X G (c.fact 39 (f := .int "MOST_NOTHINGS" 16) rfl)
  have T_FURTHEST : Ci mg "FURTHEST" 1000000000000 := He.int_ok X G (c.fact 40 (f := .int "FURTHEST" 1000000000000) rfl)
  have C_s : Sc K (He.ga K "Stairs") := ⟨He.cls_ok (c.fact 18 (f := .cls "Stairs") rfl), He.noat_ok (c.fact 26 (f := .noat "Stairs" "_width") rfl), He.noat_ok (c.fact 27 (f := .noat "Stairs" "_many") rfl), He.noat_ok (c.fact 28 (f := .noat "Stairs" "_steps") rfl), He.noat_ok (c.fact 29 (f := .noat "Stairs" "_idle") rfl)⟩
  have C_p : Pc K (He.ga K "Plan") := ⟨He.cls_ok (c.fact 21 (f := .cls "Plan") rfl), He.noat_ok (c.fact 30 (f := .noat "Plan" "stairs") rfl), He.noat_ok (c.fact 31 (f := .noat "Plan" "moduli") rfl), He.noat_ok (c.fact 32 (f := .noat "Plan" "gauges") rfl), He.noat_ok (c.fact 33 (f := .noat "Plan" "_corners") rfl), He.noat_ok (c.fact 34 (f := .noat "Plan" "_letters") rfl)⟩
  have C_r : Rc K (He.ga K "Room") := ⟨He.cls_ok (c.fact 24 (f := .cls "Room") rfl), He.noat_ok (c.fact 35 (f := .noat "Room" "_letters") rfl), He.noat_ok (c.fact 36 (f := .noat "Room" "_nothings") rfl), He.noat_ok (c.fact 37 (f := .noat "Room" "_plan") rfl)⟩
  obtain ⟨fd_is_whole, F_is_whole⟩ := c.def_ 0 (d := ⟨("is_whole", none), "is_whole", "is_whole", defArgs s_is_whole, defBody s_is_whole, defScope s_is_whole, [], []⟩) rfl
  obtain ⟨fd_is_row, F_is_row⟩ := c.def_ 1 (d := ⟨("is_row", none), "is_row", "is_row", defArgs s_is_row, defBody s_is_row, defScope s_is_row, [], []⟩) rfl
  obtain ⟨fd_is_near_row, F_is_near_row⟩ := c.def_ 2 (d := ⟨("is_near_row", none), "is_near_row", "is_near_row", defArgs s_is_near_row, defBody s_is_near_row, defScope s_is_near_row, [], []⟩) rfl
  obtain ⟨fd_are_near_rows, F_are_near_rows⟩ := c.def_ 3 (d := ⟨("are_near_rows", none), "are_near_rows", "are_near_rows", defArgs s_are_near_rows, defBody s_are_near_rows, defScope s_are_near_rows, [], []⟩) rfl
  obtain ⟨fd_rinit, F_rinit⟩ := c.def_ 4 (d := ⟨("Room", some "__init__"), "__init__", "Room.__init__", defArgs s_Room_init, defBody s_Room_init, defScope s_Room_init, [.non], []⟩) rfl
  obtain ⟨dsq, dvq, bq⟩ := F_rinit.binds1 (ps := ["self", "letters", "nothings"]) 3 1 (fun z => nomatch z) rfl fun T kV doc pm an cdv ct us its hu hi => match us, its, hu, hi with | [_, _, _], [_], _, _ => ⟨_, rfl, rfl⟩
  have b_rinit : Binds K fd_rinit ["self", "letters", "nothings"] [] := by
    cases dvq
    exact bq
  obtain ⟨fd_rletters, F_rletters⟩ := c.def_ 5 (d := ⟨("Room", some "letters"), "letters", "Room.letters", defArgs s_Room_letters, defBody s_Room_letters, defScope s_Room_letters, [], []⟩) rfl
  obtain ⟨fd_rnothings, F_rnothings⟩ := c.def_ 6 (d := ⟨("Room", some "nothings"), "nothings", "Room.nothings", defArgs s_Room_nothings, defBody s_Room_nothings, defScope s_Room_nothings, [], []⟩) rfl
  obtain ⟨fd_l_mixed, F_l_mixed⟩ := c.def_ 7 (d := ⟨("_law_mixed", none), "_law_mixed", "_law_mixed", defArgs s_l_mixed, defBody s_l_mixed, defScope s_l_mixed, [], []⟩) rfl
  obtain ⟨fd_l_number, F_l_number⟩ := c.def_ 8 (d := ⟨("_law_number", none), "_law_number", "_law_number", defArgs s_l_number, defBody s_l_number, defScope s_l_number, [], []⟩) rfl
  obtain ⟨fd_l_nothing, F_l_nothing⟩ := c.def_ 9 (d := ⟨("_law_nothing", none), "_law_nothing", "_law_nothing", defArgs s_l_nothing, defBody s_l_nothing, defScope s_l_nothing, [], []⟩) rfl
  obtain ⟨fd_l_told, F_l_told⟩ := c.def_ 10 (d := ⟨("_law_told", none), "_law_told", "_law_told", defArgs s_l_told, defBody s_l_told, defScope s_l_told, [], []⟩) rfl
  obtain ⟨fd_letters_line, F_letters_line⟩ := c.def_ 11 (d := ⟨("letters_line", none), "letters_line", "letters_line", defArgs s_letters_line, defBody s_letters_line, defScope s_letters_line, [], []⟩) rfl
  obtain ⟨fd_letters_of, F_letters_of⟩ := c.def_ 12 (d := ⟨("letters_of", none), "letters_of", "letters_of", defArgs s_letters_of, defBody s_letters_of, defScope s_letters_of, [], []⟩) rfl
  obtain ⟨fd_number_of, F_number_of⟩ := c.def_ 13 (d := ⟨("number_of", none), "number_of", "number_of", defArgs s_number_of, defBody s_number_of, defScope s_number_of, [], []⟩) rfl
  obtain ⟨fd_row_of, F_row_of⟩ := c.def_ 14 (d := ⟨("row_of", none), "row_of", "row_of", defArgs s_row_of, defBody s_row_of, defScope s_row_of, [], []⟩) rfl
  obtain ⟨fd_room_of, F_room_of⟩ := c.def_ 15 (d := ⟨("room_of", none), "room_of", "room_of", defArgs s_room_of, defBody s_room_of, defScope s_room_of, [], []⟩) rfl
  obtain ⟨fd_l_word, F_l_word⟩ := c.def_ 16 (d := ⟨("_law_word", none), "_law_word", "_law_word", defArgs s_l_word, defBody s_l_word, defScope s_l_word, [], []⟩) rfl
  obtain ⟨fd_l_part, F_l_part⟩ := c.def_ 17 (d := ⟨("_law_part", none), "_law_part", "_law_part", defArgs s_l_part, defBody s_l_part, defScope s_l_part, [], []⟩) rfl
  obtain ⟨fd_l_read, F_l_read⟩ := c.def_ 18 (d := ⟨("_law_read", none), "_law_read", "_law_read", defArgs s_l_read, defBody s_l_read, defScope s_l_read, [], []⟩) rfl
  obtain ⟨fd_l_lines, F_l_lines⟩ := c.def_ 19 (d := ⟨("_law_lines", none), "_law_lines", "_law_lines", defArgs s_l_lines, defBody s_l_lines, defScope s_l_lines, [], []⟩) rfl
  obtain ⟨fd_l_bent, F_l_bent⟩ := c.def_ 20 (d := ⟨("_law_bent", none), "_law_bent", "_law_bent", defArgs s_l_bent, defBody s_l_bent, defScope s_l_bent, [], []⟩) rfl
  obtain ⟨fd_l_said, F_l_said⟩ := c.def_ 21 (d := ⟨("_law_said", none), "_law_said", "_law_said", defArgs s_l_said, defBody s_l_said, defScope s_l_said, [], []⟩) rfl
  obtain ⟨fd_law, F_law⟩ := c.def_ 22 (d := ⟨("law", none), "law", "law", defArgs s_law, defBody s_law, defScope s_law, [], []⟩) rfl
  have e := hfa.symm.trans (He.glo_ok X G (c.fact 62 (f := .glo "law") rfl))
  cases e
  have b := FunD.bindsA (ps := ["_law_script"]) F_law fun _ _ _ _ _ _ us hl => match us, hl with | [_], _ => rfl
  refine ⟨fd_law, fun s v => b s [v] rfl, fun base _ _ hN => ?_⟩
  have X_BadText : XdC P w K mg base "BadText" "line" (He.ga K "BadText") := sup_of hz hsb (beq_self_eq_true _) (He.free_ok X G (c.fact 63 (f := .free "super") rfl)) hts ⟨_, rfl, rfl⟩ g_BadText (fun kV doc pm an cdv ct cc us hl => match us, hl with | [_, _], _ => rfl) (fun f fd SK => ok_badtext SK)
  have ER : ErrT K mg (He.ga K "SumError") [He.ga K "BadLetters", He.ga K "BadSum", He.ga K "TooMany", He.ga K "NoNothing", He.ga K "BadSpot", He.ga K "NoWay", He.ga K "BadText"] (He.ga K "BadText") := ⟨g_SumError, wdB_ok x0, He.exm_ok (c.fact 72 (f := .exm "BadText" "SumError" true) rfl)⟩
  have D_is_whole : Df P w K mg base CX0 1 "is_whole" ["thing"] spIsWhole := ⟨_, _, ok_is_whole F_is_whole B, (He.glo_ok X G (c.fact 41 (f := .glo "is_whole") rfl)), F_is_whole.kp, F_is_whole.bindsN fun _ _ _ _ _ _ us hl => match us, hl with | [_], _ => rfl⟩
  have D_is_row : Df P w K mg base CX0 2 "is_row" ["thing", "many"] spIsRow := ⟨_, _, ok_is_row F_is_row B D_is_whole, (He.glo_ok X G (c.fact 42 (f := .glo "is_row") rfl)), F_is_row.kp, F_is_row.bindsN fun _ _ _ _ _ _ us hl => match us, hl with | [_, _], _ => rfl⟩
  have D_is_near_row : Df P w K mg base CX0 3 "is_near_row" ["thing", "many"] spNearRow := ⟨_, _, ok_is_near_row F_is_near_row B T_FURTHEST D_is_row, (He.glo_ok X G (c.fact 43 (f := .glo "is_near_row") rfl)), F_is_near_row.kp, F_is_near_row.bindsN fun _ _ _ _ _ _ us hl => match us, hl with | [_, _], _ => rfl⟩
  have D_are_near_rows : Df P w K mg base CX0 4 "are_near_rows" ["thing", "many"] spNearRows := ⟨_, _, ok_are_near_rows F_are_near_rows B D_is_near_row, (He.glo_ok X G (c.fact 44 (f := .glo "are_near_rows") rfl)), F_are_near_rows.kp, F_are_near_rows.bindsN fun _ _ _ _ _ _ us hl => match us, hl with | [_, _], _ => rfl⟩
  have K_Room : RmMk P w K mg base (He.ga K "Room") := ⟨⟨_, fd_rinit, He.mkr_ok (c.fact 25 (f := .mkr "Room") rfl), ok_rinit F_rinit B C_r T_MOST_LETTERS T_MOST_NOTHINGS D_is_whole D_are_near_rows, b_rinit⟩, (He.glo_ok X G (c.fact 23 (f := .glo "Room") rfl))⟩
  have M_rletters : Mt P w K mg base CX0 1 (He.ga K "Room") "letters" ["self"] (spRLet (He.ga K "Room")) := ⟨_, _, ok_rletters F_rletters C_r, He.meth_ok (c.fact 45 (f := .meth "Room" "letters") rfl), F_rletters.bindsN fun _ _ _ _ _ _ us hl => match us, hl with | [_], _ => rfl⟩
  have M_rnothings : Mt P w K mg base CX0 1 (He.ga K "Room") "nothings" ["self"] (spRNth (He.ga K "Room")) := ⟨_, _, ok_rnothings F_rnothings B C_r, He.meth_ok (c.fact 46 (f := .meth "Room" "nothings") rfl), F_rnothings.bindsN fun _ _ _ _ _ _ us hl => match us, hl with | [_], _ => rfl⟩
  have D_l_mixed : Df P w K mg base CX0 1 "_law_mixed" ["_law_cell", "_law_k"] spMixed := ⟨_, _, ok_l_mixed F_l_mixed , (He.glo_ok X G (c.fact 47 (f := .glo "_law_mixed") rfl)), F_l_mixed.kp, F_l_mixed.bindsN fun _ _ _ _ _ _ us hl => match us, hl with | [_, _], _ => rfl⟩
  have D_l_number : Df P w K mg base CX0 2 "_law_number" ["_law_cell", "_law_k"] spNumber := ⟨_, _, ok_l_number F_l_number B D_l_mixed, (He.glo_ok X G (c.fact 48 (f := .glo "_law_number") rfl)), F_l_number.kp, F_l_number.bindsN fun _ _ _ _ _ _ us hl => match us, hl with | [_, _], _ => rfl⟩
  have D_l_nothing : Df P w K mg base CX0 3 "_law_nothing" ["_law_cell", "_law_letters", "_law_told_here"] spNothing := ⟨_, _, ok_l_nothing F_l_nothing B D_l_mixed D_l_number, (He.glo_ok X G (c.fact 49 (f := .glo "_law_nothing") rfl)), F_l_nothing.kp, F_l_nothing.bindsN fun _ _ _ _ _ _ us hl => match us, hl with | [_, _, _], _ => rfl⟩
  have D_l_told : Df P w K mg base CX0 4 "_law_told" ["_law_cells", "_law_letters"] (spTold K) := ⟨_, _, ok_l_told F_l_told B D_l_mixed D_l_nothing, (He.glo_ok X G (c.fact 50 (f := .glo "_law_told") rfl)), F_l_told.kp, F_l_told.bindsN fun _ _ _ _ _ _ us hl => match us, hl with | [_, _], _ => rfl⟩
  have D_letters_line : Df P w K mg base CX0 1 "letters_line" ["letters"] spLine := ⟨_, _, ok_letters_line F_letters_line , (He.glo_ok X G (c.fact 51 (f := .glo "letters_line") rfl)), F_letters_line.kp, F_letters_line.bindsN fun _ _ _ _ _ _ us hl => match us, hl with | [_], _ => rfl⟩
  have D_letters_of : Df P w K mg base CX0 2 "letters_of" ["line"] spLettersOf := ⟨_, _, ok_letters_of F_letters_of B T_MOST_LETTERS D_letters_line, (He.glo_ok X G (c.fact 52 (f := .glo "letters_of") rfl)), F_letters_of.kp, F_letters_of.bindsN fun _ _ _ _ _ _ us hl => match us, hl with | [_], _ => rfl⟩
  have D_number_of : Df P w K mg base CX0 1 "number_of" ["word"] spNumberOf := ⟨_, _, ok_number_of F_number_of B B_abs T_FURTHEST, (He.glo_ok X G (c.fact 53 (f := .glo "number_of") rfl)), F_number_of.kp, F_number_of.bindsN fun _ _ _ _ _ _ us hl => match us, hl with | [_], _ => rfl⟩
  have D_row_of : Df P w K mg base CX0 2 "row_of" ["line", "letters"] spRowOf := ⟨_, _, ok_row_of F_row_of B D_number_of, (He.glo_ok X G (c.fact 54 (f := .glo "row_of") rfl)), F_row_of.kp, F_row_of.bindsN fun _ _ _ _ _ _ us hl => match us, hl with | [_, _], _ => rfl⟩
  have D_room_of : Df P w K mg base (L2.CX P w) 7 "room_of" ["text"] (spRoomOf (He.ga K "Room") (He.ga K "BadText")) := ⟨_, _, ok_room_of F_room_of B K_Room X_BadText T_MOST_NOTHINGS D_letters_of D_row_of, (He.glo_ok X G (c.fact 55 (f := .glo "room_of") rfl)), F_room_of.kp, F_room_of.bindsN fun _ _ _ _ _ _ us hl => match us, hl with | [_], _ => rfl⟩
  have D_l_word : Df P w K mg base CX0 1 "_law_word" ["_law_e"] (spWordT K (He.ga K "SumError") [(He.ga K "BadLetters"), (He.ga K "BadSum"), (He.ga K "TooMany"), (He.ga K "NoNothing"), (He.ga K "BadSpot"), (He.ga K "NoWay"), (He.ga K "BadText")]) := ⟨_, _, ok_l_word F_l_word B B_ValueError g_SumError g_BadLetters g_BadSum g_TooMany g_NoNothing g_BadSpot g_NoWay g_BadText, (He.glo_ok X G (c.fact 56 (f := .glo "_law_word") rfl)), F_l_word.kp, F_l_word.bindsN fun _ _ _ _ _ _ us hl => match us, hl with | [_], _ => rfl⟩
  have D_l_part : Df P w K mg base CX0 1 "_law_part" ["_law_word_here"] spPart := ⟨_, _, ok_l_part F_l_part B B_abs, (He.glo_ok X G (c.fact 57 (f := .glo "_law_part") rfl)), F_l_part.kp, F_l_part.bindsN fun _ _ _ _ _ _ us hl => match us, hl with | [_], _ => rfl⟩
  have D_l_read : Df P w K mg base CX0 2 "_law_read" ["_law_text"] spRead := ⟨_, _, ok_l_read F_l_read B D_l_part, (He.glo_ok X G (c.fact 58 (f := .glo "_law_read") rfl)), F_l_read.kp, F_l_read.bindsN fun _ _ _ _ _ _ us hl => match us, hl with | [_], _ => rfl⟩
  have D_l_lines : Df P w K mg base CX0 5 "_law_lines" ["_law_cell"] spLines := ⟨_, _, ok_l_lines F_l_lines B D_l_mixed D_l_told, (He.glo_ok X G (c.fact 59 (f := .glo "_law_lines") rfl)), F_l_lines.kp, F_l_lines.bindsN fun _ _ _ _ _ _ us hl => match us, hl with | [_], _ => rfl⟩
  have D_l_bent : Df P w K mg base CX0 2 "_law_bent" ["_law_cell", "_law_lines_here"] spBent := ⟨_, _, ok_l_bent F_l_bent B D_l_mixed, (He.glo_ok X G (c.fact 60 (f := .glo "_law_bent") rfl)), F_l_bent.kp, F_l_bent.bindsN fun _ _ _ _ _ _ us hl => match us, hl with | [_, _], _ => rfl⟩
  have D_l_said : Df P w K mg base CX0 8 "_law_said" ["_law_text"] spSaid := ⟨_, _, ok_l_said F_l_said B C_r K_Room (isB_ok C_r.cl xi) ER X_BadText M_rletters M_rnothings D_room_of D_l_word, (He.glo_ok X G (c.fact 61 (f := .glo "_law_said") rfl)), F_l_said.kp, F_l_said.bindsN fun _ _ _ _ _ _ us hl => match us, hl with | [_], _ => rfl⟩
  exact ok_law F_law B D_l_mixed D_l_lines D_l_bent D_l_read D_l_said
end Sr
namespace Sr
open PySem PySem.Spec PyProof.Rows L2
theorem walk {l : PySem.W.OpenLaw} {q : Program} {loose : List Str} {XP : (Str → Option Value) → Heap → Prop} {YP : World → Heap → Prop} {d : DefRec} {K : Params → PySem.W.Frag} (hT : l.prog.given.tree = none) (hi : importsNone q = true) (hn : l.most = some 63) (hdf : d.params.defaults = [])
    (hY : ∀ (w : World) (h : Heap), YP w h → (K w.params).In h) (hname : d.name = "law")
    (hs : ∀ w : World, He.SaysD fa fn (K w.params)) (hx : ∀ w : World, exB (K w.params) = true)
    (hz : ∀ w : World, He.fnW (K w.params) ("BadText", some "__init__") = (some (("__init__" : Str), "BadText.__init__", defArgs s_BadText_init, FuncBody.stmts (defBody s_BadText_init), defScope s_BadText_init, mainGlobals, [(("__class__" : Str), celA (K w.params) ("BadText", some "__init__"))], builtinsNs) : He.FnW))
    (hb : ∀ w : World, supB (K w.params) (He.ga (K w.params) "BadText") "BadText.__init__" "line" l.prog.main.file ("BadText", some "__init__") = true) (ht : (l.prog.main.scope.names.lookup ("super" : Str)).isSome = false) :
    PySem.W.WalkO q loose XP YP l.row.toRowW d [] (fun f vs => PySem.call f vs) :=
  walk_seer (n := 63) (k := 9) (x := "_law_script") (CX := fun _ => CX0) (sp := fun w => spLaw (K w.params)) hn (by decide) hdf ⟨rfl, by decide, by decide⟩ hi hY
    (fun w mg f h KX G hmg => facts (P := l.prog) (w := w) hT KX G (by rw [hname] at hmg; exact hmg) (hs w) (hx w) (hz w) (hb w) ht)
    (fun _ _ a ns hl _ hS => ⟨a, ns, rfl, hS, Nat.le_trans hl (by decide), fun _ => rfl⟩) fun _ _ _ _ _ z => z
end Sr
open PySem PySem.W PyProof.Rows
theorem PySem.Challenge.cw_sumroom_k14_whole_any_text_holds : PySem.Challenge.rw_sumroom_k14_whole_any_text.Holds := by
  w_on; o_law; k_head; (case hw => w_witness2)
  k_fill
  refine Sr.walk (l := PySem.Challenge.rw_sumroom_k14_whole_any_text) ?ht ?hi ?hn ?hd (fun w h Y => PySem.W.kIn_of Y) ?hq ?hs ?hx ?hz ?hb ?hsu
  case ht => rfl
  case hi => first | rfl | kernel_rfl
  case hn => rfl
  case hd => rfl
  case hq => rfl
  case hs =>
    intro w
    show He.obsD Sr.fa Sr.fn _ = He.valD Sr.fn
    kernel_rfl
  case hx =>
    intro w
    kernel_rfl
  case hz =>
    intro w
    kernel_rfl
  case hb =>
    intro w
    kernel_rfl
  case hsu => first | rfl | kernel_rfl
