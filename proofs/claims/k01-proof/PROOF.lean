import PyProof.Rows.All
import Wide.All
import OpenK.AllK
import Wide.FinOn
import PySem.Challenge.RW_sumroom_k01_rooms_made
import PyProof.EqAt
import PyProof.EqKinds
import PyProof.TupleCall
import HandS.ForMost
import HandS.ForExc
import HandS.Wide
import HandS.IsInst
import HandS.Zip
import HandS.More
import HandS.ExcValue
import HandS.ExcIs
import HandS.ExcSuper
import HandS.Evl
import HandS.Style
import HandS.Defaults
import HandS.DictComp
import KE.KStateDown
import HandS.Head0
import HandS.Head1
import HandS.Head2
import HandS.HeadEnd
import HandS.HeadHook1
import HandS.HeadHook2
set_option Elab.async false
set_option linter.all false
set_option maxRecDepth 100000
set_option maxHeartbeats 0
namespace Sr
open PySem PySem.Spec PyProof.Rows L2
/-! ### a def that is called by its name -/
structure Df (P : Program) (w : World) (K : PySem.W.Frag) (mg : Str → Option Value) (base : Heap) (CX : CXT) (k : Nat) (x : Str) (ps : List Str) (sp : Sp) : Prop where
  ex : ∃ f fd, FnOk P w K mg base CX k f fd ps sp ∧ mg x = some (.ref f) ∧ PySem.W.keepIn K (.ref f) = true ∧ Binds K fd ps []
theorem pe_df {X : Cx} {k : Nat} {x : Str} {ps : List Str} {sp : Sp} {p pos : Pos} {e : Expr} {es : List Expr} {t : TA} (D : Df X.prog X.w X.K X.mg X.base CX0 k x ps sp) (hr : Room k X.A) (ha : PA X (e :: es) t) (hg : Gl X x := by rfl)
    (hdb : (x == ("__debug__" : Str)) = false := by decide) (he : starEach (e :: es) X.env = (false, eval e X.env) :: starEach es X.env := by rfl) (hpl : (backTo pos (starEach es X.env)).any (·.1) = false := by rfl) :
    PE X (.Call (.Name x p) (e :: es) [] pos) (tCall sp [] E0 t) := by
  obtain ⟨f, fd, F, hm, hk, hb⟩ := D.ex
  exact pe_call F hr hg hm hk hb .nil pass0 ha hdb he hpl
abbrev FnP (K : PySem.W.Frag) (x qual : Str) (st : Stmt) (f : Addr) (fd : FuncData) : Prop := FunD K x qual (defArgs st) (defBody st) (defScope st) [] [] f fd
/-- the built-ins that the text names -/
structure Bi (mg : Str → Option Value) : Prop where
  int_ : mg "int" = none
  bool_ : mg "bool" = none
  list_ : mg "list" = none
  str_ : mg "str" = none
  tuple_ : mg "tuple" = none
  type_ : mg "type" = none
  len_ : mg "len" = none
  range_ : mg "range" = none
  enumerate_ : mg "enumerate" = none
  zip_ : mg "zip" = none
  isinstance_ : mg "isinstance" = none
  all_ : mg "all" = none
  any_ : mg "any" = none
  sum_ : mg "sum" = none
theorem hu64 {A : Around} {k : Nat} (hr : Room k A) : A.units + 64 < cLine := by have := hr.un; omega
end Sr
namespace Sr
open PySem PySem.Spec PyProof.Rows L2
open Evl (Ex Ev EvL EvU EvT EvA RetL RetV)
/-! ### readings by what they give: G of the value and the heap behind it; the heap grows -/
def EvX (te : TE) (σ : L2.St) (H : Hp) (G : V → Hp → Prop) : Prop := ∀ H1, Ex H H1 → ∀ Q : VK, (∀ y H2, Ex H1 H2 → G y H2 → Q y H2) → te σ H1 Q
theorem EvX.mono {te : TE} {σ : L2.St} {H H' : Hp} {G : V → Hp → Prop} (e : Ex H H') (h : EvX te σ H G) : EvX te σ H' G := fun H1 a Q q => h H1 (e.trans a) Q q
theorem EvX.weak {te : TE} {σ : L2.St} {H : Hp} {G G' : V → Hp → Prop} (h : EvX te σ H G) (g : ∀ y H2, Ex H H2 → G y H2 → G' y H2) : EvX te σ H G' := fun H1 a Q q => h H1 a Q fun y H2 e2 gy => q y H2 e2 (g y H2 (a.trans e2) gy)
theorem EvX.of_ev {te : TE} {σ : L2.St} {H : Hp} {v : V} (h : Ev te σ H v) : EvX te σ H (fun y _ => y = v) := fun H1 a Q q => h H1 a Q fun H2 e2 => q v H2 e2 rfl
/-- a comprehension's list so far -/
def Cwx (H : Hp) (G : Nat → V → Prop) (Dl : Addr) (i : Nat) (H' : Hp) : Prop := H Dl = none ∧ Ex H H' ∧ ∃ ys, H' Dl = some (.lst ys) ∧ ys.length = i ∧ ∀ k y, ys[k]? = some y → G k y
theorem cwx_turn {te : TE} {H H' : Hp} {G : Nat → V → Prop} {Dl : Addr} {i : Nat} {σ2 : L2.St} (p : Cwx H G Dl i H') (hi : i < 50000) (he : EvX te σ2 H (fun y _ => G i y)) :
    tYes σ2 H' fun b H3 => if b = true then te σ2 H3 fun y H4 => ∃ acc, H4 Dl = some (.lst acc) ∧ acc.length < sizeLine ∧ Cwx H G Dl (i + 1) (upd H4 Dl (.lst (acc ++ [y]))) else Cwx H G Dl (i + 1) H3 := by
  obtain ⟨p1, p2, ys, p3, p4, p5⟩ := p
  show te σ2 H' fun y H4 => _
  refine he H' p2 _ fun y H4 e4 gy => ⟨ys, e4 Dl _ p3, Evl.sz_lt (by omega), p1, Evl.Ex.mut (p2.trans e4) p1, ys ++ [y], upd_same, by simp [p4], fun k z hz => ?_⟩
  by_cases hk : k < ys.length
  · rw [List.getElem?_append_left hk] at hz
    exact p5 k z hz
  · rw [List.getElem?_append_right (by omega)] at hz
    have : k = ys.length := by
      rcases Nat.lt_or_ge (k - ys.length) 1 with h | h
      · omega
      · rw [List.getElem?_eq_none (by simpa using h)] at hz
        cases hz
    subst this
    simp at hz
    rw [p4, ← hz]
    exact gy
theorem lcR {ta : TA} {te : TE} {σ : L2.St} {H : Hp} {j : Nat} {vs : List Nat} {n : Int} {m : Nat} (G : Nat → V → Prop) (h : EvA ta σ H [.int n]) (hm : n = (m : Int)) (hn : m ≤ 40000) (hw : ∀ x, wipe ((wipe σ vs).set j (some x)) vs = wipe σ vs)
    (he : ∀ (i : Nat) H1, Ex H H1 → i < m → EvX te ((wipe σ vs).set j (some (.int (i : Int)))) H1 (fun y _ => G i y)) :
    EvX (tLc (iRng1 ta) (gName j) tYes te vs) σ H (fun v H2 => ∃ p ys, v = .ref p ∧ H p = none ∧ H2 p = some (.lst ys) ∧ ys.length = m ∧ ∀ k y, ys[k]? = some y → G k y) := fun H0 e Q q => h H0 e _ fun H1 e1 => ⟨n, rfl, by omega, by omega, fun Dl hD =>
  lc_range (lo := 0) (n := n.toNat) (Cwx H1 G Dl) ⟨hD, Evl.Ex.new hD, [], upd_same, rfl, fun k y hk => by simp at hk⟩ (fun i H' hi p => by
    have e0 : (0 : Int) + (i : Int) = (i : Int) := Int.zero_add _
    show wipe ((wipe σ vs).set j (some (.int ((0 : Int) + (i : Int))))) vs = wipe σ vs ∧ tYes ((wipe σ vs).set j (some (.int ((0 : Int) + (i : Int))))) H' fun b H3 => if b = true then te ((wipe σ vs).set j (some (.int ((0 : Int) + (i : Int))))) H3 fun y H4 => ∃ acc, H4 Dl = some (.lst acc) ∧ acc.length < sizeLine ∧ Cwx H1 G Dl (i + 1) (upd H4 Dl (.lst (acc ++ [y]))) else Cwx H1 G Dl (i + 1) H3
    rw [e0]
    exact ⟨hw _, cwx_turn p (by omega) (he i H1 (e.trans e1) (by omega))⟩)
    (fun H' ⟨p1, p2, ys, p3, p4, p5⟩ => q (.ref Dl) H' (e1.trans p2) ⟨Dl, ys, rfl, Evl.fresh_back e (Evl.fresh_back e1 p1), p3, by omega, p5⟩)⟩
theorem lcL {a : Addr} {xs : List V} {tl te : TE} {σ : L2.St} {H : Hp} {K : PySem.W.Frag} {j : Nat} {vs : List Nat} (G : Nat → V → Prop) (h : Ev tl σ H (.ref a)) (hx : SqL K H a xs) (hz : xs.length ≤ 40000) (hw : ∀ x, wipe ((wipe σ vs).set j (some x)) vs = wipe σ vs)
    (he : ∀ (i : Nat) (x : V) H1, Ex H H1 → xs[i]? = some x → EvX te ((wipe σ vs).set j (some x)) H1 (fun y _ => G i y)) :
    EvX (tLc (iList K tl) (gName j) tYes te vs) σ H (fun v H2 => ∃ p ys, v = .ref p ∧ H p = none ∧ H2 p = some (.lst ys) ∧ ys.length = xs.length ∧ ∀ k y, ys[k]? = some y → G k y) := fun H0 e Q q => h H0 e _ fun H1 e1 => ⟨a, rfl, ⟨xs, Evl.ex_l (e.trans e1) hx⟩, fun Dl hD =>
  lc_list (xs := xs) (Cwx H1 G Dl) ⟨hD, Evl.Ex.new hD, [], upd_same, rfl, fun k y hk => by simp at hk⟩ (fun i H' _ p => Evl.ex_l ((e.trans e1).trans p.2.1) hx) (fun i x H' hi p => ⟨hw x, cwx_turn p (by have := (List.getElem?_eq_some_iff.mp hi).1; omega) (he i x H1 (e.trans e1) hi)⟩)
    (fun H' ⟨p1, p2, ys, p3, p4, p5⟩ => q (.ref Dl) H' (e1.trans p2) ⟨Dl, ys, rfl, Evl.fresh_back e (Evl.fresh_back e1 p1), p3, p4, p5⟩)⟩
/-- xs[i], xs a tracked list -/
def rIxH : R2 := fun x y H Q => ∃ p xs i v, x = .ref p ∧ y = .int i ∧ H p = some (.lst xs) ∧ atI xs i = some v ∧ Q v H
theorem ix_h {X : Cx} : IxR X rIxH := fun value slice pins s σ H x y v u Q I rx ry h e => by
  obtain ⟨p, xs, i, z, ex, ey, hl, ha, q⟩ := h
  exact ix_list value slice pins s σ H x y v u Q I rx ry ⟨p, xs, i, z, ex, ey, Evl.sq_of hl, ha, q⟩ e
theorem pick2 {α : Type} {a b : α} {i : Int} (h0 : 0 ≤ i) (h : i < 2) {R : α → Prop} (h1 : R a) (h2 : R b) : ∃ v, atI [a, b] i = some v ∧ R v := by
  rcases (by omega : i = 0 ∨ i = 1) with rfl | rfl
  · exact ⟨a, rfl, h1⟩
  · exact ⟨b, rfl, h2⟩
theorem pick_any {α : Type} {xs : List α} {i : Int} (h0 : 0 ≤ i) (h : i < xs.length) {R : α → Prop} (h1 : ∀ x ∈ xs, R x) : ∃ v, atI xs i = some v ∧ R v := by
  obtain ⟨k, rfl⟩ := Int.eq_ofNat_of_zero_le h0
  have hk : k < xs.length := by omega
  refine ⟨xs[k], ?_, h1 _ (List.getElem_mem hk)⟩
  unfold atI ixN
  rw [if_pos h0, if_pos h]
  simp [hk]
theorem ev_up {H : Hp} {p : Addr} {o : HO} (h : H p = none) : Ex H (upd H p o) := Evl.Ex.new h
theorem sizeLine_ge (n : Nat) (h : n ≤ 100000) : n ≤ sizeLine := Evl.sz_of h
end Sr
namespace Sr
open PySem PySem.Spec PyProof.Rows L2
open Evl (Ex Ev EvL EvU EvT EvA RetL RetV)
/-! ### rows of ints -/
def RowsL (H : Hp) : List Addr → List (List Int) → Prop
  | [], [] => True
  | r :: rs, ns :: nss => H r = some (.lst (ns.map V.int)) ∧ RowsL H rs nss
  | _, _ => False
theorem RowsL.ex {H H' : Hp} (e : Ex H H') : ∀ {rs : List Addr} {nss : List (List Int)}, RowsL H rs nss → RowsL H' rs nss
  | [], [], _ => trivial
  | _ :: _, _ :: _, h => ⟨e _ _ h.1, RowsL.ex e h.2⟩
  | [], _ :: _, h => h.elim
  | _ :: _, [], h => h.elim
theorem RowsL.len {H : Hp} : ∀ {rs : List Addr} {nss : List (List Int)}, RowsL H rs nss → rs.length = nss.length
  | [], [], _ => rfl
  | _ :: _, _ :: _, h => congrArg (· + 1) (RowsL.len h.2)
  | [], _ :: _, h => h.elim
  | _ :: _, [], h => h.elim
theorem RowsL.get {H : Hp} : ∀ {rs : List Addr} {nss : List (List Int)} {i : Nat} {r : Addr}, RowsL H rs nss → rs[i]? = some r → ∃ ns, nss[i]? = some ns ∧ H r = some (.lst (ns.map V.int))
  | _ :: _, _ :: _, 0, _, h, e => by
    cases e
    exact ⟨_, rfl, h.1⟩
  | _ :: _, _ :: _, i + 1, _, h, e => RowsL.get (i := i) h.2 e
  | [], _ :: _, _, _, h, _ => h.elim
  | _ :: _, [], _, _, h, _ => h.elim
  | [], [], _, _, _, e => by simp at e
theorem RowsL.app {H : Hp} {rs2 : List Addr} {nss2 : List (List Int)} (h2 : RowsL H rs2 nss2) : ∀ {rs : List Addr} {nss : List (List Int)}, RowsL H rs nss → RowsL H (rs ++ rs2) (nss ++ nss2)
  | [], [], _ => h2
  | _ :: _, _ :: _, h => ⟨h.1, RowsL.app h2 h.2⟩
  | [], _ :: _, h => h.elim
  | _ :: _, [], h => h.elim
def dRow (ns : List Int) : PyData := .list (ns.map PyData.int)
theorem dp_ints {K : PySem.W.Frag} {H : Hp} : ∀ ns : List Int, DpAll K H (ns.map V.int) (ns.map PyData.int)
  | [] => .nil
  | n :: ns => .cons (.int n) (dp_ints ns)
theorem RowsL.dp {K : PySem.W.Frag} {H : Hp} : ∀ {rs : List Addr} {nss : List (List Int)}, RowsL H rs nss → DpAll K H (rs.map V.ref) (nss.map dRow)
  | [], [], _ => .nil
  | _ :: _, ns :: _, h => .cons (.lst (Evl.sq_of h.1) (dp_ints ns)) (RowsL.dp h.2)
  | [], _ :: _, h => h.elim
  | _ :: _, [], h => h.elim
theorem lay_ints : ∀ ns : List Int, PyData.canLayAll0 (ns.map PyData.int) = true
  | [] => by simp [PyData.canLayAll0]
  | n :: ns => by simp [PyData.canLayAll0, PyData.canLay0, lay_ints ns]
theorem lay_rows : ∀ nss : List (List Int), PyData.canLayAll0 (nss.map dRow) = true
  | [] => by simp [PyData.canLayAll0]
  | n :: ns => by simp [PyData.canLayAll0, dRow, PyData.canLay0, lay_ints n]; exact lay_rows ns
theorem dep_ints : ∀ ns : List Int, PyData.depthAll (ns.map PyData.int) = 0
  | [] => by simp [PyData.depthAll]
  | n :: ns => by simp [PyData.depthAll, PyData.depth, dep_ints ns]
theorem dep_rows : ∀ nss : List (List Int), PyData.depthAll (nss.map dRow) ≤ 1
  | [] => by simp [PyData.depthAll]
  | n :: ns => by
    have := dep_rows ns
    simp [PyData.depthAll, dRow, PyData.depth, dep_ints n]
    omega
theorem sh_row (ns : List Int) : SeqAt.shaped (dRow ns) = true := by
  simp [SeqAt.shaped, dRow, PyData.canLay0, lay_ints, PyData.depth, dep_ints]
theorem sh_rows (nss : List (List Int)) : SeqAt.shaped (.list (nss.map dRow)) = true := by
  have := dep_rows nss
  simp [SeqAt.shaped, PyData.canLay0, lay_rows, PyData.depth]
  omega
theorem sh_nil : SeqAt.shaped (.list []) = true := by decide +kernel
theorem dp_nil {K : PySem.W.Frag} {H : Hp} {p : Addr} (h : H p = some (.lst [])) : Dp K H (.ref p) (.list []) := .lst (Evl.sq_of h) .nil
theorem dp_rows {K : PySem.W.Frag} {H : Hp} {a : Addr} {rs : List Addr} {nss : List (List Int)} (h : H a = some (.lst (rs.map V.ref))) (hr : RowsL H rs nss) : Dp K H (.ref a) (.list (nss.map dRow)) := .lst (Evl.sq_of h) hr.dp
theorem dp_row {K : PySem.W.Frag} {H : Hp} {a : Addr} {ns : List Int} (h : H a = some (.lst (ns.map V.int))) : Dp K H (.ref a) (dRow ns) := .lst (Evl.sq_of h) (dp_ints ns)
theorem eqv_nil_r (x : List PyData) : PyData.eqv (.list x) (.list []) = x.isEmpty := by
  cases x with
  | nil => simp [PyData.eqv, PyData.eqvAll]
  | cons a l => simp [PyData.eqv, PyData.eqvAll]
/-! ### [e for i, x in enumerate(xs)] -/
theorem lcE {a : Addr} {xs : List V} {ta : TA} {te : TE} {σ : L2.St} {H : Hp} {K : PySem.W.Frag} {j1 j2 : Nat} {vs : List Nat} (G : Nat → V → Prop) (h : EvA ta σ H [.ref a]) (hx : SqL K H a xs) (hz : xs.length ≤ 40000)
    (hw : ∀ x y, wipe (((wipe σ vs).set j1 (some x)).set j2 (some y)) vs = wipe σ vs)
    (he : ∀ (i : Nat) (x : V) H1, Ex H H1 → xs[i]? = some x → EvX te (((wipe σ vs).set j1 (some (.int (i : Int)))).set j2 (some x)) H1 (fun y _ => G i y)) :
    EvX (tLc (iEnum K ta) (gTup K 2 (gCons (gName j1) (gCons (gName j2) gNil))) tYes te vs) σ H (fun v H2 => ∃ p ys, v = .ref p ∧ H p = none ∧ H2 p = some (.lst ys) ∧ ys.length = xs.length ∧ ∀ k y, ys[k]? = some y → G k y) := fun H0 e Q q => h H0 e _ fun H1 e1 => ⟨a, xs, rfl, Evl.ex_l (e.trans e1) hx, fun Dl hD => by
  refine ⟨fun i m H' => m = xs.length - i ∧ i ≤ xs.length ∧ Cwx H1 G Dl i H', ⟨xs.length, by simp, Nat.zero_le _, hD, Evl.Ex.new hD, [], upd_same, rfl, fun k y hk => by simp at hk⟩, ?_⟩
  rintro i m H' ⟨rfl, hi, p⟩
  have hx' : SqL K H' a xs := Evl.ex_l ((e.trans e1).trans p.2.1) hx
  by_cases hlt : i < xs.length
  · refine Or.inr ⟨⟨xs, xs[i], hx', by simp [hlt]⟩, Cwx H1 G Dl (i + 1), fun H2 p2 => ⟨xs.length - (i + 1), by omega, rfl, by omega, p2⟩, ?_⟩
    rintro x H2 ⟨T, y, rfl, hT, rfl, hy⟩
    have hy' := hy xs hx'
    have eT : Ex H' (upd H' T (.tup [.int (i : Nat), y])) := Evl.Ex.new hT
    refine ⟨T, [.int (i : Nat), y], rfl, Evl.st_of upd_same, rfl, _, _, rfl, _, _, rfl, rfl, hw _ _, ?_⟩
    have p2 : Cwx H1 G Dl i (upd H' T (.tup [.int (i : Nat), y])) := by
      obtain ⟨q1, q2, ys, q3, q4, q5⟩ := p
      exact ⟨q1, q2.trans eT, ys, eT _ _ q3, q4, q5⟩
    exact cwx_turn p2 (by omega) (he i y H1 (e.trans e1) hy')
  · refine Or.inl ⟨⟨xs, hx', by omega⟩, ?_⟩
    obtain ⟨p1, p2, ys, p3, p4, p5⟩ := p
    exact q (.ref Dl) H' (e1.trans p2) ⟨Dl, ys, rfl, Evl.fresh_back e (Evl.fresh_back e1 p1), p3, by omega, p5⟩⟩
theorem ints_of {ys : List V} {P : Int → Prop} (h : ∀ (k : Nat) (y : V), ys[k]? = some y → ∃ z, y = V.int z ∧ P z) : ∃ ns : List Int, ys = ns.map V.int ∧ ∀ x ∈ ns, P x := by
  induction ys with
  | nil => exact ⟨[], rfl, fun x hx => by cases hx⟩
  | cons y ys ih =>
    obtain ⟨z, rfl, hz⟩ := h 0 y rfl
    obtain ⟨ns, rfl, hn⟩ := ih fun k y hk => h (k + 1) y hk
    refine ⟨z :: ns, rfl, fun x hx => ?_⟩
    rcases List.mem_cons.mp hx with rfl | hx
    · exact hz
    · exact hn x hx
def Near (ns : List Int) : Prop := ∀ x ∈ ns, -1000000000000 ≤ x ∧ x ≤ 1000000000000
theorem cxK {CX : CXT} {P : Program} {w : World} {K : PySem.W.Frag} {mg : Str → Option Value} {base : Heap} {N : List Str} {qual : Str} {scope : Scope} {f : Addr} {cd : Value} {A : Around} {outer : List Env} {s : Shared} {H : Hp} {E : XK} : (cxOf CX P w K mg base N qual scope f cd A outer s H E).K = K := rfl
theorem flat_rep {α : Type} (x : α) (n : Nat) : (List.replicate n [x]).flatten = List.replicate n x := by
  induction n with
  | zero => rfl
  | succ n ih => rw [List.replicate_succ, List.replicate_succ, List.flatten_cons, ih]; rfl
end Sr
namespace Sr
open PySem PySem.Spec PyProof.Rows L2
open Evl (Ex Ev EvL EvU EvT EvA RetL RetV)
/-! ### things handed in: of which kind they are -/
inductive Kd (H : Hp) : V → String → Prop
  | non : Kd H .non "NoneType"
  | bl (b : Bool) : Kd H (.bl b) "bool"
  | int (i : Int) : Kd H (.int i) "int"
  | str (x : Str) : Kd H (.str x) "str"
  | lst {a : Addr} {xs : List V} (h : H a = some (.lst xs)) : Kd H (.ref a) "list"
  | tup {a : Addr} {xs : List V} (h : H a = some (.tup xs)) : Kd H (.ref a) "tuple"
  | dK {a : Addr} (h : H a = some (.dK [])) : Kd H (.ref a) "dict"
theorem Kd.ex {H H' : Hp} {v : V} {T : String} (e : Ex H H') (k : Kd H v T) : Kd H' v T := by
  cases k with
  | non => exact .non
  | bl b => exact .bl b
  | int i => exact .int i
  | str x => exact .str x
  | lst h => exact .lst (e _ _ h)
  | tup h => exact .tup (e _ _ h)
  | dK h => exact .dK (e _ _ h)
theorem Kd.tyB {K : PySem.W.Frag} {H : Hp} {v : V} {T : String} (k : Kd H v T) : TyB K H v T := by
  cases k with
  | non => exact .non
  | bl b => exact .bl b
  | int i => exact .int i
  | str x => exact .str x
  | lst h => exact .lst (Evl.sq_of h)
  | tup h => exact .tup (Evl.st_of h)
  | dK h => exact .dK h
theorem Kd.tyX {K : PySem.W.Frag} {H : Hp} {v : V} {T : String} (k : Kd H v T) : TyX K H v (.type T) := by
  cases k with
  | non => exact .base .non
  | bl b => exact .base (.bl b)
  | int i => exact .base (.int i)
  | str x => exact .base (.str x)
  | lst h => exact .base (.lst h)
  | tup h => exact .base (.tup h)
  | dK h => exact .base (.dK h)
def D0 (H : Hp) (v : V) : Prop := ∃ T, Kd H v T
theorem D0.ex {H H' : Hp} {v : V} (e : Ex H H') (k : D0 H v) : D0 H' v := k.elim fun T h => ⟨T, h.ex e⟩
def lstOf (H : Hp) : V → Option (List V)
  | .ref a => match H a with
    | some (.lst xs) => some xs
    | _ => none
  | _ => none
theorem lstOf_of {H : Hp} {a : Addr} {xs : List V} (h : H a = some (.lst xs)) : lstOf H (.ref a) = some xs := by simp [lstOf, h]
theorem lstOf_some {H : Hp} {v : V} {xs : List V} (h : lstOf H v = some xs) : ∃ a, v = .ref a ∧ H a = some (.lst xs) := by
  unfold lstOf at h
  split at h
  · split at h
    · rename_i e
      cases h
      exact ⟨_, rfl, e⟩
    · cases h
  · cases h
theorem Kd.lst_ex {H H' : Hp} {v : V} {T : String} (k : Kd H v T) (e : Ex H H') : lstOf H' v = lstOf H v := by
  cases k with
  | lst h => simp [lstOf, h, e _ _ h]
  | tup h => simp [lstOf, h, e _ _ h]
  | dK h => simp [lstOf, h, e _ _ h]
  | _ => rfl
theorem Kd.isList {H : Hp} {v : V} {T : String} (k : Kd H v T) : decide (T = "list") = (lstOf H v).isSome := by
  cases k with
  | lst h => simp [lstOf, h]
  | tup h => simp [lstOf, h]
  | dK h => simp [lstOf, h]
  | _ => rfl
def isInt : V → Bool
  | .int _ => true
  | _ => false
theorem Kd.isInt_eq {H : Hp} {v : V} {T : String} (k : Kd H v T) : decide (T = "int") = isInt v := by cases k <;> rfl
def nearI : V → Bool
  | .int i => decide (-1000000000000 ≤ i) && decide (i ≤ 1000000000000)
  | _ => false
def intRow (H : Hp) (n : Int) (v : V) : Bool := match lstOf H v with
  | some xs => decide ((xs.length : Int) = n) && xs.all isInt
  | none => false
def nearRow (H : Hp) (n : Int) (v : V) : Bool := match lstOf H v with
  | some xs => (decide ((xs.length : Int) = n) && xs.all isInt) && xs.all nearI
  | none => false
def tblOk (H : Hp) (n : Int) (v : V) : Bool := match lstOf H v with
  | some xs => xs.all (nearRow H n)
  | none => false
def D1 (H : Hp) (v : V) : Prop := D0 H v ∧ ∀ xs, lstOf H v = some xs → xs.length ≤ 1000 ∧ ∀ x ∈ xs, D0 H x
def D2 (H : Hp) (v : V) : Prop := D0 H v ∧ ∀ xs, lstOf H v = some xs → xs.length ≤ 1000 ∧ ∀ x ∈ xs, D1 H x
theorem D0.lst_ex {H H' : Hp} {v : V} (k : D0 H v) (e : Ex H H') : lstOf H' v = lstOf H v := k.elim fun T h => h.lst_ex e
theorem D1.ex {H H' : Hp} {v : V} (e : Ex H H') (k : D1 H v) : D1 H' v := ⟨k.1.ex e, fun xs h => by
  rw [k.1.lst_ex e] at h
  exact ⟨(k.2 xs h).1, fun x hx => ((k.2 xs h).2 x hx).ex e⟩⟩
theorem D2.ex {H H' : Hp} {v : V} (e : Ex H H') (k : D2 H v) : D2 H' v := ⟨k.1.ex e, fun xs h => by
  rw [k.1.lst_ex e] at h
  exact ⟨(k.2 xs h).1, fun x hx => ((k.2 xs h).2 x hx).ex e⟩⟩
theorem nearRow_ex {H H' : Hp} {n : Int} {v : V} (k : D0 H v) (e : Ex H H') : nearRow H' n v = nearRow H n v := by
  unfold nearRow
  rw [k.lst_ex e]
theorem tblOk_ex {H H' : Hp} {n : Int} {v : V} (k : D2 H v) (e : Ex H H') : tblOk H' n v = tblOk H n v := by
  unfold tblOk
  rw [k.1.lst_ex e]
  cases h : lstOf H v with
  | none => rfl
  | some xs =>
    have q := (k.2 xs h).2
    clear h k
    show xs.all _ = xs.all _
    induction xs with
    | nil => rfl
    | cons x xs ih =>
      rw [List.all_cons, List.all_cons, nearRow_ex (q x (by simp)).1 e, ih fun y hy => q y (by simp [hy])]
theorem bools_of {g : V → Bool} : ∀ {xs ys : List V}, ys.length = xs.length → (∀ (k : Nat) (y : V), ys[k]? = some y → ∀ x, xs[k]? = some x → y = .bl (g x)) → ys = (xs.map g).map V.bl
  | [], [], _, _ => rfl
  | x :: xs, y :: ys, hl, h => by
    have e := h 0 y rfl x rfl
    have r := bools_of (g := g) (xs := xs) (ys := ys) (by simpa using hl) fun k y hy x hx => h (k + 1) y hy x hx
    rw [e, r]
    rfl
  | [], _ :: _, hl, _ => by simp at hl
  | _ :: _, [], hl, _ => by simp at hl
/-- all([g(x) for x in xs]) -/
theorem all_lc {a : Addr} {xs : List V} {tl te : TE} {σ : L2.St} {H : Hp} {K : PySem.W.Frag} {j : Nat} {vs : List Nat} (g : V → Bool) (h : Ev tl σ H (.ref a)) (hx : SqL K H a xs) (hz : xs.length ≤ 40000) (hw : ∀ x, wipe ((wipe σ vs).set j (some x)) vs = wipe σ vs)
    (he : ∀ (i : Nat) (x : V) H1, Ex H H1 → xs[i]? = some x → EvX te ((wipe σ vs).set j (some x)) H1 (fun y _ => y = .bl (g x))) {Q : VK} (q : ∀ H2, Ex H H2 → Q (.bl (xs.all g)) H2) :
    tLc (iList K tl) (gName j) tYes te vs σ H (fun x H1 => rAll K [x] H1 Q) := by
  refine lcL (fun i y => ∀ x, xs[i]? = some x → y = .bl (g x)) h hx hz hw (fun i x H1 e hi => (he i x H1 e hi).weak fun y H2 _ hy z hz => ?_) H (Ex.refl H) _ ?_
  · rw [hi] at hz
    cases hz
    exact hy
  · rintro _ H2 e2 ⟨p, ys, rfl, hp, hp2, hl, hys⟩
    have e := bools_of (g := g) hl hys
    subst e
    refine ⟨p, xs.map g, rfl, Evl.sq_of hp2, ?_⟩
    have e3 : (xs.map g).all id = xs.all g := by rw [List.all_map]; rfl
    rw [e3]
    exact q H2 e2
def rIsK : List V → Hp → VK → Prop := fun xs H Q => ∃ (x : V) (T U : String) (b : Bool), xs = [x, .ty U] ∧ Kd H x T ∧ kitB T U = some b ∧ Q (.bl b) H
theorem call_isK {X : Cx} : CallR X (.builtin "isinstance") rIsK := by
  intro pins s σ H vs us Q I r h
  obtain ⟨x, T, U, b, rfl, k, hb, q⟩ := h
  exact call_isi pins s σ H _ us Q I r ⟨x, .ty U, .type T, .type U, b, rfl, .ty U, k.tyX, kit_ty hb, q⟩
def rTyK : List V → Hp → VK → Prop := fun xs H Q => ∃ (x : V) (T : String), xs = [x] ∧ Kd H x T ∧ Q (.ty T) H
theorem call_tyK {X : Cx} : CallR X (.type "type") rTyK := by
  intro pins s σ H vs us Q I r h
  obtain ⟨x, T, rfl, k, q⟩ := h
  exact call_type1 pins s σ H _ us Q I r ⟨x, T, rfl, k.tyB, q⟩
theorem Kd.kInt {H : Hp} {v : V} {T : String} (k : Kd H v T) : ∃ b, kitB T "int" = some b ∧ (b = true → ∃ c, kitB T "bool" = some c ∧ (!c) = isInt v) ∧ (b = false → isInt v = false) := by
  cases k with
  | non => exact ⟨false, by decide +kernel, by simp, fun _ => rfl⟩
  | bl b => exact ⟨true, by decide +kernel, fun _ => ⟨true, by decide +kernel, rfl⟩, by simp⟩
  | int i => exact ⟨true, by decide +kernel, fun _ => ⟨false, by decide +kernel, rfl⟩, by simp⟩
  | str x => exact ⟨false, by decide +kernel, by simp, fun _ => rfl⟩
  | lst h => exact ⟨false, by decide +kernel, by simp, fun _ => rfl⟩
  | tup h => exact ⟨false, by decide +kernel, by simp, fun _ => rfl⟩
  | dK h => exact ⟨false, by decide +kernel, by simp, fun _ => rfl⟩
theorem Kd.kList {H : Hp} {v : V} {T : String} (k : Kd H v T) : kitB T "list" = some (lstOf H v).isSome := by
  cases k with
  | non => show kitB "NoneType" "list" = some false; decide +kernel
  | bl b => show kitB "bool" "list" = some false; decide +kernel
  | int i => show kitB "int" "list" = some false; decide +kernel
  | str x => show kitB "str" "list" = some false; decide +kernel
  | lst h => simp [lstOf, h]; decide +kernel
  | tup h => simp [lstOf, h]; decide +kernel
  | dK h => simp [lstOf, h]; decide +kernel
/-- a module's constant -/
def Ci (mg : Str → Option Value) (x : Str) (i : Int) : Prop := ∃ t, mg x = some (.int i t)
theorem pe_ci {X : Cx} {x : Str} {i : Int} {pos : Pos} (hg : Gl X x) (T : Ci X.mg x i) (hd : (x == ("__debug__" : Str)) = false := by decide) : PE X (.Name x pos) (tC (.int i)) := by
  obtain ⟨t, ht⟩ := T
  exact pe_glob hg ht ⟨t, rfl⟩ hd
end Sr
namespace Sr
open PySem PySem.Spec PyProof.Rows L2
open Evl (Ex Ev EvL EvU EvT EvA RetL RetV)
theorem RowsL.upd {H : Hp} {p : Addr} {o : HO} : ∀ {rs : List Addr} {nss : List (List Int)}, RowsL H rs nss → (∀ r ∈ rs, r ≠ p) → RowsL (upd H p o) rs nss
  | [], [], _, _ => trivial
  | r :: _, _ :: _, h, k => ⟨by rw [upd_ne (k r (by simp))]; exact h.1, RowsL.upd h.2 fun q hq => k q (by simp [hq])⟩
  | [], _ :: _, h, _ => h.elim
  | _ :: _, [], h, _ => h.elim
theorem RowsL.of {H H' : Hp} : ∀ {rs : List Addr} {nss : List (List Int)}, RowsL H rs nss → (∀ r ∈ rs, ∀ o, H r = some o → H' r = some o) → RowsL H' rs nss
  | [], [], _, _ => trivial
  | r :: _, _ :: _, h, k => ⟨k r (by simp) _ h.1, RowsL.of h.2 fun q hq => k q (by simp [hq])⟩
  | [], _ :: _, h, _ => h.elim
  | _ :: _, [], h, _ => h.elim
/-- copies of rows so far -/
def Cwr (H : Hp) (gs : List (List Int)) (Dl : Addr) (i : Nat) (H' : Hp) : Prop := H Dl = none ∧ Ex H H' ∧ ∃ qs, H' Dl = some (.lst (qs.map V.ref)) ∧ RowsL H' qs (gs.take i) ∧ ∀ q ∈ qs, H q = none ∧ q ≠ Dl
/-- [a copy of x for x in xs]: new rows -/
theorem lcRows {a : Addr} {xs : List V} {tl te : TE} {σ : L2.St} {H : Hp} {K : PySem.W.Frag} {j : Nat} {vs : List Nat} (gs : List (List Int)) (h : Ev tl σ H (.ref a)) (hx : SqL K H a xs) (hg : gs.length = xs.length) (hz : xs.length ≤ 40000) (hw : ∀ x, wipe ((wipe σ vs).set j (some x)) vs = wipe σ vs)
    (he : ∀ (i : Nat) (x : V) (ns : List Int) H1, Ex H H1 → xs[i]? = some x → gs[i]? = some ns → EvL te ((wipe σ vs).set j (some x)) H1 (ns.map V.int)) :
    EvX (tLc (iList K tl) (gName j) tYes te vs) σ H (fun v H2 => ∃ p qs, v = .ref p ∧ H p = none ∧ H2 p = some (.lst (qs.map V.ref)) ∧ RowsL H2 qs gs ∧ ∀ q ∈ qs, H q = none ∧ q ≠ p) := fun H0 e Q q => h H0 e _ fun H1 e1 => ⟨a, rfl, ⟨xs, Evl.ex_l (e.trans e1) hx⟩, fun Dl hD => by
  refine lc_list (xs := xs) (Cwr H1 gs Dl) ⟨hD, Evl.Ex.new hD, [], upd_same, trivial, fun q hq => by cases hq⟩ (fun i H' _ p => Evl.ex_l ((e.trans e1).trans p.2.1) hx) (fun i x H' hi p => ⟨hw x, ?_⟩) (fun H' ⟨p1, p2, qs, p3, p4, p5⟩ => ?_)
  · obtain ⟨p1, p2, qs, p3, p4, p5⟩ := p
    have hlt : i < xs.length := (List.getElem?_eq_some_iff.mp hi).1
    have hgi : gs[i]? = some gs[i] := List.getElem?_eq_getElem (by omega)
    show te _ H' fun y H4 => _
    refine he i x gs[i] H' ((e.trans e1).trans p2) hi hgi H' (Ex.refl H') _ fun r H4 hr e4 h4 => ?_
    have rD : r ≠ Dl := fun z => by
      rw [z, p3] at hr
      cases hr
    refine ⟨qs.map V.ref, e4 Dl _ p3, ?_, p1, Evl.Ex.mut (p2.trans e4) p1, qs ++ [r], ?_, ?_, ?_⟩
    · have := p4.len
      rw [List.length_map, this, List.length_take]
      exact Evl.sz_lt (by omega)
    · rw [upd_same, List.map_append]
      rfl
    · rw [List.take_succ, hgi]
      refine RowsL.app ?_ ?_
      · exact ⟨by rw [upd_ne rD]; exact h4, trivial⟩
      · exact (p4.ex e4).upd fun q hq => (p5 q hq).2
    · intro q hq
      rcases List.mem_append.mp hq with hq | hq
      · exact p5 q hq
      · rw [List.mem_singleton.mp hq]
        exact ⟨Evl.fresh_back p2 hr, rD⟩
  · rw [List.take_of_length_le (by omega)] at p4
    exact q (.ref Dl) H' (e1.trans p2) ⟨Dl, qs, rfl, Evl.fresh_back e (Evl.fresh_back e1 p1), p3, p4, fun r hr => ⟨Evl.fresh_back e (Evl.fresh_back e1 (p5 r hr).1), (p5 r hr).2⟩⟩⟩
theorem ints_near {n : Int} : ∀ {xs : List V}, ((xs.all isInt) && xs.all nearI) = true → ∃ ns : List Int, xs = ns.map V.int ∧ Near ns
  | [], _ => ⟨[], rfl, fun x hx => by cases hx⟩
  | x :: xs, h => by
    simp only [List.all_cons, Bool.and_eq_true] at h
    obtain ⟨⟨h1, h2⟩, h3, h4⟩ := h
    obtain ⟨ns, rfl, hn⟩ := ints_near (n := n) (xs := xs) (by rw [h2, h4]; rfl)
    cases x with
    | int z =>
      simp [nearI] at h3
      refine ⟨z :: ns, rfl, fun y hy => ?_⟩
      rcases List.mem_cons.mp hy with rfl | hy
      · exact h3
      · exact hn y hy
    | _ => cases h1
theorem near_row {H : Hp} {n : Int} {v : V} (h : nearRow H n v = true) : ∃ a ns, v = .ref a ∧ H a = some (.lst (ns.map V.int)) ∧ (ns.length : Int) = n ∧ Near ns := by
  unfold nearRow at h
  split at h
  · rename_i xs hl
    obtain ⟨a, rfl, ha⟩ := lstOf_some hl
    simp only [Bool.and_eq_true] at h
    obtain ⟨⟨h1, h2⟩, h3⟩ := h
    obtain ⟨ns, rfl, hn⟩ := ints_near (n := n) (xs := xs) (by rw [h2, h3]; rfl)
    exact ⟨a, ns, rfl, ha, by simpa using h1, hn⟩
  · cases h
theorem tbl_rows_all {H : Hp} {n : Int} : ∀ {xs : List V}, xs.all (nearRow H n) = true → ∃ rs nss, xs = rs.map V.ref ∧ RowsL H rs nss ∧ ∀ ns ∈ nss, (ns.length : Int) = n ∧ Near ns
  | [], _ => ⟨[], [], rfl, trivial, fun x hx => by cases hx⟩
  | x :: xs, h => by
    rw [List.all_cons, Bool.and_eq_true] at h
    obtain ⟨rs, nss, rfl, h1, h2⟩ := tbl_rows_all h.2
    obtain ⟨a, ns, rfl, ha, hl, hn⟩ := near_row h.1
    refine ⟨a :: rs, ns :: nss, rfl, ⟨ha, h1⟩, fun y hy => ?_⟩
    rcases List.mem_cons.mp hy with rfl | hy
    · exact ⟨hl, hn⟩
    · exact h2 y hy
theorem tbl_rows {H : Hp} {n : Int} {v : V} (h : tblOk H n v = true) : ∃ a rs nss, v = .ref a ∧ H a = some (.lst (rs.map V.ref)) ∧ RowsL H rs nss ∧ ∀ ns ∈ nss, (ns.length : Int) = n ∧ Near ns := by
  unfold tblOk at h
  split at h
  · rename_i xs hl
    obtain ⟨a, rfl, ha⟩ := lstOf_some hl
    obtain ⟨rs, nss, rfl, h1, h2⟩ := tbl_rows_all h
    exact ⟨a, rs, nss, rfl, ha, h1, h2⟩
  · cases h
/-- a room at x: its own list, its own rows -/
structure RoomAt (H : Hp) (C x : Addr) (n : Int) (ln : Addr) (rs : List Addr) (nss : List (List Int)) : Prop where
  obj : ∃ dx, H x = some (.ins C dx [("_letters", .int n), ("_nothings", .ref ln), ("_plan", .non)])
  lst : H ln = some (.lst (rs.map V.ref))
  rows : RowsL H rs nss
/-- new since H -/
def NewR (H : Hp) (ln : Addr) (rs : List Addr) : Prop := H ln = none ∧ ∀ r ∈ rs, H r = none
/-! ### own exceptions without an __init__ -/
structure Xc (K : PySem.W.Frag) (mg : Str → Option Value) (x : Str) (C : Addr) : Prop where
  g : mg x = some (.ref C)
  ex : PySem.W.excIn K C [.type "ValueError", .type "Exception", .type "BaseException", .type "object"] "ValueError.__new__" = true
  kp : PySem.W.keepIn K (.ref C) = true
  b : PySem.W.subIn K (.ref C) (.type "BaseException") = some true
  t : PySem.W.typeIn K (.ref C) = some (.type "type")
theorem funD_okX {P : Program} {w : World} {K : PySem.W.Frag} {mg : Str → Option Value} {base : Heap} {x qual : Str} {params : Arguments} {body : List Stmt} {scope : Scope} {dvs : List V} {kws : List (Str × V)} {f : Addr} {fd : FuncData} {N ps : List Str} {k : Nat} {sp : Sp}
    (F : FunD K x qual params body scope dvs kws f fd) (S : FnScope N ps scope) (len : ∀ vs H Q E, sp vs H Q E → vs.length = ps.length)
    (hb : ∀ (cdv : Value) (A : Around) (outer : List Env) (s : Shared) (H : Hp) (vs : List V) (Q : VK) (E : XK), Room k (A.deeper (envOfC qual scope s.heap.objs.size f cdv)) → sp vs H Q E →
      ∃ t, PSs (cxOf (L2.CX P w) P w K mg base N qual scope f cdv A outer s H E) body t ∧ t { nx := fun _ H' => Q .non H', rt := Q } (L2.start N vs) H) : FnOk P w K mg base (L2.CX P w) (k + 1) f fd ps sp :=
  F.ok S len hb
/-- what the class Room must say -/
structure Rc (K : PySem.W.Frag) (C : Addr) : Prop where
  cl : Cls K C
  nL : NoAttr K C "_letters"
  nN : NoAttr K C "_nothings"
  nP : NoAttr K C "_plan"
theorem upd_upd {H : Hp} {p : Addr} {o o' : HO} : upd (upd H p o) p o' = upd H p o' := by
  funext b
  by_cases h : b = p
  · rw [h, upd_same, upd_same]
  · rw [upd_ne h, upd_ne h, upd_ne h]
theorem putF_len (f : Str) (v : V) : ∀ fs : List (Str × V), (putF f v fs).length ≤ fs.length + 1
  | [] => by simp [putF]
  | (g, x) :: r => by
    have := putF_len f v r
    unfold putF
    split
    · simp
    · simp
      omega
theorem room_fs (n p q : V) : putF "_plan" q (putF "_nothings" p (putF "_letters" n [])) = [(("_letters" : Str), n), (("_nothings" : Str), p), (("_plan" : Str), q)] := by
  have h1 : ("_letters" : Str) ≠ "_nothings" := by decide +kernel
  have h2 : ("_letters" : Str) ≠ "_plan" := by decide +kernel
  have h3 : ("_nothings" : Str) ≠ "_plan" := by decide +kernel
  simp [putF, h1, h2, h3]
theorem ints_inj : ∀ {a b : List Int}, a.map V.int = b.map V.int → a = b
  | [], [], _ => rfl
  | x :: a, y :: b, h => by
    simp only [List.map_cons, List.cons.injEq] at h
    obtain ⟨h1, h2⟩ := h
    cases h1
    rw [ints_inj h2]
  | [], _ :: _, h => by simp at h
  | _ :: _, [], h => by simp at h
theorem refs_inj : ∀ {a b : List Addr}, a.map V.ref = b.map V.ref → a = b
  | [], [], _ => rfl
  | x :: a, y :: b, h => by
    simp only [List.map_cons, List.cons.injEq] at h
    obtain ⟨h1, h2⟩ := h
    cases h1
    rw [refs_inj h2]
  | [], _ :: _, h => by simp at h
  | _ :: _, [], h => by simp at h
theorem RowsL.fn {H : Hp} : ∀ {rs : List Addr} {n1 n2 : List (List Int)}, RowsL H rs n1 → RowsL H rs n2 → n1 = n2
  | [], [], [], _, _ => rfl
  | _ :: _, a :: _, b :: _, h1, h2 => by
    have z := h1.1.symm.trans h2.1
    have e : a = b := ints_inj (by injection z with z; injection z)
    rw [e, RowsL.fn h1.2 h2.2]
  | [], _ :: _, _, h, _ => h.elim
  | [], [], _ :: _, _, h => h.elim
  | _ :: _, [], _, h, _ => h.elim
  | _ :: _, _ :: _, [], _, h => h.elim
theorem room_plan (n p q q' : V) : putF "_plan" q' [(("_letters" : Str), n), (("_nothings" : Str), p), (("_plan" : Str), q)] = [(("_letters" : Str), n), (("_nothings" : Str), p), (("_plan" : Str), q')] := by
  have h2 : ("_letters" : Str) ≠ "_plan" := by decide +kernel
  have h3 : ("_nothings" : Str) ≠ "_plan" := by decide +kernel
  simp [putF, h2, h3]
/-- a list of lists is no row of its own -/
theorem RowsL.off {H : Hp} {ln : Addr} {rs : List Addr} {nss : List (List Int)} (h : RowsL H rs nss) (hl : H ln = some (.lst (rs.map V.ref))) : ∀ r ∈ rs, r ≠ ln := fun r hr z => by
  obtain ⟨k, hk⟩ := List.mem_iff_getElem?.mp hr
  obtain ⟨ns, _, h2⟩ := h.get hk
  rw [z, hl] at h2
  injection h2 with h2
  injection h2 with h2
  cases rs with
  | nil => cases hr
  | cons a rs =>
    cases ns with
    | nil => simp at h2
    | cons n ns => simp at h2
theorem RowsL.offI {H : Hp} {x C dx : Addr} {fs : List (Str × V)} {rs : List Addr} {nss : List (List Int)} (h : RowsL H rs nss) (hl : H x = some (.ins C dx fs)) : ∀ r ∈ rs, r ≠ x := fun r hr z => by
  obtain ⟨k, hk⟩ := List.mem_iff_getElem?.mp hr
  obtain ⟨ns, _, h2⟩ := h.get hk
  rw [z, hl] at h2
  cases h2
end Sr
namespace Sr
open PySem PySem.Spec PyProof.Rows L2
open Evl (Ex)
/-- a caught exception that is kept -/
def ExK (cls : Value) (d : Option Addr) (a : Addr) : HO :=
  .ext fun h => ∃ oe vs, h.get? a = some oe ∧ Zc cls d oe ∧ oe.data = .fields vs
theorem exK_ok {P : Program} {w : World} {H : Hp} {h : Heap} {a : Addr} {cls : Value} {d : Option Addr} {oe : Obj} {vs : Array Value}
    (e : h.get? a = some oe) (z : Zc cls d oe) (hd : oe.data = .fields vs) : ObjOk P w H h a (ExK cls d a) :=
  ⟨⟨oe, vs, e, z, hd⟩, ⟨oe, e⟩, fun _ _ ⟨o, v, q, r⟩ k => ⟨o, v, k o q, r⟩⟩
section
variable {X : Cx} {pins : List (Addr × Obj)} {σ : L2.St} {H : Hp} {s : Shared}
/-- an object that came about within the def is tracked from now on -/
theorem inv_track {a : Addr} {o : HO} (I : Inv X pins σ H s)
    (h0 : X.s_0.heap.get? a = none) (hn : H a = none) (hL : a ≠ X.env.locals)
    (hC : ∀ x c, X.env.cells.lookup x = some c → c ≠ a)
    (hP : ∀ p ∈ X.pn ++ pins, p.1 ≠ a)
    (new : ObjOk X.prog X.w (upd H a o) s.heap a o) : Inv X pins σ (upd H a o) s where
  ok := I.ok
  os := I.os
  bare := I.bare
  base := {
    keep := I.base.keep
    slot := I.base.slot
    free := fun b ob e n x => by
      have hb : b ≠ a := fun z => by rw [z, h0] at e; cases e
      rw [upd_ne hb]
      exact I.base.free b ob e n x
    there := I.base.there
    tups := fun b xs e => by
      have q := I.base.tups b xs e
      rw [upd_ne (ne_of_none q hn)]
      exact q
    frzs := fun b u v e => by
      have q := I.base.frzs b u v e
      rw [upd_ne (ne_of_none q hn)]
      exact q
    tbls := fun b ps e => by
      obtain ⟨m, q⟩ := I.base.tbls b ps e
      exact ⟨m, by rw [upd_ne (ne_of_none q hn)]; exact q⟩ }
  loc := I.loc
  cell := I.cell
  free := by rw [upd_ne (Ne.symm hL)]; exact I.free
  freeC := fun x c e => by rw [upd_ne (hC x c e)]; exact I.freeC x c e
  pin := fun p hp => by
    obtain ⟨q1, q2, q3⟩ := I.pin p hp
    exact ⟨q1, by rw [upd_ne (hP p hp)]; exact q2, q3⟩
  hok := I.hok.laidN (fun _ _ e => e) hn new
  len := I.len
/-! ### C(..) in a try: what it raises is wished for at the slots -/
theorem make_at {CX : CXT} {k : Nat} {f C : Addr} {fd : FuncData} {ps : List Str} {ds : List Value} {dvs : List V} {sp : Sp} {E : L2.St → XK} {Q : VK} {us : List Value} {vs : List V}
    (M : Mk X.K C f) (F : FnOk X.prog X.w X.K X.mg X.base CX k f fd ps sp) (hr : Room (k + 1) X.A)
    (hb : Binds X.K fd ps ds) (hd : Vals dvs ds) (hx : PassesAt CX X σ (E σ)) (I : Inv X pins σ H s) (r : Vals vs us)
    (h : ∀ x dx, H x = none → H dx = none → dx ≠ x →
      sp (.ref x :: (vs ++ dvs)) (upd (upd H dx (.own x)) x (.ins C dx [])) (fun v H2 => v = .non ∧ Q (.ref x) H2) (E σ)) :
    wpAny (model X.prog X.w) X.A (call (.ref C) us) (EP X pins σ Q) X.xe s := by
  let n := s.heap.objs.size
  have g0 := I.hok.fresh (a := n) (Nat.le_refl _)
  have g1 := I.hok.fresh (a := n + 1) (Nat.le_succ _)
  have want := h (n + 1) n g1 g0 (Nat.ne_of_lt (Nat.lt_succ_self _))
  have J := Inv.made (C := C) I
  have vals : Vals (V.ref (n + 1) :: (vs ++ dvs)) (Value.ref (n + 1) :: (us ++ ds)) := .cons rfl (r.append hd)
  have many : (Value.ref (n + 1) :: us ++ ds).length = ps.length :=
    vals.length.symm.trans (F.len _ _ _ _ want)
  have bound := hb _ (Value.ref (n + 1) :: us) J.kIn many
  have ran := F.run _ X.stack _ _ ⟨Value.ref (n + 1) :: us, []⟩ _ _ _ (E σ) (hr.make C us []) (J.env0.make C us []) bound vals want
  refine wpAny_call (make_map (f := f) I.kIn M.makes M.init (beq_iff_eq.mp M.fn) (codeAny_mono ran ?_))
  intro res s' got
  match res, got with
  | .error e, got => exact hx pins _ _ e s' J got
  | .ok (.ret u), got =>
    obtain ⟨v, H', J', rv, ev, q⟩ := J.after got
    subst ev
    exact ⟨rv, V.ref (n + 1), H', J', rfl, q⟩
end
def tMakeS (C : Addr) (sp : Sp) (dvs : List V) (E : L2.St → XK) (t : TA) : TE := fun σ H Q =>
  t σ H fun vs H1 => ∀ x dx, H1 x = none → H1 dx = none → dx ≠ x →
    sp (.ref x :: (vs ++ dvs)) (upd (upd H1 dx (.own x)) x (.ins C dx [])) (fun v H2 => v = .non ∧ Q (.ref x) H2) (E σ)
theorem pe_makeS {X : Cx} {CX : CXT} {k : Nat} {f C : Addr} {fd : FuncData} {ps : List Str} {ds : List Value} {dvs : List V} {sp : Sp} {E : L2.St → XK} {x : Str} {p pos : Pos} {e : Expr} {es : List Expr} {t : TA}
    (M : Mk X.K C f) (F : FnOk X.prog X.w X.K X.mg X.base CX k f fd ps sp) (hr : Room (k + 1) X.A) (hg : Gl X x) (hm : X.mg x = some (.ref C))
    (hb : Binds X.K fd ps ds) (hd : Vals dvs ds) (hx : ∀ σ, PassesAt CX X σ (E σ)) (ha : PA X (e :: es) t)
    (hdb : (x == ("__debug__" : Str)) = false := by decide)
    (he : starEach (e :: es) X.env = (false, eval e X.env) :: starEach es X.env := by rfl)
    (hpl : (backTo pos (starEach es X.env)).any (·.1) = false := by rfl) :
    PE X (.Call (.Name x p) (e :: es) [] pos) (tMakeS C sp dvs E t) where
  run := fun pins s σ H Q I h => by
    refine wpAny_Call_Name_kw (ld_glob I hg hm ?_ hdb)
    refine PySem.W.callWith_K I.kIn M.kp ?_ he hpl
    refine thn (ha.run pos pins s σ H _ I h) fun us s1 got => ?_
    obtain ⟨vs, H1, J, r, q⟩ := got
    exact ⟨J.kIn, make_at M F hr hb hd (hx σ) J r q⟩
/-! ### try .. except C as n, whose suite keeps the exception: it is tracked behind the suite -/
def wKeep (K : PySem.W.Frag) (c : Value) (i : Nat) (ts : Addr → Value → Option Addr → TS) (D : Ends) : WX := fun cls d σ H =>
  PySem.W.exmOne K cls c = some true ∧ (∀ a, H a = none →
      ts a cls d {
        nx := fun σ2 H2 => D.nx (σ2.set i none) (upd H2 a (ExK cls d a))
        rt := fun _ _ => False } (σ.set i (some (.ref a))) H)
section
variable {X : Cx} {x n : Str} {c : Value} {i : Nat} {body suite : List Stmt} {b₀ : Stmt} {np pos pos' : Pos}
  {tb : WX → TS} {ts : Addr → Value → Option Addr → TS}
theorem ps_try_keep (hs : X.stack = X.env :: X.outer) (hf : X.env.frame = some X.env.locals) (hN : X.N.Nodup)
    (hi : X.N[i]? = some n) (hln : X.env.kindOf n = some .local) (hc : Names X x c) (hx0 : X.ex = [])
    (hb : ∀ (W : WX) (pn : List (Addr × Obj)) (xe : Value → Shared → Prop), Takes (X.tr pn xe) W →
      PassesOwn (model X.prog X.w) X.A X.env xe → PSs (X.tr pn xe) body (tb W))
    (hsu : ∀ (a : Addr) (oe : Obj) (cls : Value) (d : Option Addr) (pn : List (Addr × Obj)), Zc cls d oe →
      (∃ vs, oe.data = .fields vs) → PSs (X.suite a ((a, oe) :: pn)) (b₀ :: suite) (ts a cls d)) :
    PS X (.Try body [.ExceptHandler (some (.Name x np)) (some n) (b₀ :: suite) pos'] [] [] pos)
      (fun D σ H => tb (wKeep X.K c i ts D) D σ H) where
  run := fun pins s σ H D I h => by
    have ok := I.ok
    have top : X.A.frames = some (X.env :: X.outer) := ok.frames.trans (congrArg some hs)
    refine wpAny_Try_except ?_
    let H0 : List ExceptHandler := [.ExceptHandler (some (.Name x np)) (some n) (b₀ :: suite) pos']
    let M := model X.prog X.w
    let xe2 : Value → Shared → Prop := fun e s1 => wpAny M X.A (noteFrame e X.env) (fun _ s2 =>
      wpAny M X.A (setFlight e none) (fun _ s3 =>
        wpAny M X.A (handleBy e X.env H0) (SP X pins D) X.xe s3) X.xe s2) X.xe s1
    have tk2 : Takes (X.tr (X.pn ++ pins) xe2) (wKeep X.K c i ts D) := by
      intro u s' got
      obtain ⟨a, B, sI, pins', σ', H', cls, d, rfl, J', nb, up, sky, na, os, ag, hb1, hyes⟩ := got
      have J : Inv X pins σ' H' sI := J'.ofTry ok
      have sky2 : Sky B (X.env :: X.outer) a (Zc cls d) X.env.locals s'.heap := hs ▸ sky
      show wpAny M X.A (noteFrame (.ref a) X.env) _ _ _
      refine Sky.land Zc.steady top hf sky2 fun h3 fl3 up3 => ?_
      have J3 : Inv X pins σ' H' { s' with heap := h3 } := J.landed nb fl3.1 (up.trans up3) os ag
      obtain ⟨oe3, vs3, he3, hz3, hd3⟩ := fl3.there
      -- the exception's object is no frame
      have off : a ∉ frs (X.env :: X.outer) := fun hm => by
        obtain ⟨_, o', e', hnf⟩ := fl3.2.2.1.mem hm
        rw [he3] at e'
        cases e'
        exact hnf _ hd3
      have offL : a ≠ X.env.locals := fun z => off (List.mem_filterMap.mpr ⟨X.env, List.mem_cons_self, by rw [hf, z]⟩)
      have offF : a ∉ X.fs := fun hm => by
        obtain ⟨e, he, q⟩ := List.mem_filterMap.mp hm
        exact off (List.mem_filterMap.mpr ⟨e, List.mem_cons_of_mem _ he, q⟩)
      -- nor was it there ahead of the body's end
      have gone : ∀ o, sI.heap.get? a ≠ some o := fun o e => by
        have q := nb a o e (by rw [hs]; exact off)
        rw [fl3.2.1] at q
        cases q
      have z0 : X.s_0.heap.get? a = none := by
        cases e : X.s_0.heap.get? a with
        | none => rfl
        | some o =>
          obtain ⟨o', e'⟩ := J.base.there a o e (by rw [hx0]; simp)
          exact absurd e' (gone o')
      have zP : ∀ p ∈ X.pn ++ pins, p.1 ≠ a := fun p hp z => by
        have q := (J.pin p hp).1
        rw [z] at q
        exact gone _ q
      have S3 := J3.suite he3 hd3 na offL offF
      refine wpAny_handleBy_cons (codeAny_handlers_test ?_) (by intro q; cases q)
      have type3 : PySem.W.Looks M h3 (typeOf (.ref a)) cls := fun A Q E s k q => by
        refine wpAny_typeOf_ref (k _ _ he3) ?_
        rw [hz3.1]
        exact q
      have match3 := PySem.W.exm_one (M := M) J3.kIn type3 hb1
      have named : ∀ {Q E : Value → Shared → Prop}, Q c { s' with heap := h3 } →
          wpAny M (X.A.mark (some (.ref a))) (eval (.Name x np) X.env) Q E { s' with heap := h3 } := fun {Q E} q => by
        obtain ⟨hg, hdb, hm | ⟨hm, hv, hnn⟩⟩ := hc
        · exact ld_glob (X := X.suite a ((a, oe3) :: (X.pn ++ pins))) S3 hg hm q hdb
        · exact ld_blt (X := X.suite a ((a, oe3) :: (X.pn ++ pins))) S3 hg hm hv q hnn hdb
      refine named (match3.here ?_)
      refine codeAny_handlers_suite_as (HandSPX.lands_againZ fl3 fun h4 fl4 up4 => ?_)
      have J4 : Inv X pins σ' H' { s' with heap := h4 } := J.landed nb fl4.1 ((up.trans up3).trans up4) os ag
      obtain ⟨oe4, vs4, he4, hz4, hd4⟩ := fl4.there
      have S4 := J4.suite he4 hd4 na offL offF
      refine store_ok (X := X.suite a ((a, oe4) :: (X.pn ++ pins))) (v := .ref a) S4 hN hi (.inl hln) rfl (fun s5 S5 => ?_) (.inr hln)
      refine wpAny_mono ((hsu a oe4 cls d (X.pn ++ pins) hz4 ⟨_, hd4⟩).run [] s5 _ H' _ S5 (hyes a na)) (fun f s6 hsp => ?_) (fun _ _ z => z.elim)
      match f, hsp with
      | .next, hsp =>
        obtain ⟨σ6, H6, S6, q6⟩ := hsp
        have p6 := S6.pin (a, oe4) (List.mem_append_left _ List.mem_cons_self)
        have J6 : Inv X pins σ6 H6 s6 := S6.unsuite ok
        have nC : ∀ y k, X.env.cells.lookup y = some k → k ≠ a := fun y k e z => by
          obtain ⟨v, o, e1, e2⟩ := J6.cell y k e
          rw [z, p6.1] at e1
          cases e1
          rw [hd4] at e2
          cases e2
        have T6 := inv_track J6 z0 p6.2.1 offL nC zP (exK_ok p6.1 hz4 hd4)
        exact gone_ok T6 hN hi hln fun s7 J7 => ⟨_, _, J7, q6⟩
      | .brk, hsp => exact hsp.elim fun _ z => z.elim fun _ z => z.2.elim
      | .cont, hsp => exact hsp.elim fun _ z => z.elim fun _ z => z.2.elim
      | .ret u, hsp => exact hsp.elim fun _ z => z.elim fun _ z => z.elim fun _ z => z.2.2.elim
    refine wpAny_mono ((hb (wKeep X.K c i ts D) (X.pn ++ pins) xe2 tk2 PassesOwn.looking).run [] s σ H D (I.toTry _) h) (fun f s1 hsp => ?_) (fun e s1 he => he)
    match f, hsp with
    | .next, hsp =>
      obtain ⟨σ', H', J', q⟩ := hsp
      exact wpAny_execs_nil ⟨σ', H', J'.ofTry ok, q⟩
    | .brk, hsp =>
      obtain ⟨σ', H', J', q⟩ := hsp
      exact ⟨σ', H', J'.ofTry ok, q⟩
    | .cont, hsp =>
      obtain ⟨σ', H', J', q⟩ := hsp
      exact ⟨σ', H', J'.ofTry ok, q⟩
    | .ret u, hsp =>
      obtain ⟨v, σ', H', J', r, q⟩ := hsp
      exact ⟨v, σ', H', J'.ofTry ok, r, q⟩
end
end Sr
namespace Sr
open PySem PySem.Spec PyProof.Rows L2
open Evl (Ex)
theorem count_flat {y : V} : ∀ {ys : List V} {its : List Value}, Vals ys its → ys.all flatV = true →
    its.countP (eqU y) = ys.countP (fun z => eqV z y)
  | _, _, .nil, _ => rfl
  | z :: ys, u :: its, .cons r rr, h => by
    rw [List.all_cons, Bool.and_eq_true] at h
    rw [List.countP_cons, List.countP_cons, count_flat rr h.2, eqU_of r h.1]
def rCntF (K : PySem.W.Frag) : V → List V → Hp → VK → Prop := fun x xs H Q =>
  ∃ p y ys, x = .ref p ∧ xs = [y] ∧ SqL K H p ys ∧ flatV y = true ∧ ys.all flatV = true ∧ Q (.int (ys.countP (fun z => eqV z y) : Nat)) H
theorem mt_count {X : Cx} : MtR X "list.count" (rCntF X.K) := by
  intro pins s σ H x xs v us Q I rx rxs h
  obtain ⟨p, y, ys, rfl, rfl, hs, fy, fys, q⟩ := h
  cases rx
  obtain ⟨uy, rfl, ry⟩ := rxs.one
  obtain ⟨its, rv, ⟨⟨cls, dd, data, sl⟩, n, ho, hc, hdn, hd⟩, hlen⟩ := I.list hs
  simp only at hc hd
  subst hc hd
  refine call_meets PySem.F.slot_list_count ⟨_, ho, rfl⟩ PySem.F.entry_list_count (PySem.F.args_list_count_2 _ _)
    (SeqAt.list_countAt p its.toArray n dd sl uy (eqU y)) ⟨ho, fun z hz => mem_eqAt ry fy rv fys z (by simpa using hz), ?_⟩
  have e : its.toArray.toList.countP (eqU y) = ys.countP (fun z => eqV z y) := count_flat rv fys
  refine ⟨.int (ys.countP (fun z => eqV z y) : Nat), H, I.tok _, ⟨s.toks, ?_⟩, q⟩
  show Value.int ((its.toArray.toList.countP (eqU y) : Nat) : Int) s.toks = _
  rw [e]
def rIsX (K : PySem.W.Frag) : List V → Hp → VK → Prop := fun xs H Q =>
  ∃ a D c cv b, xs = [.ref a, c] ∧ H a = some (ExK (.ref D) none a) ∧ ExcC K D ∧ ClsV c cv ∧ PySem.W.kitOne K (.ref D) cv = some b ∧ Q (.bl b) H
theorem call_isX {X : Cx} : CallR X (.builtin "isinstance") (rIsX X.K) := by
  intro pins s σ H xs us Q I r h
  obtain ⟨a, D, c, cv, b, rfl, ha, C, hc, hk, q⟩ := h
  match us, r with
  | [ua, uc], .cons ra (.cons rc .nil) =>
    cases ra
    have e := hc.eq rc
    subst e
    obtain ⟨⟨oe, vs, hg, hz, hd⟩, _⟩ := I.hok a _ ha
    have at_ : PySem.W.InstAt s.heap a oe D none := by
      obtain ⟨oc, od, oda, osl⟩ := oe
      obtain ⟨h1, h2⟩ := hz
      dsimp only at h1 h2 hd
      subst h1 h2 hd
      exact ⟨hg, rfl, rfl, trivial⟩
    have kx := PySem.W.handS_kitx_exc (x := a) (ox := oe) C.hg C.hk C.hs C.hd C.ha C.hn C.ht C.hm
    refine PySem.W.kia_one kx I.kIn at_ hk (fun z => nomatch z) fun tk => ?_
    exact ⟨.bl b, H, I.kept (t' := tk) fun _ _ z => z, rfl, q⟩
theorem pe_gref {X : Cx} {x : Str} {C : Addr} {pos : Pos} (hg : Gl X x) (h : X.mg x = some (.ref C)) (hd : (x == ("__debug__" : Str)) = false := by decide) : PE X (.Name x pos) (tC (.ref C)) := pe_glob hg h rfl hd
theorem boot_ValueError : bootBuiltins "ValueError" = some (.type "ValueError") := by decide +kernel
/-- how isinstance answers of the class D: it is the k-th of the seven, a SumError, a ValueError -/
structure Wd (K : PySem.W.Frag) (S : Addr) (cs : List Addr) (D : Addr) (k : Nat) : Prop where
  ex : ExcC K D
  one : ∀ (j : Nat) (C : Addr), cs[j]? = some C → PySem.W.kitOne K (.ref D) (.ref C) = some (decide (j = k))
  sum : PySem.W.kitOne K (.ref D) (.ref S) = some true
  val : PySem.W.kitOne K (.ref D) (.type "ValueError") = some true
theorem rows_back {H H' : Hp} (e : Ex H H') : ∀ {rs : List Addr} {nss : List (List Int)}, RowsL H' rs nss → (∀ r ∈ rs, D0 H (.ref r)) → RowsL H rs nss
  | [], [], _, _ => trivial
  | r :: _, _ :: _, h, k => by
    refine ⟨?_, rows_back e h.2 fun q hq => k q (by simp [hq])⟩
    have z := (k r (by simp)).lst_ex e
    rw [lstOf_of h.1] at z
    obtain ⟨b, hb, hb2⟩ := lstOf_some z.symm
    cases hb
    exact hb2
  | [], _ :: _, h, _ => h.elim
  | _ :: _, [], h, _ => h.elim
theorem nearRow_of {H : Hp} {n : Int} {r : Addr} {ns : List Int} (h : H r = some (.lst (ns.map V.int))) (hl : (ns.length : Int) = n) (hn : Near ns) : nearRow H n (.ref r) = true := by
  simp [nearRow, lstOf_of h, hl]
  refine ⟨fun _ _ => rfl, fun z hz => ?_⟩
  have := hn z hz
  simp [nearI, this]
theorem tblOk_rows {H : Hp} {n : Int} : ∀ {rs : List Addr} {nss : List (List Int)}, RowsL H rs nss → (∀ ns ∈ nss, (ns.length : Int) = n ∧ Near ns) → (rs.map V.ref).all (nearRow H n) = true
  | [], [], _, _ => rfl
  | r :: _, ns :: _, h, k => by
    rw [List.map_cons, List.all_cons, nearRow_of h.1 (k ns (by simp)).1 (k ns (by simp)).2, tblOk_rows h.2 fun y hy => k y (by simp [hy])]
    rfl
  | [], _ :: _, h, _ => h.elim
  | _ :: _, [], h, _ => h.elim
theorem tblOk_of {H : Hp} {n : Int} {a : Addr} {rs : List Addr} {nss : List (List Int)} (h : H a = some (.lst (rs.map V.ref))) (hr : RowsL H rs nss) (k : ∀ ns ∈ nss, (ns.length : Int) = n ∧ Near ns) : tblOk H n (.ref a) = true := by
  simp only [tblOk, lstOf_of h]
  exact tblOk_rows hr k
end Sr
namespace Sr
open PySem PySem.Spec PyProof.Rows L2
open Evl (Ex)
/-- a thing that is the same as itself for == -/
def Plain1 (x : V) : Prop := flatB x = true ∨ ∃ c, x = .ref c
theorem plain_run {A : Around} {s : Shared} {x : V} {u v : Value} (p : Plain1 x) (r : RelV x u) (r' : RelV x v) : SeqAt.EqAt A s u v true := by
  rcases p with h | ⟨c, rfl⟩
  · exact eqAt_same r r' h
  · cases r
    cases r'
    exact SeqAt.EqAt.same _
theorem plains_run {A : Around} {s : Shared} : ∀ {xs : List V} {us vs : List Value}, (∀ x ∈ xs, Plain1 x) → Vals xs us → Vals xs vs → ∀ j (h1 : j < us.length) (h2 : j < vs.length), SeqAt.EqAt A s us[j] vs[j] true
  | _, _, _, _, .nil, .nil => fun j h1 => absurd h1 (Nat.not_lt_zero j)
  | x :: xs, u :: us, v :: vs, p, .cons r rr, .cons r' rr' => fun j h1 h2 => by
    cases j with
    | zero => exact plain_run (p x (by simp)) r r'
    | succ j => exact plains_run (fun y hy => p y (by simp [hy])) rr rr' j (Nat.lt_of_succ_lt_succ h1) (Nat.lt_of_succ_lt_succ h2)
/-- != of two lists of the same things -/
def rNeL : R2 := fun x y H Q => ∃ a b xs, x = .ref a ∧ y = .ref b ∧ H a = some (.lst xs) ∧ H b = some (.lst xs) ∧ (∀ z ∈ xs, Plain1 z) ∧ Q (.bl false) H
theorem op_neL {X : Cx} (hu : X.A.units < cLine) : OpR X (compareOp .NotEq) rNeL := by
  intro pins s σ H x y v u Q I rx ry h
  obtain ⟨a, b, xs, rfl, rfl, ha, hb, hp, q⟩ := h
  cases rx
  cases ry
  obtain ⟨us, r1, p1, _⟩ := I.list (Evl.sq_of (K := X.K) ha)
  obtain ⟨ws, r2, p2, _⟩ := I.list (Evl.sq_of (K := X.K) hb)
  have hl : us.toArray.size = ws.toArray.size := by
    rw [List.size_toArray, List.size_toArray, ← r1.length, ← r2.length]
  refine SeqAt.RcNeAt.lists (e := fun _ => true) p1.isList p2.isList hl hu (fun j h1 h2 => ?_) _ _ _ _ ?_
  · have k := plains_run (A := X.A.in1) (s := s) hp r1 r2 j (by simpa using h1) (by simpa using h2)
    simpa using k
  · have e : ((List.range us.toArray.size).all fun _ => true) = true := List.all_eq_true.mpr fun _ _ => rfl
    rw [e]
    exact ⟨.bl false, H, I, rfl, q⟩
/-- != of a tuple and itself -/
def rNeTp : R2 := fun x y H Q => ∃ a xs, x = .ref a ∧ y = .ref a ∧ H a = some (.tup xs) ∧ Q (.bl false) H
theorem op_neTp {X : Cx} (hu : X.A.units < cLine) : OpR X (compareOp .NotEq) rNeTp := by
  intro pins s σ H x y v u Q I rx ry h
  obtain ⟨a, xs, rfl, rfl, ha, q⟩ := h
  cases rx
  cases ry
  obtain ⟨us, r1, p1, _⟩ := I.tuple (Evl.st_of (K := X.K) ha)
  refine SeqAt.RcNeAt.tuples (e := fun _ => true) p1 p1 hu (fun j h1 h2 => ?_) _ _ _ _ ?_
  · exact SeqAt.EqAt.same _
  · have e : ((List.range (min us.toArray.size us.toArray.size)).all fun _ => true) = true := List.all_eq_true.mpr fun _ _ => rfl
    rw [e]
    simp
    exact ⟨.bl false, H, I, rfl, q⟩
/-- != of a thing handed in and what it is handed in as -/
def rNeH : R2 := fun x y H Q => ((rNe x y H Q ∨ rNeL x y H Q) ∨ rNeTp x y H Q) ∨ rNeDA x y H Q
theorem op_neH {X : Cx} (hu : X.A.units < cLine) : OpR X (compareOp .NotEq) rNeH := ((op_ne.or (op_neL hu)).or (op_neTp hu)).or (op_ne_dictA hu)
end Sr
namespace Sr
open PySem PySem.Spec PyProof.Rows L2
open Evl (Ex Ev EvL EvU EvT EvA EvO)
section
variable {te ta tb : TE} {tr : TA} {σ : L2.St} {H : Hp} {P : V → Hp → Prop} {K : PySem.W.Frag}
/-- arguments, each of which has P; P stays -/
def EaG (ta : TA) (σ : L2.St) (H : Hp) (P : V → Hp → Prop) (n : Nat) : Prop :=
  ∀ H1, Ex H H1 → ∀ Q : List V → Hp → Prop, (∀ vs H2, Ex H1 H2 → vs.length = n → (∀ v ∈ vs, P v H2) → Q vs H2) → ta σ H1 Q
theorem eg_nil : EaG tNil σ H P 0 := fun H1 _ _ q => q [] H1 (Ex.refl H1) rfl fun v hv => by cases hv
theorem eg_cons {n : Nat} (st : ∀ v H1 H2, Ex H1 H2 → P v H1 → P v H2) (h : EvX te σ H P) (hr : EaG tr σ H P n) : EaG (tCons te tr) σ H P (n + 1) := fun H1 e Q q =>
  h H1 e _ fun v H2 e2 hv => hr H2 (e.trans e2) _ fun vs H3 e3 hl hvs => q (v :: vs) H3 (e2.trans e3) (by simp [hl]) fun y hy => by
    rcases List.mem_cons.mp hy with rfl | hy
    · exact st _ _ _ e3 hv
    · exact hvs y hy
theorem d1_st : ∀ v H1 H2, Ex H1 H2 → D1 H1 v → D1 H2 v := fun _ _ _ e h => h.ex e
/-- v is no object of H -/
def Nw (H : Hp) (v : V) : Prop := ∀ r, v = .ref r → H r = none
theorem nw_ex {H H' : Hp} {v : V} (e : Ex H H') (h : Nw H' v) : Nw H v := fun r z => Evl.fresh_back e (h r z)
theorem nw_new {H H' : Hp} {p : Addr} (e : Ex H H') (h : H' p = none) : Nw H (.ref p) := fun r z => by
  cases z
  exact Evl.fresh_back e h
theorem nw_non {H : Hp} : Nw H .non := fun r z => nomatch z
theorem nw_bl {H : Hp} {b : Bool} : Nw H (.bl b) := fun r z => nomatch z
theorem nw_int {H : Hp} {b : Int} : Nw H (.int b) := fun r z => nomatch z
theorem nw_str {H : Hp} {b : Str} : Nw H (.str b) := fun r z => nomatch z
theorem d1n_st {H : Hp} : ∀ v H1 H2, Ex H1 H2 → (D1 H1 v ∧ Nw H v) → (D1 H2 v ∧ Nw H v) := fun _ _ _ e h => ⟨h.1.ex e, h.2⟩
theorem d0_st : ∀ v H1 H2, Ex H1 H2 → D0 H1 v → D0 H2 v := fun _ _ _ e h => h.ex e
def EvD (te : TE) (σ : L2.St) (H : Hp) (D : Hp → V → Prop) : Prop := EvX te σ H fun v H1 => D H1 v
/-- what holds no list -/
theorem d1_of {H : Hp} {v : V} (h : D0 H v) (hl : lstOf H v = none) : D1 H v := ⟨h, fun xs e => by
  rw [hl] at e
  cases e⟩
theorem d1_list {H : Hp} {a : Addr} {xs : List V} (h : H a = some (.lst xs)) (hl : xs.length ≤ 1000) (hx : ∀ x ∈ xs, D0 H x) : D1 H (.ref a) := ⟨⟨_, .lst h⟩, fun ys e => by
  rw [lstOf_of h] at e
  cases e
  exact ⟨hl, hx⟩⟩
theorem d1_tup {H : Hp} {a : Addr} {xs : List V} (h : H a = some (.tup xs)) : D1 H (.ref a) := d1_of ⟨_, .tup h⟩ (by simp [lstOf, h])
theorem d1_dic {H : Hp} {a : Addr} (h : H a = some (.dK [])) : D1 H (.ref a) := d1_of ⟨_, .dK h⟩ (by simp [lstOf, h])
theorem d1_non {H : Hp} : D1 H .non := d1_of ⟨_, .non⟩ rfl
theorem d1_bl {H : Hp} {b : Bool} : D1 H (.bl b) := d1_of ⟨_, .bl b⟩ rfl
theorem d1_int {H : Hp} {i : Int} : D1 H (.int i) := d1_of ⟨_, .int i⟩ rfl
theorem d1_str {H : Hp} {x : Str} : D1 H (.str x) := d1_of ⟨_, .str x⟩ rfl
theorem ex_c {v : V} (h : ∀ H', P v H') : EvX (tC v) σ H P := fun H1 _ _ q => q v H1 (Ex.refl H1) (h H1)
theorem ex_ev {v : V} (h : Ev te σ H v) (k : ∀ H', P v H') : EvX te σ H P := fun H1 e _ q => h H1 e _ fun H2 e2 => q v H2 e2 (k H2)
theorem ex_l {xs : List V} (h : EvL te σ H xs) (hl : xs.length ≤ 1000) (hx : ∀ x ∈ xs, D0 H x) : EvX te σ H fun v H1 => D1 H1 v ∧ Nw H v := fun H1 e _ q =>
  h H1 e _ fun p H2 hp e2 h2 => q (.ref p) H2 e2 ⟨d1_list h2 hl fun x hx' => (hx x hx').ex (e.trans e2), nw_new e hp⟩
/-- a tracked list -/
def EvK (te : TE) (σ : L2.St) (H : Hp) (xs : List V) : Prop := ∀ H1, Ex H H1 → ∀ Q : VK, (∀ p H2, Ex H1 H2 → H2 p = some (.lst xs) → Q (.ref p) H2) → te σ H1 Q
theorem ek_var {i : Nat} {a : Addr} {xs : List V} (h : σ[i]? = some (some (.ref a))) (ha : H a = some (.lst xs)) : EvK (tVar i) σ H xs := fun H1 e _ q => ⟨_, h, q a H1 (Ex.refl H1) (e _ _ ha)⟩
theorem ek_l {xs : List V} (h : EvL te σ H xs) : EvK te σ H xs := fun H1 e _ q => h H1 e _ fun p H2 _ e2 h2 => q p H2 e2 h2
theorem el_cat {xs ys : List V} (ha : EvK ta σ H xs) (hb : EvK tb σ H ys) (hl : xs.length + ys.length ≤ 1000) : EvL (tOp rCat ta tb) σ H (xs ++ ys) := fun H1 e Q q =>
  ha H1 e _ fun p H2 e2 h2 => hb H2 (e.trans e2) _ fun r H3 e3 h3 => ⟨p, r, xs, ys, rfl, rfl, e3 _ _ h2, h3, Evl.sz_of (by omega), fun t ht => q t _ (Evl.fresh_back (e2.trans e3) ht) ((e2.trans e3).trans (ev_up ht)) upd_same⟩
theorem el_rep {x : V} {n : Int} (hb : Ev tb σ H (.int n)) (ha : EvK ta σ H [x]) (h0 : 0 ≤ n) (hn : n ≤ 1000) : EvL (tOp rRep ta tb) σ H (List.replicate n.toNat x) := fun H1 e Q q =>
  ha H1 e _ fun p H2 e2 h2 => hb H2 (e.trans e2) _ fun H3 e3 => ⟨p, n, [x], rfl, rfl, e3 _ _ h2, by omega, by omega, Evl.sz_of (by simp; omega), fun t ht => by
    rw [flat_rep]
    exact q t _ (Evl.fresh_back (e2.trans e3) ht) ((e2.trans e3).trans (ev_up ht)) upd_same⟩
theorem ev_lenT {a : Addr} {xs : List V} (ha : Ev ta σ H (.ref a)) (h : SqL K H a xs) : Ev (tCB (fun xs H Q => ∃ p ys, xs = [V.ref p] ∧ (SqL K H p ys ∨ SqT K H p ys) ∧ Q (V.int ys.length) H) (tCons ta tNil)) σ H (.int xs.length) := fun H1 e Q q =>
  ha H1 e _ fun H2 e2 => ⟨a, xs, rfl, .inl (Evl.ex_l (e.trans e2) h), q H2 e2⟩
theorem cut_mem {xs : List V} {lo hi : Option Int} {x : V} (h : x ∈ cutV xs lo hi) : x ∈ xs := by
  unfold cutV at h
  exact List.mem_of_mem_drop (List.mem_of_mem_take h)
theorem asg_lst {i n : Nat} {D : Ends} (all : EaG tr σ H P n) (hn : n ≤ 1000) (k : ∀ vs p H2, Ex H H2 → vs.length = n → (∀ v ∈ vs, P v H2) → H2 p = none → D.nx (σ.set i (some (.ref p))) (upd H2 p (.lst vs))) : tAsg (tLst tr) (gName i) D σ H :=
  all H (Ex.refl H) _ fun vs H2 e2 hl hvs => ⟨Evl.sz_of (by omega), fun p hp => k vs p H2 e2 hl hvs hp⟩
theorem ex_dic : EvX tDNewK σ H fun v H1 => D1 H1 v ∧ Nw H v := fun H2 e2 Q q p hp => q _ _ (ev_up hp) ⟨d1_dic upd_same, nw_new e2 hp⟩
theorem ex_tup0 : EvX (tTup tNil) σ H fun v H1 => D1 H1 v ∧ Nw H v := fun H2 e2 Q q => ⟨Evl.sz_of (by simp), fun p hp => q _ _ (ev_up hp) ⟨d1_tup upd_same, nw_new e2 hp⟩⟩
theorem ex_tupof {a : Addr} {xs : List V} (h : Ev te σ H (.ref a)) (hs : SqL K H a xs) : EvX (tCB (fun xs H Q => ∃ p ys, xs = [.ref p] ∧ ((SqL K H p ys ∧ ∀ l, H l = none → Q (.ref l) (upd H l (.tup ys))) ∨ (SqT K H p ys ∧ Q (.ref p) H))) (tCons te tNil)) σ H fun v H1 => D1 H1 v ∧ Nw H v :=
  fun H1 e Q q => h H1 e _ fun H2 e2 => ⟨a, xs, rfl, .inl ⟨Evl.ex_l (e.trans e2) hs, fun l hl => q _ _ (e2.trans (ev_up hl)) ⟨d1_tup upd_same, nw_new (e.trans e2) hl⟩⟩⟩
theorem ex0_l {xs : List V} (h : EvL te σ H xs) : EvX te σ H fun v H1 => D0 H1 v := fun H1 e _ q =>
  h H1 e _ fun p H2 _ e2 h2 => q (.ref p) H2 e2 ⟨_, .lst h2⟩
theorem ex0_u {xs : List V} (h : Evl.EvU te σ H xs) : EvX te σ H fun v H1 => D0 H1 v := fun H1 e _ q =>
  h H1 e _ fun p H2 _ e2 h2 => q (.ref p) H2 e2 ⟨_, .tup h2⟩
theorem ev_pow {i j : Int} (h0 : 0 ≤ j) (h1 : j ≤ 1000000) (h2 : i.natAbs < 2 ^ 64) : Ev (tOp (rI CPow fun i j => .int (i ^ j.toNat)) (tC (.int i)) (tC (.int j))) σ H (.int (i ^ j.toNat)) := Evl.ev_op Evl.ev_c Evl.ev_c (Evl.rv_I ⟨h0, h1, h2⟩)
/-- H without p -/
def offH (H : Hp) (p : Addr) : Hp := fun b => if b = p then none else H b
theorem offH_le {H : Hp} {p : Addr} : Ex (offH H p) H := fun b o h => by
  unfold offH at h
  split at h
  · cases h
  · exact h
theorem offH_ex {H H' : Hp} {p : Addr} (e : Ex H H') : Ex (offH H p) (offH H' p) := fun b o h => by
  unfold offH at h ⊢
  split at h
  · cases h
  · rename_i hb
    rw [if_neg hb]
    exact e b o h
theorem offH_upd {H : Hp} {p : Addr} {o : HO} : offH (upd H p o) p = offH H p := by
  funext b
  unfold offH
  split
  · rfl
  · rename_i hb
    rw [upd_ne hb]
theorem offH_of {H : Hp} {p : Addr} (h : H p = none) : Ex H (offH H p) := fun b o e => by
  unfold offH
  rw [if_neg (ne_of_none e h)]
  exact e
theorem offH_new {H H' : Hp} {p : Addr} (h : H p = none) (e : Ex H H') : Ex H (offH H' p) := (offH_of h).trans (offH_ex e)
theorem d0o_st {ps : Addr} : ∀ v H1 H2, Ex H1 H2 → D0 (offH H1 ps) v → D0 (offH H2 ps) v := fun _ _ _ e h => h.ex (offH_ex e)
theorem ex0o_l {ps : Addr} {o : HO} {xs : List V} (hs : H ps = some o) (h : EvL te σ H xs) : EvX te σ H fun v H1 => D0 (offH H1 ps) v := fun H1 e _ q =>
  h H1 e _ fun p H2 hp e2 h2 => q (.ref p) H2 e2 ⟨_, .lst (show offH H2 ps p = _ by
    unfold offH
    rw [if_neg (fun z => by rw [z, e _ _ hs] at hp; cases hp)]
    exact h2)⟩
theorem ex0o_u {ps : Addr} {o : HO} {xs : List V} (hs : H ps = some o) (h : Evl.EvU te σ H xs) : EvX te σ H fun v H1 => D0 (offH H1 ps) v := fun H1 e _ q =>
  h H1 e _ fun p H2 hp e2 h2 => q (.ref p) H2 e2 ⟨_, .tup (show offH H2 ps p = _ by
    unfold offH
    rw [if_neg (fun z => by rw [z, e _ _ hs] at hp; cases hp)]
    exact h2)⟩
theorem app_new {i : Nat} {ps : Addr} {ys xs : List V} {Q : VK} (hv : σ[i]? = some (some (.ref ps))) (h4 : H ps = some (.lst ys)) (hl : ys.length ≤ 1000) (h : EvL te σ H xs) (hx : ∀ x ∈ xs, D0 (offH H ps) x) (hxl : xs.length ≤ 1000)
    (k : ∀ p H2, H p = none → Ex (offH H ps) (offH H2 ps) → H2 ps = some (.lst (ys ++ [.ref p])) → D1 (offH H2 ps) (.ref p) → Q .non H2) : tBM K "list" rAppend (tVar i) (tCons te tNil) σ H Q := by
  refine ⟨_, hv, Or.inl ⟨rfl, _, Or.inl (Or.inl h4)⟩, ?_⟩
  refine h H (Ex.refl H) _ fun p H2 hp e2 h2 => ⟨ps, ys, .ref p, rfl, rfl, e2 _ _ h4, Evl.sz_lt (by omega), ?_⟩
  have pps : p ≠ ps := fun z => by
    rw [z, h4] at hp
    cases hp
  refine k p _ hp (by rw [offH_upd]; exact offH_ex e2) upd_same ?_
  rw [offH_upd]
  refine d1_list (show offH H2 ps p = _ from ?_) hxl fun x hx' => (hx x hx').ex (offH_ex e2)
  unfold offH
  rw [if_neg pps]
  exact h2
end
theorem for_enum {K : PySem.W.Frag} {a : Addr} {xs : List V} {g : TG} {tb : TS} {D : Ends} {σ : L2.St} {H : Hp} (Pv : Nat → L2.St → Hp → Prop) (h0 : Pv 0 σ H) (hl : ∀ i σ H, i ≤ xs.length → Pv i σ H → SqL K H a xs)
    (hs : ∀ i x σ H T, xs[i]? = some x → Pv i σ H → H T = none → g (.ref T) σ (upd H T (.tup [.int (i : Nat), x])) fun σ2 H2 => tb { D with nx := Pv (i + 1), ct := Pv (i + 1), bk := D.nx } σ2 H2)
    (hd : ∀ σ H, Pv xs.length σ H → D.nx σ H) :
    ∃ W : Nat → Nat → L2.St → Hp → Prop, (∃ m, W 0 m σ H) ∧ ∀ i m σ H, W i m σ H →
      ((Ite K a).stop i H ∧ D.nx σ H) ∨ ((Ite K a).go i H ∧ ∃ N : L2.St → Hp → Prop, (∀ σ' H', N σ' H' → ∃ m', m' < m ∧ W (i + 1) m' σ' H') ∧ ∀ x H', (Ite K a).yld i H x H' → g x σ H' fun σ2 H2 => tb { D with nx := N, ct := N, bk := D.nx } σ2 H2) := by
  refine ⟨fun i m σ H => m = xs.length - i ∧ i ≤ xs.length ∧ Pv i σ H, ⟨_, rfl, Nat.zero_le _, h0⟩, ?_⟩
  rintro i m σ H ⟨rfl, hi, p⟩
  have q := hl i σ H hi p
  by_cases hlt : i < xs.length
  · refine Or.inr ⟨⟨xs, xs[i], q, List.getElem?_eq_getElem hlt⟩, Pv (i + 1), fun σ' H' p' => ⟨_, by omega, rfl, hlt, p'⟩, ?_⟩
    rintro x H' ⟨T, y, rfl, hT, rfl, hy⟩
    exact hs i y σ H T (hy xs q) p hT
  · have e : i = xs.length := by omega
    subst e
    exact Or.inl ⟨⟨xs, q, Nat.le_refl _⟩, hd σ H p⟩
theorem eqv_ints : ∀ ns : List Int, PyData.eqvAll (ns.map PyData.int) (ns.map PyData.int) = true
  | [] => by simp [PyData.eqvAll]
  | n :: ns => by simp [PyData.eqvAll, PyData.eqv, eqv_ints ns]
theorem eqv_rows : ∀ nss : List (List Int), PyData.eqvAll (nss.map dRow) (nss.map dRow) = true
  | [] => by simp [PyData.eqvAll]
  | n :: ns => by simp [PyData.eqvAll, dRow, PyData.eqv, eqv_ints n]; exact eqv_rows ns
theorem eqv_tbl (nss : List (List Int)) : PyData.eqv (.list (nss.map dRow)) (.list (nss.map dRow)) = true := by
  simp [PyData.eqv]
  exact eqv_rows nss
/-- a method of the class Room -/
def Mt (P : Program) (w : World) (K : PySem.W.Frag) (mg : Str → Option Value) (base : Heap) (CX : CXT) (k : Nat) (C : Addr) (m : Str) (ps : List Str) (sp : Sp) : Prop :=
  ∃ f fd, FnOk P w K mg base CX k f fd ps sp ∧ Meth K C m f ∧ Binds K fd ps []
theorem el_listK {te : TE} {σ : L2.St} {H : Hp} {K : PySem.W.Frag} {xs : List V} (h : EvK te σ H xs) : EvL (tCB (Evl.rListS K) (tCons te tNil)) σ H xs := fun H1 e Q q =>
  h H1 e _ fun p H2 e2 h2 => ⟨p, xs, rfl, .inl (Evl.sq_of h2), fun l hl => q l _ (Evl.fresh_back e2 hl) (e2.trans (ev_up hl)) upd_same⟩
theorem Kd.plain {H : Hp} {v : V} {T : String} (k : Kd H v T) : Plain1 v := by
  cases k with
  | lst h => exact .inr ⟨_, rfl⟩
  | tup h => exact .inr ⟨_, rfl⟩
  | dK h => exact .inr ⟨_, rfl⟩
  | _ => exact .inl rfl
/-- for x in xs: x.append(z) -/
theorem for_app {K : PySem.W.Frag} {hd : Addr} {as : List Addr} {H : Hp} {σ : L2.St} {D : Ends} {i j : Nat} {z : Int} (hj : j < σ.length) (hij : i ≠ j) (hv : σ[i]? = some (some (.ref hd))) (hh : H hd = some (.lst (as.map V.ref))) (off : ∀ r ∈ as, r ≠ hd)
    (rows : ∀ r ∈ as, ∃ zs, H r = some (.lst zs) ∧ zs.length ≤ 10) (hl : as.length ≤ 40)
    (k : ∀ y H2, (∀ b o, b ∉ as → H b = some o → H2 b = some o) → D.nx (σ.set j y) H2) : tFor (iList K (tVar i)) (gName j) (tDrop (tBM K "list" rAppend (tVar j) (tCons (tC (.int z)) tNil))) D σ H := by
  refine ⟨_, hv, hd, rfl, ⟨_, Evl.sq_of hh⟩, for_list (K := K) (a := hd) (xs := as.map V.ref) (fun n σ' H2 => (∃ y, σ' = σ.set j y) ∧ (∀ b o, b ∉ as → H b = some o → H2 b = some o) ∧ ∀ r ∈ as, ∃ zs, H2 r = some (.lst zs) ∧ zs.length ≤ 10 + n)
    ⟨⟨σ[j], by rw [List.set_getElem_self]⟩, fun b o _ h => h, fun r hr => rows r hr⟩ (fun n σ' H2 _ p => Evl.sq_of (p.2.1 hd _ (fun hm => off hd hm rfl) hh)) ?_ ?_⟩
  · rintro n x σ' H2 hx ⟨⟨y, rfl⟩, h1, h2⟩
    rw [List.getElem?_map] at hx
    cases hr : as[n]? with
    | none =>
      rw [hr] at hx
      cases hx
    | some r =>
      rw [hr] at hx
      cases hx
      have hm := List.mem_of_getElem? hr
      have hn : n < as.length := (List.getElem?_eq_some_iff.mp hr).1
      obtain ⟨zs, hz, hzl⟩ := h2 r hm
      refine ⟨.ref r, by simp [hj], Or.inl ⟨rfl, _, Or.inl (Or.inl hz)⟩, r, zs, .int z, rfl, rfl, hz, Evl.sz_lt (by omega), ?_⟩
      refine ⟨⟨some (.ref r), by rw [List.set_set]⟩, fun b o hb he => ?_, fun q hq => ?_⟩
      · rw [upd_ne (fun e => hb (by rw [e]; exact hm))]
        exact h1 b o hb he
      · by_cases e : q = r
        · subst e
          exact ⟨_, upd_same, by simp; omega⟩
        · obtain ⟨zs2, g1, g2⟩ := h2 q hq
          exact ⟨zs2, by rw [upd_ne e]; exact g1, by omega⟩
  · rintro σ' H2 ⟨⟨y, rfl⟩, h1, _⟩
    exact k y H2 h1
end Sr
namespace Sr
open PySem PySem.Spec PyProof.Rows L2
open Evl (Ex)
section
variable {K : PySem.W.Frag} {H H' : Hp}
mutual
theorem dp_ex (e : Ex H H') : ∀ (d : PyData) (v : V), Dp K H v d → Dp K H' v d
  | .none, _, h => by
    cases h
    exact .non
  | .bool b, _, h => by
    cases h
    exact .bl b
  | .int i, _, h => by
    cases h
    exact .int i
  | .str x, _, h => by
    cases h
    exact .str x
  | .list ds, _, h => by
    cases h with
    | lst hs ha => exact .lst (Evl.ex_l e hs) (dpAll_ex e ds _ ha)
  | .tuple ds, _, h => by
    cases h with
    | tup hs ha => exact .tup (Evl.ex_t e hs) (dpAll_ex e ds _ ha)
  | .dict _, _, h => by cases h
theorem dpAll_ex (e : Ex H H') : ∀ (ds : List PyData) (vs : List V), DpAll K H vs ds → DpAll K H' vs ds
  | [], _, h => by
    cases h
    exact .nil
  | d :: ds, _, h => by
    cases h with
    | cons h1 h2 => exact .cons (dp_ex e d _ h1) (dpAll_ex e ds _ h2)
end
theorem dpAll_app : ∀ {vs us : List V} {ds es : List PyData}, DpAll K H vs ds → DpAll K H us es → DpAll K H (vs ++ us) (ds ++ es)
  | _, _, _, _, .nil, h => h
  | _, _, _, _, .cons a b, h => .cons a (dpAll_app b h)
theorem dpAll_len : ∀ {vs : List V} {ds : List PyData}, DpAll K H vs ds → vs.length = ds.length
  | _, _, .nil => rfl
  | _, _, .cons _ b => congrArg (· + 1) (dpAll_len b)
/-- things so far -/
def Cwd (K : PySem.W.Frag) (H : Hp) (ds : List PyData) (Dl : Addr) (i : Nat) (H' : Hp) : Prop := H Dl = none ∧ Ex H H' ∧ ∃ ys, H' Dl = some (.lst ys) ∧ DpAll K (offH H' Dl) ys (ds.take i)
/-- [.. for x in xs], each a new list -/
theorem lcD {a : Addr} {xs : List V} {tl te : TE} {σ : L2.St} {j : Nat} {vs : List Nat} (ds : List PyData) (h : Evl.Ev tl σ H (.ref a)) (hx : SqL K H a xs) (hg : ds.length = xs.length) (hz : xs.length ≤ 40000) (hw : ∀ x, wipe ((wipe σ vs).set j (some x)) vs = wipe σ vs)
    (he : ∀ (i : Nat) (x : V) (d : PyData) H1, Ex H H1 → xs[i]? = some x → ds[i]? = some d → ∀ Q : VK, (∀ y H2, Ex H1 H2 → (∀ D, H1 D ≠ none → Dp K (offH H2 D) y d) → Q y H2) → te ((wipe σ vs).set j (some x)) H1 Q) :
    EvX (tLc (iList K tl) (gName j) tYes te vs) σ H (fun v H2 => Dp K H2 v (.list ds)) := fun H0 e Q q => h H0 e _ fun H1 e1 => ⟨a, rfl, ⟨xs, Evl.ex_l (e.trans e1) hx⟩, fun Dl hD => by
  refine lc_list (xs := xs) (Cwd K H1 ds Dl) ⟨hD, Evl.Ex.new hD, [], upd_same, .nil⟩ (fun i H' _ p => Evl.ex_l ((e.trans e1).trans p.2.1) hx) (fun i x H' hi p => ⟨hw x, ?_⟩) (fun H' ⟨p1, p2, ys, p3, p4⟩ => ?_)
  · obtain ⟨p1, p2, ys, p3, p4⟩ := p
    have hlt : i < xs.length := (List.getElem?_eq_some_iff.mp hi).1
    have hgi : ds[i]? = some ds[i] := List.getElem?_eq_getElem (by omega)
    show te _ H' fun y H4 => _
    refine he i x ds[i] H' ((e.trans e1).trans p2) hi hgi _ fun y H4 e4 hy => ?_
    have hl := dpAll_len p4
    rw [List.length_take] at hl
    refine ⟨ys, e4 Dl _ p3, Evl.sz_lt (by omega), p1, Evl.Ex.mut (p2.trans e4) p1, ys ++ [y], upd_same, ?_⟩
    rw [offH_upd, List.take_succ, hgi]
    exact dpAll_app (dpAll_ex (offH_ex e4) _ _ p4) (.cons (hy Dl (by rw [p3]; exact fun z => nomatch z)) .nil)
  · rw [List.take_of_length_le (by omega)] at p4
    exact q (.ref Dl) H' (e1.trans p2) (.lst (Evl.sq_of p3) (dpAll_ex offH_le _ _ p4))⟩
end
end Sr
namespace Sr
open PySem PySem.Spec PyProof.Rows L2
def topS (i : Nat) : Stmt := PySem.Challenge.pw_sumroom_k01_rooms_made.main.body.getD i (.Pass ⟨0, 0, 0, 0⟩)
abbrev s_is_whole : Stmt := topS 28
abbrev n_is_whole : List Str := ["thing"]
theorem sc_is_whole : FnScope n_is_whole ["thing"] (defScope s_is_whole) := ⟨rfl, rfl, rfl, by decide +kernel, rfl, by decide +kernel, by decide +kernel⟩
abbrev s_is_row : Stmt := topS 29
abbrev n_is_row : List Str := ["thing", "many", "number"]
theorem sc_is_row : FnScope n_is_row ["thing", "many"] (defScope s_is_row) := ⟨rfl, rfl, rfl, by decide +kernel, rfl, by decide +kernel, by decide +kernel⟩
abbrev s_is_near_row : Stmt := topS 30
abbrev n_is_near_row : List Str := ["thing", "many", "number"]
theorem sc_is_near_row : FnScope n_is_near_row ["thing", "many"] (defScope s_is_near_row) := ⟨rfl, rfl, rfl, by decide +kernel, rfl, by decide +kernel, by decide +kernel⟩
abbrev s_are_near_rows : Stmt := topS 31
abbrev n_are_near_rows : List Str := ["thing", "many", "row"]
theorem sc_are_near_rows : FnScope n_are_near_rows ["thing", "many"] (defScope s_are_near_rows) := ⟨rfl, rfl, rfl, by decide +kernel, rfl, by decide +kernel, by decide +kernel⟩
abbrev s_Room_init : Stmt := inClass (topS 33) 0
abbrev n_Room_init : List Str := ["self", "letters", "nothings", "rows", "row"]
theorem sc_Room_init : FnScope n_Room_init ["self", "letters", "nothings"] (defScope s_Room_init) := ⟨rfl, rfl, rfl, by decide +kernel, rfl, by decide +kernel, by decide +kernel⟩
abbrev s_Room_letters : Stmt := inClass (topS 33) 1
abbrev n_Room_letters : List Str := ["self"]
theorem sc_Room_letters : FnScope n_Room_letters ["self"] (defScope s_Room_letters) := ⟨rfl, rfl, rfl, by decide +kernel, rfl, by decide +kernel, by decide +kernel⟩
abbrev s_Room_nothings : Stmt := inClass (topS 33) 2
abbrev n_Room_nothings : List Str := ["self", "row"]
theorem sc_Room_nothings : FnScope n_Room_nothings ["self"] (defScope s_Room_nothings) := ⟨rfl, rfl, rfl, by decide +kernel, rfl, by decide +kernel, by decide +kernel⟩
abbrev s_Room_put : Stmt := inClass (topS 33) 3
abbrev n_Room_put : List Str := ["self", "one"]
theorem sc_Room_put : FnScope n_Room_put ["self", "one"] (defScope s_Room_put) := ⟨rfl, rfl, rfl, by decide +kernel, rfl, by decide +kernel, by decide +kernel⟩
abbrev s_l_mixed : Stmt := topS 35
abbrev n_l_mixed : List Str := ["_law_cell", "_law_k", "_law_number_here"]
theorem sc_l_mixed : FnScope n_l_mixed ["_law_cell", "_law_k"] (defScope s_l_mixed) := ⟨rfl, rfl, rfl, by decide +kernel, rfl, by decide +kernel, by decide +kernel⟩
abbrev s_l_whole : Stmt := topS 36
abbrev n_l_whole : List Str := ["_law_found"]
theorem sc_l_whole : FnScope n_l_whole ["_law_found"] (defScope s_l_whole) := ⟨rfl, rfl, rfl, by decide +kernel, rfl, by decide +kernel, by decide +kernel⟩
abbrev s_l_number : Stmt := topS 37
abbrev n_l_number : List Str := ["_law_cell", "_law_k", "_law_n"]
theorem sc_l_number : FnScope n_l_number ["_law_cell", "_law_k"] (defScope s_l_number) := ⟨rfl, rfl, rfl, by decide +kernel, rfl, by decide +kernel, by decide +kernel⟩
abbrev s_l_nothing : Stmt := topS 38
abbrev n_l_nothing : List Str := ["_law_cell", "_law_letters", "_law_told", "_law_way", "_law_found", "_law_at", "_law_k", "_law_number_here"]
theorem sc_l_nothing : FnScope n_l_nothing ["_law_cell", "_law_letters", "_law_told"] (defScope s_l_nothing) := ⟨rfl, rfl, rfl, by decide +kernel, rfl, by decide +kernel, by decide +kernel⟩
abbrev s_l_word : Stmt := topS 39
abbrev n_l_word : List Str := ["_law_e", "_law_found"]
theorem sc_l_word : FnScope n_l_word ["_law_e"] (defScope s_l_word) := ⟨rfl, rfl, rfl, by decide +kernel, rfl, by decide +kernel, by decide +kernel⟩
abbrev s_l_is_told : Stmt := topS 40
abbrev n_l_is_told : List Str := ["_law_thing", "_law_letters", "_law_part"]
theorem sc_l_is_told : FnScope n_l_is_told ["_law_thing", "_law_letters"] (defScope s_l_is_told) := ⟨rfl, rfl, rfl, by decide +kernel, rfl, by decide +kernel, by decide +kernel⟩
abbrev s_l_odd_sum : Stmt := topS 41
abbrev n_l_odd_sum : List Str := ["_law_cell", "_law_one", "_law_at", "_law_some", "_law_parts", "_law_part"]
theorem sc_l_odd_sum : FnScope n_l_odd_sum ["_law_cell", "_law_one"] (defScope s_l_odd_sum) := ⟨rfl, rfl, rfl, by decide +kernel, rfl, by decide +kernel, by decide +kernel⟩
abbrev s_l_made : Stmt := topS 42
abbrev n_l_made : List Str := ["_law_letters", "_law_nothings", "_law_caught", "_law_found", "_law_e"]
theorem sc_l_made : FnScope n_l_made ["_law_letters", "_law_nothings"] (defScope s_l_made) := ⟨rfl, rfl, rfl, by decide +kernel, rfl, by decide +kernel, by decide +kernel⟩
abbrev s_l_due : Stmt := topS 43
abbrev n_l_due : List Str := ["_law_letters", "_law_nothings", "_law_one"]
theorem sc_l_due : FnScope n_l_due ["_law_letters", "_law_nothings"] (defScope s_l_due) := ⟨rfl, rfl, rfl, by decide +kernel, rfl, by decide +kernel, by decide +kernel⟩
abbrev s_l_drawn : Stmt := topS 44
abbrev n_l_drawn : List Str := ["_law_cell", "_law_letters", "_law_nothings", "_law_k"]
theorem sc_l_drawn : FnScope n_l_drawn ["_law_cell"] (defScope s_l_drawn) := ⟨rfl, rfl, rfl, by decide +kernel, rfl, by decide +kernel, by decide +kernel⟩
abbrev s_l_bent : Stmt := topS 45
abbrev n_l_bent : List Str := ["_law_cell", "_law_letters", "_law_nothings", "_law_way", "_law_some", "_law_at", "_law_odd"]
theorem sc_l_bent : FnScope n_l_bent ["_law_cell", "_law_letters", "_law_nothings"] (defScope s_l_bent) := ⟨rfl, rfl, rfl, by decide +kernel, rfl, by decide +kernel, by decide +kernel⟩
abbrev s_law : Stmt := topS 46
abbrev n_law : List Str := ["_law_script", "_law_k", "_law_cell", "_law_letters", "_law_nothings", "_law_due_here", "_law_handed", "_law_found", "_law_kept", "_law_one", "_law_turn", "_law_told", "_law_bare", "_law_room"]
theorem sc_law : FnScope n_law ["_law_script"] (defScope s_law) := ⟨rfl, rfl, rfl, by decide +kernel, rfl, by decide +kernel, by decide +kernel⟩
end Sr
namespace Sr
open PySem PySem.Spec PyProof.Rows L2
open Evl (Ex Ev EvL EvU EvT EvA RetL RetV)
section
variable {P : Program} {w : World} {K : PySem.W.Frag} {mg : Str → Option Value} {base : Heap} {f : Addr} {fd : FuncData}
def spMixed : Sp := fun vs H Q _ => ∃ c k : Int, vs = [.int c, .int k] ∧ 0 ≤ k ∧ k ≤ 1000000000000 ∧ ∀ m : Int, 0 ≤ m → m < 134217728 → Q (.int m) H
theorem ok_l_mixed (F : FnP K "_law_mixed" "_law_mixed" s_l_mixed f fd) : FnOk P w K mg base CX0 1 f fd ["_law_cell", "_law_k"] spMixed := by
  refine F.ok sc_l_mixed (fun vs H Q E h => ?_) (fun cdv A outer s H vs Q E hr h => ⟨_, PSs.nox
   (pss_cons (ps_set (i := 2) sc_l_mixed.nd rfl (Or.inl rfl) (pe_op op_mod (pe_op op_add (pe_op op_add (pe_op op_add (pe_op op_mul (pe_op op_mod (pv 0) pe_int) pe_int) (pe_op op_mul (pe_op op_mul pe_int (pv 1)) (pv 1))) (pe_op op_mul pe_int (pv 1))) pe_int) pe_int))
      (pss_one (ps_ret (pe_op op_fdiv (pe_op op_mod (pe_op op_mul (pv 2) (pv 2)) pe_int) pe_int)))), ?_⟩)
  · obtain ⟨c, k, rfl, _⟩ := h
    rfl
  · obtain ⟨c, k, rfl, h0, h1, hQ⟩ := h
    simp [tSeq, tAsg, tRet, tOp, tUn, tVar, tC, rI, rI0, rU, gName, L2.start, CMul, CDiv, CPow, tIfS, tTest, rEq, rNe, scal, tNext, tCall, tCons, tNil, tCB, tIf, tAnd, L2.tOr, tNot, tB, tAndV, tOrV, tNotV, tChain, tLst, tDrop, rIxH, upd_same, cxK, Evl.rListS]
    refine ⟨?_, ?_, hQ _ ?_ ?_⟩ <;> omega
def spNumber : Sp := fun vs H Q _ => ∃ c k : Int, vs = [.int c, .int k] ∧ 0 ≤ k ∧ k ≤ 1000000000000 ∧ ∀ (m : Int) H', -1000000000000 ≤ m → m ≤ 1000000000000 → Ex H H' → Q (.int m) H'
theorem ok_l_number (F : FnP K "_law_number" "_law_number" s_l_number f fd) (B : Bi mg) (D_l_mixed : Df P w K mg base CX0 1 "_law_mixed" ["_law_cell", "_law_k"] spMixed) : FnOk P w K mg base CX0 2 f fd ["_law_cell", "_law_k"] spNumber := by
  refine F.ok sc_l_number (fun vs H Q E h => ?_) (fun cdv A outer s H vs Q E hr h => ⟨_, PSs.nox
   (pss_cons (ps_set (i := 2) sc_l_number.nd rfl (Or.inl rfl) (pe_df D_l_mixed (hr.mono (by decide)) (pa_cons (pv 0) (pa_cons (pv 1) pa_nil))))
      (pss_cons (ps_if (pt_cmpR op_eq (pe_op op_mod (pv 2) pe_int) pe_int (nomark _))
      (pss_one (ps_ret (pe_ix ix_h (pe_lst (pa_cons (pe_op op_pow pe_int pe_int) (pa_cons (pe_un un_neg (pe_op op_pow pe_int pe_int)) (pa_cons (pe_op op_sub (pe_op op_pow pe_int pe_int) pe_int) pa_nil)))) (pe_op op_mod (pe_op op_fdiv (pv 2) pe_int) pe_int) (fun _ _ => rfl))))
      pss_nil)
      (pss_cons (ps_if (pt_cmpR op_eq (pe_op op_mod (pv 2) pe_int) pe_int (nomark _))
      (pss_one (ps_ret (pe_op op_sub (pe_op op_mod (pe_op op_mul (pe_op op_fdiv (pv 2) pe_int) (pe_op op_pow pe_int pe_int)) (pe_op op_add (pe_op op_mul pe_int (pe_op op_pow pe_int pe_int)) pe_int)) (pe_op op_pow pe_int pe_int))))
      pss_nil)
      (pss_one (ps_ret (pe_op op_sub (pe_op op_mod (pe_op op_fdiv (pv 2) pe_int) (pe_ix ix_h (pe_lst (pa_cons pe_int (pa_cons pe_int (pa_cons pe_int (pa_cons pe_int pa_nil))))) (pe_op op_mod (pe_op op_fdiv (pv 2) pe_int) pe_int) (fun _ _ => rfl))) (pe_ix ix_h (pe_lst (pa_cons pe_int (pa_cons pe_int (pa_cons pe_int (pa_cons pe_int pa_nil))))) (pe_op op_mod (pe_op op_fdiv (pv 2) pe_int) pe_int) (fun _ _ => rfl)))))))), ?_⟩)
  · obtain ⟨c, k, rfl, _⟩ := h
    rfl
  · obtain ⟨c, k, rfl, h0, h1, hQ⟩ := h
    simp [tSeq, tAsg, tRet, tOp, tUn, tVar, tC, rI, rI0, rU, gName, L2.start, CMul, CDiv, CPow, tIfS, tTest, rEq, rNe, scal, tNext, tCall, tCons, tNil, tCB, tIf, tAnd, L2.tOr, tNot, tB, tAndV, tOrV, tNotV, tChain, tLst, tDrop, rIxH, upd_same, cxK, Evl.rListS]
    refine ⟨c, k, rfl, h0, h1, fun m m0 m1 => ⟨m, rfl, ?_⟩⟩
    split
    · refine ⟨sizeLine_ge _ (by decide), fun p hp => ⟨m, rfl, ?_⟩⟩
      rcases (by omega : m / 11 % 3 = 0 ∨ m / 11 % 3 = 1 ∨ m / 11 % 3 = 2) with h | h | h <;> rw [h] <;> refine ⟨_, rfl, hQ _ _ (by decide) (by decide) (ev_up hp)⟩
    · refine ⟨m, rfl, ?_⟩
      split
      · exact ⟨m, rfl, hQ _ _ (by omega) (by omega) (Ex.refl H)⟩
      · refine ⟨m, rfl, sizeLine_ge _ (by decide), fun p hp => ⟨m, rfl, ?_⟩⟩
        rcases (by omega : m / 275 % 4 = 0 ∨ m / 275 % 4 = 1 ∨ m / 275 % 4 = 2 ∨ m / 275 % 4 = 3) with h | h | h | h <;> rw [h] <;>
          refine ⟨_, rfl, _, rfl, by decide, sizeLine_ge _ (by decide), fun q hq => ⟨m, rfl, ?_⟩⟩ <;> rw [h] <;> refine ⟨_, rfl, _, rfl, hQ _ _ (by omega) (by omega) ((ev_up hp).trans (ev_up hq))⟩
def spNothing : Sp := fun vs H Q _ => ∃ (c : Int) (n : Nat) (a : Addr) (rs : List Addr) (nss : List (List Int)), vs = [.int c, .int n, .ref a] ∧ n ≤ 6 ∧ H a = some (.lst (rs.map V.ref)) ∧ RowsL H rs nss ∧ rs.length ≤ 40 ∧ (∀ ns ∈ nss, ns.length = n ∧ Near ns) ∧
  ∀ (p : Addr) (ns : List Int) H', H p = none → Ex H H' → H' p = some (.lst (ns.map V.int)) → ns.length = n → Near ns → Q (.ref p) H'
theorem ok_l_nothing (F : FnP K "_law_nothing" "_law_nothing" s_l_nothing f fd) (B : Bi mg) (D_l_mixed : Df P w K mg base CX0 1 "_law_mixed" ["_law_cell", "_law_k"] spMixed) (D_l_number : Df P w K mg base CX0 2 "_law_number" ["_law_cell", "_law_k"] spNumber) : FnOk P w K mg base CX0 3 f fd ["_law_cell", "_law_letters", "_law_told"] spNothing := by
  refine F.ok sc_l_nothing (fun vs H Q E h => ?_) (fun cdv A outer s H vs Q E hr h => ⟨_, PSs.nox
   (pss_cons (ps_set (i := 3) sc_l_nothing.nd rfl (Or.inl rfl) (pe_op op_mod (pe_df D_l_mixed (hr.mono (by decide)) (pa_cons (pv 0) (pa_cons pe_int pa_nil))) pe_int))
      (Evl.pss_cut (ps_if (PW.pt (pw_and (pt_cmpR op_eq (pv 3) pe_int (nomark _)) (pw_and1 (pt_cmpR (op_neD (hu64 hr)) (pv 2) (pe_lst pa_nil) (nomark _)))))
      (pss_one (ps_ret (pe_callTy (r := Evl.rListS K) call_list_of rfl B.list_ boot_list (pa_cons (pe_ix ix_list (pv 2) (pe_op op_mod (pe_df D_l_mixed (hr.mono (by decide)) (pa_cons (pv 0) (pa_cons pe_int pa_nil))) (pe_callB call_len_seq rfl B.len_ boot_len (pa_cons (pv 2) pa_nil))) (fun _ _ => rfl)) pa_nil))))
      pss_nil)
      (pss_cons (ps_setLc (i := 4) (own := [("_law_k", 6)]) (g := gName 6) (tt := tYes) rfl sc_l_nothing.nd rfl rfl (sw_true rfl rfl rfl (by decide +kernel)) (pi_range1 rfl B.range_ (pa_cons (pv 1) pa_nil)) (blkOk_by (N := n_l_nothing) (sc := defScope s_l_nothing) (by decide +kernel)) (fun _ _ _ _ _ => (pg_name (i := 6) sc_l_nothing.nd rfl (Or.inl rfl))) (fun _ _ _ _ _ => pts_nil) (fun _ _ _ _ _ => (pe_df D_l_number (hr.mono (by decide)) (pa_cons (pv 0) (pa_cons (pe_op op_add pe_int (pv 6)) pa_nil)))))
      (pss_cons (ps_if (PW.pt (pw_and (pt_cmpR op_lt (pv 3) pe_int (nomark _)) (pw_and1 (pt_cmpR op_gt (pv 1) pe_int (nomark _)))))
      (pss_cons (ps_set (i := 5) sc_l_nothing.nd rfl (Or.inr rfl) (pe_op op_mod (pe_df D_l_mixed (hr.mono (by decide)) (pa_cons (pv 0) (pa_cons pe_int pa_nil))) (pv 1)))
        (pss_one (ps_ret (pe_lc (own := [("_law_k", 6), ("_law_number_here", 7)]) (g := gTup K 2 (gCons (gName 6) (gCons (gName 7) gNil))) (tt := tYes) rfl sc_l_nothing.nd (pi_enum rfl B.enumerate_ (pa_cons (pv 4) pa_nil)) (blkOk_by (N := n_l_nothing) (sc := defScope s_l_nothing) (by decide +kernel)) (fun _ _ _ _ _ => (pg_tup rfl (pgs_cons (pg_name (i := 6) sc_l_nothing.nd rfl (Or.inl rfl)) (pgs_cons (pg_name (i := 7) sc_l_nothing.nd rfl (Or.inl rfl)) pgs_nil)))) (fun _ _ _ _ _ => pts_nil) (fun _ _ _ _ _ => (pe_op op_mul (pv 7) (pe_callTy call_int1 rfl B.int_ boot_int (pa_cons (pe_cmpR op_eq (pv 6) (pv 5) (nomark _)) pa_nil))))))))
      pss_nil)
      (pss_one (ps_ret (pe_ifExp (PW.pt (pw_and (pt_cmpR op_eq (pv 3) pe_int (nomark _)) (pw_and1 (pt_cmpR op_eq (pe_op op_mod (pe_df D_l_mixed (hr.mono (by decide)) (pa_cons (pv 0) (pa_cons pe_int pa_nil))) pe_int) pe_int (nomark _))))) (pe_op op_rep (pe_lst (pa_cons pe_int pa_nil)) (pv 1)) (pv 4)))))))), ?_⟩)
  · obtain ⟨c, n, a, rs, nss, rfl, _⟩ := h
    rfl
  · obtain ⟨c, n, a, rs, nss, rfl, hn, ha, hrs, hl, hns, hQ⟩ := h
    simp [tSeq, tAsg, tRet, tOp, tUn, tVar, tC, rI, rI0, rU, gName, L2.start, CMul, CDiv, CPow, tIfS, tTest, rEq, rNe, scal, tNext, tCall, tCons, tNil, tCB, tIf, tAnd, L2.tOr, tNot, tB, tAndV, tOrV, tNotV, tChain, tLst, tDrop, rIxH, upd_same, cxK, Evl.rListS]
    refine ⟨c, 20, rfl, by decide, by decide, fun m m0 m1 => ⟨m, rfl, fun σ' H' => Ex H H' ∧ σ' = [some (.int c), some (.int n), some (.ref a), some (.int (m % 9)), none, none, none, none], ?_, ?_⟩⟩
    · simp [tSeq, tAsg, tRet, tOp, tUn, tVar, tC, rI, rI0, rU, gName, L2.start, CMul, CDiv, CPow, tIfS, tTest, rEq, rNe, scal, tNext, tCall, tCons, tNil, tCB, tIf, tAnd, L2.tOr, tNot, tB, tAndV, tOrV, tNotV, tChain, tLst, tDrop, rIxH, upd_same, cxK, Evl.rListS]
      split
      · intro p hp
        have ha' : upd H p (.lst []) a = some (.lst (rs.map V.ref)) := ev_up hp _ _ ha
        have hrs' : RowsL (upd H p (.lst [])) rs nss := hrs.ex (ev_up hp)
        refine ⟨_, _, dp_rows ha' hrs', dp_nil upd_same, sh_rows nss, sh_nil, ?_⟩
        rw [eqv_nil_r]
        cases nss with
        | nil => exact .inl ⟨rfl, ev_up hp⟩
        | cons ns0 nss0 =>
          refine .inr ⟨rfl, c, 21, rfl, by decide, by decide, fun m2 m20 m21 => ⟨_, .inl (Evl.sq_of ha'), m2, rfl, ?_⟩⟩
          have hlen := hrs.len
          simp [tSeq, tAsg, tRet, tOp, tUn, tVar, tC, rI, rI0, rU, gName, L2.start, CMul, CDiv, CPow, tIfS, tTest, rEq, rNe, scal, tNext, tCall, tCons, tNil, tCB, tIf, tAnd, L2.tOr, tNot, tB, tAndV, tOrV, tNotV, tChain, tLst, tDrop, rIxH, upd_same, cxK, Evl.rListS] at hlen
          have i0 : 0 ≤ m2 % ((rs.map V.ref).length : Int) := by
            apply Int.emod_nonneg
            rw [List.length_map]
            omega
          have i1 : m2 % ((rs.map V.ref).length : Int) < ((rs.map V.ref).length : Int) := by
            apply Int.emod_lt_of_pos
            rw [List.length_map]
            omega
          obtain ⟨x, hx, r, hr, rfl⟩ := pick_any (xs := rs.map V.ref) (R := fun x => ∃ r ∈ rs, V.ref r = x) i0 i1 fun x hx => List.mem_map.mp hx
          refine ⟨by rw [List.length_map]; omega, a, _, _, _, rfl, rfl, Evl.sq_of ha', hx, r, rfl, ?_⟩
          obtain ⟨k, hk⟩ := List.mem_iff_getElem?.mp hr
          obtain ⟨ns, hns1, hns2⟩ := hrs'.get hk
          have hn3 := hns ns (List.mem_of_getElem? hns1)
          exact ⟨_, .inl (Evl.sq_of hns2), fun l hl => hQ l ns _ (Evl.fresh_back (ev_up hp) hl) ((ev_up hp).trans (ev_up hl)) upd_same hn3.1 hn3.2⟩
      · exact Ex.refl H
    · rintro σ' H' ⟨e1, rfl⟩
      simp [tSeq, tAsg, tRet, tOp, tUn, tVar, tC, rI, rI0, rU, gName, L2.start, CMul, CDiv, CPow, tIfS, tTest, rEq, rNe, scal, tNext, tCall, tCons, tNil, tCB, tIf, tAnd, L2.tOr, tNot, tB, tAndV, tOrV, tNotV, tChain, tLst, tDrop, rIxH, upd_same, cxK, Evl.rListS]
      refine lcR (m := n) (fun _ y => ∃ z, y = V.int z ∧ -1000000000000 ≤ z ∧ z ≤ 1000000000000) ?_ rfl (by omega) (fun x => rfl) ?_ H' (Ex.refl H') _ ?_
      · intro H1 e Q q
        exact ⟨_, rfl, q H1 (Ex.refl H1)⟩
      · intro i H1 e hi H2 e2 Q q
        simp [tSeq, tAsg, tRet, tOp, tUn, tVar, tC, rI, rI0, rU, gName, L2.start, CMul, CDiv, CPow, tIfS, tTest, rEq, rNe, scal, tNext, tCall, tCons, tNil, tCB, tIf, tAnd, L2.tOr, tNot, tB, tAndV, tOrV, tNotV, tChain, tLst, tDrop, rIxH, upd_same, cxK, Evl.rListS, wipe]
        exact ⟨c, 30 + i, rfl, by omega, by omega, fun z H3 z0 z1 e3 => q _ H3 e3 ⟨z, rfl, z0, z1⟩⟩
      · rintro _ H2 e2 ⟨p, ys, rfl, hp, hp2, hl2, hys⟩
        obtain ⟨ns, rfl, hn2⟩ := ints_of hys
        rw [List.length_map] at hl2
        have fin : ∀ H3, Ex H2 H3 → Q (.ref p) H3 := fun H3 e3 => hQ p ns H3 (Evl.fresh_back e1 hp) ((e1.trans e2).trans e3) (e3 _ _ hp2) hl2 hn2
        have zz : ∀ (H3 : Hp) (pp : Addr), Ex H2 H3 → H3 pp = none → rRep (.ref pp) (.int n) (upd H3 pp (.lst [.int 0])) Q := fun H3 pp e3 hpp => by
          refine ⟨pp, n, _, rfl, rfl, upd_same, by omega, by omega, sizeLine_ge _ (by simp [tSeq, tAsg, tRet, tOp, tUn, tVar, tC, rI, rI0, rU, gName, L2.start, CMul, CDiv, CPow, tIfS, tTest, rEq, rNe, scal, tNext, tCall, tCons, tNil, tCB, tIf, tAnd, L2.tOr, tNot, tB, tAndV, tOrV, tNotV, tChain, tLst, tDrop, rIxH, upd_same, cxK, Evl.rListS]; omega), fun q hq => ?_⟩
          have e4 := e3.trans (ev_up (o := .lst [.int 0]) hpp)
          have e5 := e4.trans (ev_up (o := .lst (List.replicate (n : Int).toNat [V.int 0]).flatten) hq)
          refine hQ q (List.replicate n 0) _ (Evl.fresh_back ((e1.trans e2).trans e4) hq) ((e1.trans e2).trans e5) ?_ (by simp [tSeq, tAsg, tRet, tOp, tUn, tVar, tC, rI, rI0, rU, gName, L2.start, CMul, CDiv, CPow, tIfS, tTest, rEq, rNe, scal, tNext, tCall, tCons, tNil, tCB, tIf, tAnd, L2.tOr, tNot, tB, tAndV, tOrV, tNotV, tChain, tLst, tDrop, rIxH, upd_same, cxK, Evl.rListS]) (fun x hx => ?_)
          · rw [upd_same, flat_rep]
            simp [tSeq, tAsg, tRet, tOp, tUn, tVar, tC, rI, rI0, rU, gName, L2.start, CMul, CDiv, CPow, tIfS, tTest, rEq, rNe, scal, tNext, tCall, tCons, tNil, tCB, tIf, tAnd, L2.tOr, tNot, tB, tAndV, tOrV, tNotV, tChain, tLst, tDrop, rIxH, upd_same, cxK, Evl.rListS]
          · have := List.eq_of_mem_replicate hx
            omega
        have last : (if m % 9 = 3 then spMixed [V.int c, V.int 23] H2 (fun x_1 H1 => ∃ i, x_1 = V.int i ∧ if i % 3 = 0 then 1 ≤ sizeLine ∧ ∀ (p : Addr), H1 p = none → rRep (V.ref p) (V.int n) (upd H1 p (HO.lst [V.int 0])) Q else Q (.ref p) H1) E0 else Q (.ref p) H2) := by
          split
          · refine ⟨c, 23, rfl, by decide, by decide, fun m2 _ _ => ⟨m2, rfl, ?_⟩⟩
            split
            · exact ⟨sizeLine_ge _ (by decide), fun pp hpp => zz _ _ (Ex.refl _) hpp⟩
            · exact fin _ (Ex.refl _)
          · exact fin _ (Ex.refl _)
        split
        · split
          · refine ⟨c, 22, rfl, by decide, by decide, fun m2 _ _ => ⟨m2, rfl, by assumption, ?_⟩⟩
            refine lcE (fun _ y => ∃ z, y = V.int z ∧ -1000000000000 ≤ z ∧ z ≤ 1000000000000) ?_ (Evl.sq_of hp2) (by simp [tSeq, tAsg, tRet, tOp, tUn, tVar, tC, rI, rI0, rU, gName, L2.start, CMul, CDiv, CPow, tIfS, tTest, rEq, rNe, scal, tNext, tCall, tCons, tNil, tCB, tIf, tAnd, L2.tOr, tNot, tB, tAndV, tOrV, tNotV, tChain, tLst, tDrop, rIxH, upd_same, cxK, Evl.rListS]; omega) (fun x y => rfl) ?_ H2 (Ex.refl H2) _ ?_
            · intro H1 e Q q
              exact ⟨_, rfl, q H1 (Ex.refl H1)⟩
            · intro i x H1 e hi H3 e3 Q q
              rw [List.getElem?_map] at hi
              cases hz : ns[i]? with
              | none =>
                rw [hz] at hi
                cases hi
              | some z =>
                rw [hz] at hi
                cases hi
                have hzz := hn2 z (List.mem_of_getElem? hz)
                simp [tSeq, tAsg, tRet, tOp, tUn, tVar, tC, rI, rI0, rU, gName, L2.start, CMul, CDiv, CPow, tIfS, tTest, rEq, rNe, scal, tNext, tCall, tCons, tNil, tCB, tIf, tAnd, L2.tOr, tNot, tB, tAndV, tOrV, tNotV, tChain, tLst, tDrop, rIxH, upd_same, cxK, Evl.rListS, wipe]
                by_cases hc : (i : Int) = m2 % n
                · exact .inr ⟨hc, q _ H3 (Ex.refl H3) ⟨z, rfl, hzz.1, hzz.2⟩⟩
                · exact .inl ⟨hc, q _ H3 (Ex.refl H3) ⟨0, rfl, by omega, by omega⟩⟩
            · rintro _ H3 e3 ⟨p3, ys3, rfl, hp3, hp33, hl3, hys3⟩
              obtain ⟨ns3, rfl, hn33⟩ := ints_of hys3
              rw [List.length_map, List.length_map] at hl3
              exact hQ p3 ns3 H3 (Evl.fresh_back (e1.trans e2) hp3) ((e1.trans e2).trans e3) hp33 (by omega) hn33
          · exact last
        · exact last
end
end Sr
namespace Sr
open PySem PySem.Spec PyProof.Rows L2
open Evl (Ex Ev EvL EvU EvT EvA RetL RetV)
section
variable {P : Program} {w : World} {K : PySem.W.Frag} {mg : Str → Option Value} {base : Heap} {f : Addr} {fd : FuncData}
def spIsWhole : Sp := fun vs H Q _ => ∃ v, vs = [v] ∧ D0 H v ∧ Q (.bl (isInt v)) H
theorem ok_is_whole (F : FnP K "is_whole" "is_whole" s_is_whole f fd) (B : Bi mg) : FnOk P w K mg base CX0 1 f fd ["thing"] spIsWhole := by
  refine F.ok sc_is_whole (fun vs H Q E h => ?_) (fun cdv A outer s H vs Q E hr h => ⟨_, PSs.nox
   (pss_one (ps_ret (pe_cmpR op_isTy (pe_callTy call_tyK rfl B.type_ boot_type (pa_cons (pv 0) pa_nil)) (pe_bltn (v := .ty "int") rfl B.int_ boot_int rfl) (nomark _)))), ?_⟩)
  · obtain ⟨v, rfl, _⟩ := h
    rfl
  · obtain ⟨v, rfl, ⟨T, k⟩, q⟩ := h
    simp [tSeq, tAsg, tRet, tOp, tUn, tVar, tC, rI, rI0, rU, gName, L2.start, CMul, CDiv, CPow, tIfS, tTest, rEq, rNe, scal, tNext, tCall, tCons, tNil, tCB, tIf, tAnd, L2.tOr, tNot, tB, tAndV, tOrV, tNotV, tChain, tLst, tDrop, rIxH, upd_same, cxK]
    refine ⟨v, T, rfl, k, ?_⟩
    simp [tSeq, tAsg, tRet, tOp, tUn, tVar, tC, rI, rI0, rU, gName, L2.start, CMul, CDiv, CPow, tIfS, tTest, rEq, rNe, scal, tNext, tCall, tCons, tNil, tCB, tIf, tAnd, L2.tOr, tNot, tB, tAndV, tOrV, tNotV, tChain, tLst, tDrop, rIxH, upd_same, cxK]
    rw [k.isInt_eq]
    exact q
theorem ok_l_whole (F : FnP K "_law_whole" "_law_whole" s_l_whole f fd) (B : Bi mg) : FnOk P w K mg base CX0 1 f fd ["_law_found"] spIsWhole := by
  refine F.ok sc_l_whole (fun vs H Q E h => ?_) (fun cdv A outer s H vs Q E hr h => ⟨_, PSs.nox
   (pss_one (ps_ret (pe_and (pe_callB call_isK rfl B.isinstance_ boot_isinstance (pa_cons (pv 0) (pa_cons (pe_bltn (v := .ty "int") rfl B.int_ boot_int rfl) pa_nil))) (pe_one (pe_not (pe_callB call_isK rfl B.isinstance_ boot_isinstance (pa_cons (pv 0) (pa_cons (pe_bltn (v := .ty "bool") rfl B.bool_ boot_bool rfl) pa_nil)))))))), ?_⟩)
  · obtain ⟨v, rfl, _⟩ := h
    rfl
  · obtain ⟨v, rfl, ⟨T, k⟩, q⟩ := h
    obtain ⟨b, hb, h1, h2⟩ := k.kInt
    simp [tSeq, tAsg, tRet, tOp, tUn, tVar, tC, rI, rI0, rU, gName, L2.start, CMul, CDiv, CPow, tIfS, tTest, rEq, rNe, scal, tNext, tCall, tCons, tNil, tCB, tIf, tAnd, L2.tOr, tNot, tB, tAndV, tOrV, tNotV, tChain, tLst, tDrop, rIxH, upd_same, cxK]
    refine ⟨v, T, "int", b, rfl, k, hb, ?_⟩
    simp [tSeq, tAsg, tRet, tOp, tUn, tVar, tC, rI, rI0, rU, gName, L2.start, CMul, CDiv, CPow, tIfS, tTest, rEq, rNe, scal, tNext, tCall, tCons, tNil, tCB, tIf, tAnd, L2.tOr, tNot, tB, tAndV, tOrV, tNotV, tChain, tLst, tDrop, rIxH, upd_same, cxK]
    cases b with
    | false =>
      rw [h2 rfl] at q
      exact .inl ⟨rfl, q⟩
    | true =>
      obtain ⟨c, hc, e⟩ := h1 rfl
      refine .inr ⟨rfl, v, T, "bool", c, rfl, k, hc, ?_⟩
      rw [← e] at q
      cases c with
      | false => exact .inl ⟨rfl, q⟩
      | true => exact .inr ⟨rfl, q⟩
def spIsRow : Sp := fun vs H Q _ => ∃ v n, vs = [v, .int n] ∧ D1 H v ∧ ∀ H', Ex H H' → Q (.bl (intRow H n v)) H'
theorem ok_is_row (F : FnP K "is_row" "is_row" s_is_row f fd) (B : Bi mg) (D_is_whole : Df P w K mg base CX0 1 "is_whole" ["thing"] spIsWhole) : FnOk P w K mg base CX0 2 f fd ["thing", "many"] spIsRow := by
  refine F.ok sc_is_row (fun vs H Q E h => ?_) (fun cdv A outer s H vs Q E hr h => ⟨_, PSs.nox
   (pss_one (ps_ret (pe_and (pe_cmpR op_isTy (pe_callTy call_tyK rfl B.type_ boot_type (pa_cons (pv 0) pa_nil)) (pe_bltn (v := .ty "list") rfl B.list_ boot_list rfl) (nomark _)) (pe_and (pe_cmpR op_eq (pe_callB call_len_seq rfl B.len_ boot_len (pa_cons (pv 0) pa_nil)) (pv 1) (nomark _)) (pe_one (pe_callB (cr_all rfl) rfl B.all_ boot_all (pa_cons (pe_lc (own := [("number", 2)]) (g := gName 2) (tt := tYes) rfl sc_is_row.nd (pi_list (pv 0)) (blkOk_by (N := n_is_row) (sc := defScope s_is_row) (by decide +kernel)) (fun _ _ _ _ _ => (pg_name (i := 2) sc_is_row.nd rfl (Or.inl rfl))) (fun _ _ _ _ _ => pts_nil) (fun _ _ _ _ _ => (pe_df D_is_whole (hr.mono (by decide)) (pa_cons (pv 2) pa_nil)))) pa_nil))))))), ?_⟩)
  · obtain ⟨v, n, rfl, _⟩ := h
    rfl
  · obtain ⟨v, n, rfl, ⟨⟨T, k⟩, hxs⟩, q⟩ := h
    simp [tSeq, tAsg, tRet, tOp, tUn, tVar, tC, rI, rI0, rU, gName, L2.start, CMul, CDiv, CPow, tIfS, tTest, rEq, rNe, scal, tNext, tCall, tCons, tNil, tCB, tIf, tAnd, L2.tOr, tNot, tB, tAndV, tOrV, tNotV, tChain, tLst, tDrop, rIxH, upd_same, cxK]
    refine ⟨v, T, rfl, k, T, rfl, ?_⟩
    have kl := k.isList
    cases hl : lstOf H v with
    | none =>
      rw [hl] at kl
      rw [if_neg (of_decide_eq_false kl)]
      have e : intRow H n v = false := by simp [tSeq, tAsg, tRet, tOp, tUn, tVar, tC, rI, rI0, rU, gName, L2.start, CMul, CDiv, CPow, tIfS, tTest, rEq, rNe, scal, tNext, tCall, tCons, tNil, tCB, tIf, tAnd, L2.tOr, tNot, tB, tAndV, tOrV, tNotV, tChain, tLst, tDrop, rIxH, upd_same, cxK, intRow, hl]
      exact e ▸ q H (Ex.refl H)
    | some xs =>
      rw [hl] at kl
      rw [if_pos (of_decide_eq_true kl)]
      obtain ⟨a, rfl, ha⟩ := lstOf_some hl
      refine ⟨a, rfl, xs, .inl (Evl.sq_of ha), ?_⟩
      split
      · rename_i hn
        refine all_lc isInt (fun H1 e Q q => ⟨_, rfl, q H1 (Ex.refl H1)⟩) (Evl.sq_of ha) (by have := (hxs xs hl).1; omega) (fun x => rfl) (fun i x H1 e hi H2 e2 Q q => ?_) (fun H2 e2 => ?_)
        · simp [tSeq, tAsg, tRet, tOp, tUn, tVar, tC, rI, rI0, rU, gName, L2.start, CMul, CDiv, CPow, tIfS, tTest, rEq, rNe, scal, tNext, tCall, tCons, tNil, tCB, tIf, tAnd, L2.tOr, tNot, tB, tAndV, tOrV, tNotV, tChain, tLst, tDrop, rIxH, upd_same, cxK, wipe]
          exact ⟨x, rfl, ((hxs xs hl).2 x (List.mem_of_getElem? hi)).ex (e.trans e2), q _ H2 (Ex.refl H2) rfl⟩
        · have e : intRow H n (.ref a) = xs.all isInt := by simp [tSeq, tAsg, tRet, tOp, tUn, tVar, tC, rI, rI0, rU, gName, L2.start, CMul, CDiv, CPow, tIfS, tTest, rEq, rNe, scal, tNext, tCall, tCons, tNil, tCB, tIf, tAnd, L2.tOr, tNot, tB, tAndV, tOrV, tNotV, tChain, tLst, tDrop, rIxH, upd_same, cxK, intRow, hl, hn]
          exact e ▸ q H2 e2
      · rename_i hn
        have e : intRow H n (.ref a) = false := by simp [tSeq, tAsg, tRet, tOp, tUn, tVar, tC, rI, rI0, rU, gName, L2.start, CMul, CDiv, CPow, tIfS, tTest, rEq, rNe, scal, tNext, tCall, tCons, tNil, tCB, tIf, tAnd, L2.tOr, tNot, tB, tAndV, tOrV, tNotV, tChain, tLst, tDrop, rIxH, upd_same, cxK, intRow, hl, hn]
        exact e ▸ q H (Ex.refl H)
def spNearRow : Sp := fun vs H Q _ => ∃ v n, vs = [v, .int n] ∧ D1 H v ∧ ∀ H', Ex H H' → Q (.bl (nearRow H n v)) H'
theorem ok_is_near_row (F : FnP K "is_near_row" "is_near_row" s_is_near_row f fd) (B : Bi mg) (T_FURTHEST : Ci mg "FURTHEST" 1000000000000) (D_is_row : Df P w K mg base CX0 2 "is_row" ["thing", "many"] spIsRow) : FnOk P w K mg base CX0 3 f fd ["thing", "many"] spNearRow := by
  refine F.ok sc_is_near_row (fun vs H Q E h => ?_) (fun cdv A outer s H vs Q E hr h => ⟨_, PSs.nox
   (pss_one (ps_ret (pe_and (pe_df D_is_row (hr.mono (by decide)) (pa_cons (pv 0) (pa_cons (pv 1) pa_nil))) (pe_one (pe_callB (cr_all rfl) rfl B.all_ boot_all (pa_cons (pe_lc (own := [("number", 2)]) (g := gName 2) (tt := tYes) rfl sc_is_near_row.nd (pi_list (pv 0)) (blkOk_by (N := n_is_near_row) (sc := defScope s_is_near_row) (by decide +kernel)) (fun _ _ _ _ _ => (pg_name (i := 2) sc_is_near_row.nd rfl (Or.inl rfl))) (fun _ _ _ _ _ => pts_nil) (fun _ _ _ _ _ => (pe_chain op_le op_le (pe_un un_neg (pe_ci rfl T_FURTHEST)) (pv 2) (pe_ci rfl T_FURTHEST)))) pa_nil)))))), ?_⟩)
  · obtain ⟨v, n, rfl, _⟩ := h
    rfl
  · obtain ⟨v, n, rfl, hv, q⟩ := h
    simp [tSeq, tAsg, tRet, tOp, tUn, tVar, tC, rI, rI0, rU, gName, L2.start, CMul, CDiv, CPow, tIfS, tTest, rEq, rNe, scal, tNext, tCall, tCons, tNil, tCB, tIf, tAnd, L2.tOr, tNot, tB, tAndV, tOrV, tNotV, tChain, tLst, tDrop, rIxH, upd_same, cxK]
    refine ⟨v, n, rfl, hv, fun H1 e1 => ?_⟩
    cases hi : intRow H n v with
    | false =>
      refine .inl ⟨rfl, ?_⟩
      have e : nearRow H n v = false := by
        unfold intRow at hi
        unfold nearRow
        split
        · rename_i xs hl
          rw [hl] at hi
          have hi2 : (decide ((xs.length : Int) = n) && xs.all isInt) = false := hi
          rw [hi2]
          rfl
        · rfl
      exact e ▸ q H1 e1
    | true =>
      refine .inr ⟨rfl, ?_⟩
      cases hl : lstOf H v with
      | none => simp [tSeq, tAsg, tRet, tOp, tUn, tVar, tC, rI, rI0, rU, gName, L2.start, CMul, CDiv, CPow, tIfS, tTest, rEq, rNe, scal, tNext, tCall, tCons, tNil, tCB, tIf, tAnd, L2.tOr, tNot, tB, tAndV, tOrV, tNotV, tChain, tLst, tDrop, rIxH, upd_same, cxK, intRow, hl] at hi
      | some xs =>
        have hx := (hv.2 xs hl).1
        have hall : ∀ x ∈ xs, isInt x = true := by
          simp [tSeq, tAsg, tRet, tOp, tUn, tVar, tC, rI, rI0, rU, gName, L2.start, CMul, CDiv, CPow, tIfS, tTest, rEq, rNe, scal, tNext, tCall, tCons, tNil, tCB, tIf, tAnd, L2.tOr, tNot, tB, tAndV, tOrV, tNotV, tChain, tLst, tDrop, rIxH, upd_same, cxK, intRow, hl] at hi
          exact hi.2
        have e : nearRow H n v = xs.all nearI := by
          simp only [intRow, hl] at hi
          simp [tSeq, tAsg, tRet, tOp, tUn, tVar, tC, rI, rI0, rU, gName, L2.start, CMul, CDiv, CPow, tIfS, tTest, rEq, rNe, scal, tNext, tCall, tCons, tNil, tCB, tIf, tAnd, L2.tOr, tNot, tB, tAndV, tOrV, tNotV, tChain, tLst, tDrop, rIxH, upd_same, cxK, nearRow, hl, hi]
        obtain ⟨a, rfl, ha⟩ := lstOf_some hl
        refine all_lc nearI (fun H1 e Q q => ⟨_, rfl, q H1 (Ex.refl H1)⟩) (Evl.sq_of (e1 _ _ ha)) (by omega) (fun x => rfl) (fun i x H2 e2 hi H3 e3 Q q => ?_) (fun H2 e2 => e ▸ q H2 (e1.trans e2))
        have hint := hall x (List.mem_of_getElem? hi)
        cases x with
        | int z =>
          simp [tSeq, tAsg, tRet, tOp, tUn, tVar, tC, rI, rI0, rU, gName, L2.start, CMul, CDiv, CPow, tIfS, tTest, rEq, rNe, scal, tNext, tCall, tCons, tNil, tCB, tIf, tAnd, L2.tOr, tNot, tB, tAndV, tOrV, tNotV, tChain, tLst, tDrop, rIxH, upd_same, cxK, wipe]
          split
          · rename_i hz
            exact q _ H3 (Ex.refl H3) (by simp [tSeq, tAsg, tRet, tOp, tUn, tVar, tC, rI, rI0, rU, gName, L2.start, CMul, CDiv, CPow, tIfS, tTest, rEq, rNe, scal, tNext, tCall, tCons, tNil, tCB, tIf, tAnd, L2.tOr, tNot, tB, tAndV, tOrV, tNotV, tChain, tLst, tDrop, rIxH, upd_same, cxK, nearI, hz])
          · rename_i hz
            exact q _ H3 (Ex.refl H3) (by simp [tSeq, tAsg, tRet, tOp, tUn, tVar, tC, rI, rI0, rU, gName, L2.start, CMul, CDiv, CPow, tIfS, tTest, rEq, rNe, scal, tNext, tCall, tCons, tNil, tCB, tIf, tAnd, L2.tOr, tNot, tB, tAndV, tOrV, tNotV, tChain, tLst, tDrop, rIxH, upd_same, cxK, nearI, hz])
        | _ => cases hint
def spNearRows : Sp := fun vs H Q _ => ∃ v n, vs = [v, .int n] ∧ D2 H v ∧ ∀ H', Ex H H' → Q (.bl (tblOk H n v)) H'
theorem all_congr {α : Type} {g g' : α → Bool} : ∀ {xs : List α}, (∀ x ∈ xs, g x = g' x) → xs.all g = xs.all g'
  | [], _ => rfl
  | x :: xs, h => by rw [List.all_cons, List.all_cons, h x (by simp [tSeq, tAsg, tRet, tOp, tUn, tVar, tC, rI, rI0, rU, gName, L2.start, CMul, CDiv, CPow, tIfS, tTest, rEq, rNe, scal, tNext, tCall, tCons, tNil, tCB, tIf, tAnd, L2.tOr, tNot, tB, tAndV, tOrV, tNotV, tChain, tLst, tDrop, rIxH, upd_same, cxK]), all_congr fun y hy => h y (by simp [tSeq, tAsg, tRet, tOp, tUn, tVar, tC, rI, rI0, rU, gName, L2.start, CMul, CDiv, CPow, tIfS, tTest, rEq, rNe, scal, tNext, tCall, tCons, tNil, tCB, tIf, tAnd, L2.tOr, tNot, tB, tAndV, tOrV, tNotV, tChain, tLst, tDrop, rIxH, upd_same, cxK, hy])]
theorem ok_are_near_rows (F : FnP K "are_near_rows" "are_near_rows" s_are_near_rows f fd) (B : Bi mg) (D_is_near_row : Df P w K mg base CX0 3 "is_near_row" ["thing", "many"] spNearRow) : FnOk P w K mg base CX0 4 f fd ["thing", "many"] spNearRows := by
  refine F.ok sc_are_near_rows (fun vs H Q E h => ?_) (fun cdv A outer s H vs Q E hr h => ⟨_, PSs.nox
   (pss_one (ps_ret (pe_and (pe_cmpR op_isTy (pe_callTy call_tyK rfl B.type_ boot_type (pa_cons (pv 0) pa_nil)) (pe_bltn (v := .ty "list") rfl B.list_ boot_list rfl) (nomark _)) (pe_one (pe_callB (cr_all rfl) rfl B.all_ boot_all (pa_cons (pe_lc (own := [("row", 2)]) (g := gName 2) (tt := tYes) rfl sc_are_near_rows.nd (pi_list (pv 0)) (blkOk_by (N := n_are_near_rows) (sc := defScope s_are_near_rows) (by decide +kernel)) (fun _ _ _ _ _ => (pg_name (i := 2) sc_are_near_rows.nd rfl (Or.inl rfl))) (fun _ _ _ _ _ => pts_nil) (fun _ _ _ _ _ => (pe_df D_is_near_row (hr.mono (by decide)) (pa_cons (pv 2) (pa_cons (pv 1) pa_nil))))) pa_nil)))))), ?_⟩)
  · obtain ⟨v, n, rfl, _⟩ := h
    rfl
  · obtain ⟨v, n, rfl, hv, q⟩ := h
    obtain ⟨T, k⟩ := hv.1
    simp [tSeq, tAsg, tRet, tOp, tUn, tVar, tC, rI, rI0, rU, gName, L2.start, CMul, CDiv, CPow, tIfS, tTest, rEq, rNe, scal, tNext, tCall, tCons, tNil, tCB, tIf, tAnd, L2.tOr, tNot, tB, tAndV, tOrV, tNotV, tChain, tLst, tDrop, rIxH, upd_same, cxK]
    refine ⟨v, T, rfl, k, T, rfl, ?_⟩
    have kl := k.isList
    cases hl : lstOf H v with
    | none =>
      rw [hl] at kl
      rw [if_neg (of_decide_eq_false kl)]
      have e : tblOk H n v = false := by simp [tSeq, tAsg, tRet, tOp, tUn, tVar, tC, rI, rI0, rU, gName, L2.start, CMul, CDiv, CPow, tIfS, tTest, rEq, rNe, scal, tNext, tCall, tCons, tNil, tCB, tIf, tAnd, L2.tOr, tNot, tB, tAndV, tOrV, tNotV, tChain, tLst, tDrop, rIxH, upd_same, cxK, tblOk, hl]
      exact e ▸ q H (Ex.refl H)
    | some xs =>
      rw [hl] at kl
      rw [if_pos (of_decide_eq_true kl)]
      have hx := (hv.2 xs hl).1
      have e : tblOk H n v = xs.all (nearRow H n) := by simp [tSeq, tAsg, tRet, tOp, tUn, tVar, tC, rI, rI0, rU, gName, L2.start, CMul, CDiv, CPow, tIfS, tTest, rEq, rNe, scal, tNext, tCall, tCons, tNil, tCB, tIf, tAnd, L2.tOr, tNot, tB, tAndV, tOrV, tNotV, tChain, tLst, tDrop, rIxH, upd_same, cxK, tblOk, hl]
      obtain ⟨a, rfl, ha⟩ := lstOf_some hl
      refine all_lc (nearRow H n) (fun H1 e Q q => ⟨_, rfl, q H1 (Ex.refl H1)⟩) (Evl.sq_of ha) (by omega) (fun x => rfl) (fun i x H2 e2 hi H3 e3 Q q => ?_) (fun H2 e2 => e ▸ q H2 e2)
      have hd := (hv.2 xs hl).2 x (List.mem_of_getElem? hi)
      simp [tSeq, tAsg, tRet, tOp, tUn, tVar, tC, rI, rI0, rU, gName, L2.start, CMul, CDiv, CPow, tIfS, tTest, rEq, rNe, scal, tNext, tCall, tCons, tNil, tCB, tIf, tAnd, L2.tOr, tNot, tB, tAndV, tOrV, tNotV, tChain, tLst, tDrop, rIxH, upd_same, cxK, wipe]
      refine ⟨x, n, rfl, hd.ex (e2.trans e3), fun H4 e4 => ?_⟩
      exact q _ H4 e4 (by rw [nearRow_ex hd.1 (e2.trans e3)])
theorem all_two {α : Type} {g g' : α → Bool} : ∀ {xs : List α}, xs.all (fun x => g x && g' x) = (xs.all g && xs.all g')
  | [] => rfl
  | x :: xs => by rw [List.all_cons, List.all_cons, List.all_cons, all_two]; cases g x <;> cases g' x <;> simp [tSeq, tAsg, tRet, tOp, tUn, tVar, tC, rI, rI0, rU, gName, L2.start, CMul, CDiv, CPow, tIfS, tTest, rEq, rNe, scal, tNext, tCall, tCons, tNil, tCB, tIf, tAnd, L2.tOr, tNot, tB, tAndV, tOrV, tNotV, tChain, tLst, tDrop, rIxH, upd_same, cxK]
theorem ok_l_is_told (F : FnP K "_law_is_told" "_law_is_told" s_l_is_told f fd) (B : Bi mg) (D_l_whole : Df P w K mg base CX0 1 "_law_whole" ["_law_found"] spIsWhole) : FnOk P w K mg base CX0 2 f fd ["_law_thing", "_law_letters"] spNearRow := by
  refine F.ok sc_l_is_told (fun vs H Q E h => ?_) (fun cdv A outer s H vs Q E hr h => ⟨_, PSs.nox
   (pss_cons (ps_if (PW.pt (pw_or (pt_not (pt_val (pe_callB call_isK rfl B.isinstance_ boot_isinstance (pa_cons (pv 0) (pa_cons (pe_bltn (v := .ty "list") rfl B.list_ boot_list rfl) pa_nil))))) (pw_or1 (pt_cmpR op_ne (pe_callB call_len_seq rfl B.len_ boot_len (pa_cons (pv 0) pa_nil)) (pv 1) (nomark _)))))
      (pss_one (ps_ret pe_bl))
      pss_nil)
      (pss_one (ps_ret (pe_callB (cr_all rfl) rfl B.all_ boot_all (pa_cons (pe_lc (own := [("_law_part", 2)]) (g := gName 2) (tt := tYes) rfl sc_l_is_told.nd (pi_list (pv 0)) (blkOk_by (N := n_l_is_told) (sc := defScope s_l_is_told) (by decide +kernel)) (fun _ _ _ _ _ => (pg_name (i := 2) sc_l_is_told.nd rfl (Or.inl rfl))) (fun _ _ _ _ _ => pts_nil) (fun _ _ _ _ _ => (pe_and (pe_df D_l_whole (hr.mono (by decide)) (pa_cons (pv 2) pa_nil)) (pe_one (pe_chain op_le op_le (pe_un un_neg (pe_op op_pow pe_int pe_int)) (pv 2) (pe_op op_pow pe_int pe_int)))))) pa_nil))))), ?_⟩)
  · obtain ⟨v, n, rfl, _⟩ := h
    rfl
  · obtain ⟨v, n, rfl, hv, q⟩ := h
    obtain ⟨T, k⟩ := hv.1
    simp [tSeq, tAsg, tRet, tOp, tUn, tVar, tC, rI, rI0, rU, gName, L2.start, CMul, CDiv, CPow, tIfS, tTest, rEq, rNe, scal, tNext, tCall, tCons, tNil, tCB, tIf, tAnd, L2.tOr, tNot, tB, tAndV, tOrV, tNotV, tChain, tLst, tDrop, rIxH, upd_same, cxK]
    refine ⟨v, T, "list", _, rfl, k, k.kList, ?_⟩
    simp [tSeq, tAsg, tRet, tOp, tUn, tVar, tC, rI, rI0, rU, gName, L2.start, CMul, CDiv, CPow, tIfS, tTest, rEq, rNe, scal, tNext, tCall, tCons, tNil, tCB, tIf, tAnd, L2.tOr, tNot, tB, tAndV, tOrV, tNotV, tChain, tLst, tDrop, rIxH, upd_same, cxK]
    cases hl : lstOf H v with
    | none =>
      have e : nearRow H n v = false := by simp [tSeq, tAsg, tRet, tOp, tUn, tVar, tC, rI, rI0, rU, gName, L2.start, CMul, CDiv, CPow, tIfS, tTest, rEq, rNe, scal, tNext, tCall, tCons, tNil, tCB, tIf, tAnd, L2.tOr, tNot, tB, tAndV, tOrV, tNotV, tChain, tLst, tDrop, rIxH, upd_same, cxK, nearRow, hl]
      exact .inl ⟨rfl, e ▸ q H (Ex.refl H)⟩
    | some xs =>
      have hx := (hv.2 xs hl).1
      obtain ⟨a, rfl, ha⟩ := lstOf_some hl
      refine .inr ⟨rfl, a, rfl, xs, .inl (Evl.sq_of ha), ?_⟩
      by_cases hn : (xs.length : Int) = n
      · refine .inl ⟨hn, ?_⟩
        have e : nearRow H n (.ref a) = xs.all (fun x => isInt x && nearI x) := by simp [tSeq, tAsg, tRet, tOp, tUn, tVar, tC, rI, rI0, rU, gName, L2.start, CMul, CDiv, CPow, tIfS, tTest, rEq, rNe, scal, tNext, tCall, tCons, tNil, tCB, tIf, tAnd, L2.tOr, tNot, tB, tAndV, tOrV, tNotV, tChain, tLst, tDrop, rIxH, upd_same, cxK, nearRow, hl, hn, all_two]
        refine all_lc (fun x => isInt x && nearI x) (fun H1 e Q q => ⟨_, rfl, q H1 (Ex.refl H1)⟩) (Evl.sq_of ha) (by omega) (fun x => rfl) (fun i x H2 e2 hi H3 e3 Q q => ?_) (fun H2 e2 => e ▸ q H2 e2)
        simp [tSeq, tAsg, tRet, tOp, tUn, tVar, tC, rI, rI0, rU, gName, L2.start, CMul, CDiv, CPow, tIfS, tTest, rEq, rNe, scal, tNext, tCall, tCons, tNil, tCB, tIf, tAnd, L2.tOr, tNot, tB, tAndV, tOrV, tNotV, tChain, tLst, tDrop, rIxH, upd_same, cxK, wipe]
        refine ⟨x, rfl, ((hv.2 xs hl).2 x (List.mem_of_getElem? hi)).ex (e2.trans e3), ?_⟩
        cases x with
        | int z =>
          refine .inr ⟨rfl, ?_⟩
          simp [tSeq, tAsg, tRet, tOp, tUn, tVar, tC, rI, rI0, rU, gName, L2.start, CMul, CDiv, CPow, tIfS, tTest, rEq, rNe, scal, tNext, tCall, tCons, tNil, tCB, tIf, tAnd, L2.tOr, tNot, tB, tAndV, tOrV, tNotV, tChain, tLst, tDrop, rIxH, upd_same, cxK]
          split
          · rename_i hz
            exact q _ H3 (Ex.refl H3) (by simp [tSeq, tAsg, tRet, tOp, tUn, tVar, tC, rI, rI0, rU, gName, L2.start, CMul, CDiv, CPow, tIfS, tTest, rEq, rNe, scal, tNext, tCall, tCons, tNil, tCB, tIf, tAnd, L2.tOr, tNot, tB, tAndV, tOrV, tNotV, tChain, tLst, tDrop, rIxH, upd_same, cxK, isInt, nearI, hz])
          · rename_i hz
            exact q _ H3 (Ex.refl H3) (by simp [tSeq, tAsg, tRet, tOp, tUn, tVar, tC, rI, rI0, rU, gName, L2.start, CMul, CDiv, CPow, tIfS, tTest, rEq, rNe, scal, tNext, tCall, tCons, tNil, tCB, tIf, tAnd, L2.tOr, tNot, tB, tAndV, tOrV, tNotV, tChain, tLst, tDrop, rIxH, upd_same, cxK, isInt, nearI, hz])
        | _ => exact .inl ⟨rfl, q _ H3 (Ex.refl H3) rfl⟩
      · have e : nearRow H n (.ref a) = false := by simp [tSeq, tAsg, tRet, tOp, tUn, tVar, tC, rI, rI0, rU, gName, L2.start, CMul, CDiv, CPow, tIfS, tTest, rEq, rNe, scal, tNext, tCall, tCons, tNil, tCB, tIf, tAnd, L2.tOr, tNot, tB, tAndV, tOrV, tNotV, tChain, tLst, tDrop, rIxH, upd_same, cxK, nearRow, hl, hn]
        exact .inr ⟨hn, e ▸ q H (Ex.refl H)⟩
def badL : V → Bool
  | .int i => !(decide (0 ≤ i) && decide (i ≤ 6))
  | _ => true
/-- what the law's look at both tells -/
def dueOf (H : Hp) (l v : V) : Str := if badL l = true then "letters" else match l with
  | .int n => if tblOk H n v = true then (if (16 : Int) < ((lstOf H v).getD []).length then "many" else "") else "sum"
  | _ => "letters"
def spDue : Sp := fun vs H Q _ => ∃ l v, vs = [l, v] ∧ D0 H l ∧ D2 H v ∧ ∀ H', Ex H H' → Q (.str (dueOf H l v)) H'
theorem ok_l_due (F : FnP K "_law_due" "_law_due" s_l_due f fd) (B : Bi mg) (D_l_whole : Df P w K mg base CX0 1 "_law_whole" ["_law_found"] spIsWhole) (D_l_is_told : Df P w K mg base CX0 2 "_law_is_told" ["_law_thing", "_law_letters"] spNearRow) : FnOk P w K mg base CX0 3 f fd ["_law_letters", "_law_nothings"] spDue := by
  refine F.ok sc_l_due (fun vs H Q E h => ?_) (fun cdv A outer s H vs Q E hr h => ⟨_, PSs.nox
   (pss_cons (ps_if (PW.pt (pw_or (pt_not (pt_val (pe_df D_l_whole (hr.mono (by decide)) (pa_cons (pv 0) pa_nil)))) (pw_or1 (pt_not (pt_chain op_le op_le pe_int (pv 0) pe_int)))))
      (pss_one (ps_ret pe_str))
      pss_nil)
      (pss_cons (ps_if (PW.pt (pw_or (pt_not (pt_val (pe_callB call_isK rfl B.isinstance_ boot_isinstance (pa_cons (pv 1) (pa_cons (pe_bltn (v := .ty "list") rfl B.list_ boot_list rfl) pa_nil))))) (pw_or1 (pt_not (pt_val (pe_callB (cr_all rfl) rfl B.all_ boot_all (pa_cons (pe_lc (own := [("_law_one", 2)]) (g := gName 2) (tt := tYes) rfl sc_l_due.nd (pi_list (pv 1)) (blkOk_by (N := n_l_due) (sc := defScope s_l_due) (by decide +kernel)) (fun _ _ _ _ _ => (pg_name (i := 2) sc_l_due.nd rfl (Or.inl rfl))) (fun _ _ _ _ _ => pts_nil) (fun _ _ _ _ _ => (pe_df D_l_is_told (hr.mono (by decide)) (pa_cons (pv 2) (pa_cons (pv 0) pa_nil))))) pa_nil)))))))
      (pss_one (ps_ret pe_str))
      pss_nil)
      (pss_one (ps_ret (pe_ifExp (pt_cmpR op_gt (pe_callB call_len_seq rfl B.len_ boot_len (pa_cons (pv 1) pa_nil)) pe_int (nomark _)) pe_str pe_str))))), ?_⟩)
  · obtain ⟨l, v, rfl, _⟩ := h
    rfl
  · obtain ⟨l, v, rfl, hl, hv, q⟩ := h
    obtain ⟨T, k⟩ := hv.1
    simp [tSeq, tAsg, tRet, tOp, tUn, tVar, tC, rI, rI0, rU, gName, L2.start, CMul, CDiv, CPow, tIfS, tTest, rEq, rNe, scal, tNext, tCall, tCons, tNil, tCB, tIf, tAnd, L2.tOr, tNot, tB, tAndV, tOrV, tNotV, tChain, tLst, tDrop, rIxH, upd_same, cxK]
    refine ⟨l, rfl, hl, ?_⟩
    have bad : badL l = true → ∀ H', Ex H H' → Q (.str "letters") H' := fun h H' e => by
      have z := q H' e
      unfold dueOf at z
      rw [if_pos h] at z
      exact z
    cases l with
    | int n =>
      refine .inr ⟨rfl, n, rfl, ?_⟩
      by_cases h0 : 0 ≤ n
      · rw [if_pos h0]
        refine ⟨n, rfl, ?_⟩
        by_cases h6 : n ≤ 6
        · rw [if_pos h6]
          have hb : ¬ badL (.int n) = true := by simp [tSeq, tAsg, tRet, tOp, tUn, tVar, tC, rI, rI0, rU, gName, L2.start, CMul, CDiv, CPow, tIfS, tTest, rEq, rNe, scal, tNext, tCall, tCons, tNil, tCB, tIf, tAnd, L2.tOr, tNot, tB, tAndV, tOrV, tNotV, tChain, tLst, tDrop, rIxH, upd_same, cxK, badL, h0, h6]
          have due : dueOf H (.int n) v = if tblOk H n v = true then (if (16 : Int) < ((lstOf H v).getD []).length then ("many" : Str) else ("" : Str)) else ("sum" : Str) := if_neg hb
          rw [due] at q
          refine ⟨v, T, "list", _, rfl, k, k.kList, ?_⟩
          simp [tSeq, tAsg, tRet, tOp, tUn, tVar, tC, rI, rI0, rU, gName, L2.start, CMul, CDiv, CPow, tIfS, tTest, rEq, rNe, scal, tNext, tCall, tCons, tNil, tCB, tIf, tAnd, L2.tOr, tNot, tB, tAndV, tOrV, tNotV, tChain, tLst, tDrop, rIxH, upd_same, cxK]
          cases hlv : lstOf H v with
          | none =>
            refine .inl ⟨rfl, ?_⟩
            have e : tblOk H n v = false := by simp [tSeq, tAsg, tRet, tOp, tUn, tVar, tC, rI, rI0, rU, gName, L2.start, CMul, CDiv, CPow, tIfS, tTest, rEq, rNe, scal, tNext, tCall, tCons, tNil, tCB, tIf, tAnd, L2.tOr, tNot, tB, tAndV, tOrV, tNotV, tChain, tLst, tDrop, rIxH, upd_same, cxK, tblOk, hlv]
            have z := q H (Ex.refl H)
            rw [e] at z
            exact z
          | some xs =>
            refine .inr ⟨rfl, ?_⟩
            have hx := (hv.2 xs hlv).1
            have e : tblOk H n v = xs.all (nearRow H n) := by simp [tSeq, tAsg, tRet, tOp, tUn, tVar, tC, rI, rI0, rU, gName, L2.start, CMul, CDiv, CPow, tIfS, tTest, rEq, rNe, scal, tNext, tCall, tCons, tNil, tCB, tIf, tAnd, L2.tOr, tNot, tB, tAndV, tOrV, tNotV, tChain, tLst, tDrop, rIxH, upd_same, cxK, tblOk, hlv]
            have el : (lstOf H v).getD [] = xs := by rw [hlv]; rfl
            rw [el] at q
            obtain ⟨a, rfl, ha⟩ := lstOf_some hlv
            refine all_lc (nearRow H n) (fun H1 e Q q => ⟨_, rfl, q H1 (Ex.refl H1)⟩) (Evl.sq_of ha) (by omega) (fun x => rfl) (fun i x H2 e2 hi H3 e3 Q q => ?_) (fun H2 e2 => ?_)
            · have hd := (hv.2 xs hlv).2 x (List.mem_of_getElem? hi)
              simp [tSeq, tAsg, tRet, tOp, tUn, tVar, tC, rI, rI0, rU, gName, L2.start, CMul, CDiv, CPow, tIfS, tTest, rEq, rNe, scal, tNext, tCall, tCons, tNil, tCB, tIf, tAnd, L2.tOr, tNot, tB, tAndV, tOrV, tNotV, tChain, tLst, tDrop, rIxH, upd_same, cxK, wipe]
              refine ⟨x, n, rfl, hd.ex (e2.trans e3), fun H4 e4 => ?_⟩
              exact q _ H4 e4 (by rw [nearRow_ex hd.1 (e2.trans e3)])
            · have z := q H2 e2
              rw [e] at z
              cases ht : xs.all (nearRow H n) with
              | false =>
                rw [ht] at z
                exact .inl ⟨rfl, z⟩
              | true =>
                rw [ht] at z
                refine .inr ⟨rfl, a, rfl, xs, .inl (Evl.sq_of (e2 _ _ ha)), ?_⟩
                rw [if_pos rfl] at z
                split
                · rename_i h
                  rw [if_pos h] at z
                  exact z
                · rename_i h
                  rw [if_neg h] at z
                  exact z
        · rw [if_neg h6]
          exact bad (by simp [tSeq, tAsg, tRet, tOp, tUn, tVar, tC, rI, rI0, rU, gName, L2.start, CMul, CDiv, CPow, tIfS, tTest, rEq, rNe, scal, tNext, tCall, tCons, tNil, tCB, tIf, tAnd, L2.tOr, tNot, tB, tAndV, tOrV, tNotV, tChain, tLst, tDrop, rIxH, upd_same, cxK, badL, h6]) H (Ex.refl H)
      · rw [if_neg h0]
        exact bad (by simp [tSeq, tAsg, tRet, tOp, tUn, tVar, tC, rI, rI0, rU, gName, L2.start, CMul, CDiv, CPow, tIfS, tTest, rEq, rNe, scal, tNext, tCall, tCons, tNil, tCB, tIf, tAnd, L2.tOr, tNot, tB, tAndV, tOrV, tNotV, tChain, tLst, tDrop, rIxH, upd_same, cxK, badL, h0]) H (Ex.refl H)
    | _ => exact .inl ⟨rfl, bad rfl H (Ex.refl H)⟩
end
end Sr
namespace Sr
open PySem PySem.Spec PyProof.Rows L2
open Evl (Ex Ev EvL EvU EvT EvA RetL RetV)
section
variable {P : Program} {w : World} {K : PySem.W.Frag} {mg : Str → Option Value} {base : Heap} {f : Addr} {fd : FuncData}
/-- Room's making: x new; what it raises, or the room -/
def spInit (C CL CS CT : Addr) : Sp := fun vs H Q E => ∃ (x dx : Addr) (l v : V), vs = [.ref x, l, v] ∧ H x = some (.ins C dx []) ∧ D0 H l ∧ D2 H v ∧
  (badL l = true → E (.ref CL) none H) ∧
  (∀ n, l = .int n → badL l = false → v ≠ .non → tblOk H n v = false → ∀ H', Ex H H' → E (.ref CS) none H') ∧
  (∀ n a xs, l = .int n → badL l = false → v = .ref a → H a = some (.lst xs) → tblOk H n v = true → 16 < xs.length → ∀ H', Ex H H' → E (.ref CT) none H') ∧
  (∀ n ln rs nss H', l = .int n → badL l = false → (v = .non ∧ nss = [] ∨ ∃ a as, v = .ref a ∧ H a = some (.lst (as.map V.ref)) ∧ RowsL H as nss ∧ as.length ≤ 16 ∧ ∀ ns ∈ nss, (ns.length : Int) = n ∧ Near ns) →
    RoomAt H' C x n ln rs nss → NewR H ln rs → (∀ b o, b ≠ x → H b = some o → H' b = some o) → Q .non H')
theorem ok_Room_init {C CL CS CT : Addr} (F : FunD K "__init__" "Room.__init__" (defArgs s_Room_init) (defBody s_Room_init) (defScope s_Room_init) [.non] [] f fd) (B : Bi mg) (R : Rc K C) (X_BadLetters : Xc K mg "BadLetters" CL) (X_BadSum : Xc K mg "BadSum" CS) (X_TooMany : Xc K mg "TooMany" CT)
    (T_MOST_LETTERS : Ci mg "MOST_LETTERS" 6) (T_MOST_NOTHINGS : Ci mg "MOST_NOTHINGS" 16)
    (D_is_whole : Df P w K mg base CX0 1 "is_whole" ["thing"] spIsWhole) (D_are_near_rows : Df P w K mg base CX0 4 "are_near_rows" ["thing", "many"] spNearRows) : FnOk P w K mg base (L2.CX P w) 5 f fd ["self", "letters", "nothings"] (spInit C CL CS CT) := by
  refine funD_okX F sc_Room_init (fun vs H Q E h => ?_) (fun cdv A outer s H vs Q E hr h => ⟨_,
   (pss_cons (ps_if (PW.pt (pw_or (pt_not (pt_val (pe_df D_is_whole (hr.mono (by decide)) (pa_cons (pv 1) pa_nil)))) (pw_or (pt_cmpR op_lt (pv 1) pe_int (nomark _)) (pw_or1 (pt_cmpR op_gt (pv 1) (pe_ci rfl T_MOST_LETTERS) (nomark _))))))
      (pss_one (ps_raise rfl (takes_of rfl rfl rfl rfl) (pmk_own PySem.F.excBase_ValueError X_BadLetters.ex X_BadLetters.g X_BadLetters.kp (raises_own X_BadLetters.b X_BadLetters.t) rfl)))
      pss_nil)
      (Evl.pss_cut (ps_set (i := 3) sc_Room_init.nd rfl (Or.inl rfl) (pe_ifExp (pt_cmp (pc_isN (pv 2))) (pe_lst pa_nil) (pv 2)))
      (pss_cons (ps_if (pt_not (pt_val (pe_df D_are_near_rows (hr.mono (by decide)) (pa_cons (pv 3) (pa_cons (pv 1) pa_nil)))))
      (pss_one (ps_raise rfl (takes_of rfl rfl rfl rfl) (pmk_own PySem.F.excBase_ValueError X_BadSum.ex X_BadSum.g X_BadSum.kp (raises_own X_BadSum.b X_BadSum.t) rfl)))
      pss_nil)
      (pss_cons (ps_if (pt_cmpR op_gt (pe_callB call_len_seq rfl B.len_ boot_len (pa_cons (pv 3) pa_nil)) (pe_ci rfl T_MOST_NOTHINGS) (nomark _))
      (pss_one (ps_raise rfl (takes_of rfl rfl rfl rfl) (pmk_own PySem.F.excBase_ValueError X_TooMany.ex X_TooMany.g X_TooMany.kp (raises_own X_TooMany.b X_TooMany.t) rfl)))
      pss_nil)
      (pss_cons (ps_fld (pv 0) (pv 1) rfl)
      (pss_cons (ps_fld (pv 0) (pe_lc (own := [("row", 4)]) (g := gName 4) (tt := tYes) rfl sc_Room_init.nd (pi_list (pv 3)) (blkOk_by (N := n_Room_init) (sc := defScope s_Room_init) (by decide +kernel)) (fun _ _ _ _ _ => (pg_name (i := 4) sc_Room_init.nd rfl (Or.inl rfl))) (fun _ _ _ _ _ => pts_nil) (fun _ _ _ _ _ => (pe_callTy (r := Evl.rListS K) call_list_of rfl B.list_ boot_list (pa_cons (pv 4) pa_nil)))) rfl)
      (pss_one (ps_fld (pv 0) pe_non rfl)))))))), ?_⟩)
  · obtain ⟨x, dx, l, v, rfl, _⟩ := h
    rfl
  · obtain ⟨x, dx, l, v, rfl, hx, hl, hv, q1, q2, q3, q4⟩ := h
    simp [tSeq, tAsg, tRet, tOp, tUn, tVar, tC, rI, rI0, rU, gName, L2.start, CMul, CDiv, CPow, tIfS, tTest, rEq, rNe, scal, tNext, tCall, tCons, tNil, tCB, tIf, tAnd, L2.tOr, tNot, tB, tAndV, tOrV, tNotV, tChain, tLst, tDrop, rIxH, upd_same, cxK, tIsN, sFld, tFld, Evl.rListS]
    refine ⟨l, rfl, hl, ?_⟩
    cases l with
    | int n =>
      refine .inr ⟨rfl, n, rfl, ?_⟩
      by_cases h0 : n < 0
      · rw [if_pos h0]
        exact q1 (by simp [tSeq, tAsg, tRet, tOp, tUn, tVar, tC, rI, rI0, rU, gName, L2.start, CMul, CDiv, CPow, tIfS, tTest, rEq, rNe, scal, tNext, tCall, tCons, tNil, tCB, tIf, tAnd, L2.tOr, tNot, tB, tAndV, tOrV, tNotV, tChain, tLst, tDrop, rIxH, upd_same, cxK, tIsN, sFld, tFld, Evl.rListS, badL]; omega)
      rw [if_neg h0]
      refine ⟨n, rfl, ?_⟩
      by_cases h6 : 6 < n
      · rw [if_pos h6]
        exact q1 (by simp [tSeq, tAsg, tRet, tOp, tUn, tVar, tC, rI, rI0, rU, gName, L2.start, CMul, CDiv, CPow, tIfS, tTest, rEq, rNe, scal, tNext, tCall, tCons, tNil, tCB, tIf, tAnd, L2.tOr, tNot, tB, tAndV, tOrV, tNotV, tChain, tLst, tDrop, rIxH, upd_same, cxK, tIsN, sFld, tFld, Evl.rListS, badL]; omega)
      rw [if_neg h6]
      have hb : badL (.int n) = false := by simp [tSeq, tAsg, tRet, tOp, tUn, tVar, tC, rI, rI0, rU, gName, L2.start, CMul, CDiv, CPow, tIfS, tTest, rEq, rNe, scal, tNext, tCall, tCons, tNil, tCB, tIf, tAnd, L2.tOr, tNot, tB, tAndV, tOrV, tNotV, tChain, tLst, tDrop, rIxH, upd_same, cxK, tIsN, sFld, tFld, Evl.rListS, badL]; omega
      refine ⟨fun σ' H' => ∃ rv, σ' = [some (.ref x), some (.int n), some v, some rv, none] ∧ Ex H H' ∧ D2 H' rv ∧ (v = .non ∧ lstOf H' rv = some [] ∧ tblOk H' n rv = true ∨ v ≠ .non ∧ rv = v), ?_, ?_⟩
      · simp [tSeq, tAsg, tRet, tOp, tUn, tVar, tC, rI, rI0, rU, gName, L2.start, CMul, CDiv, CPow, tIfS, tTest, rEq, rNe, scal, tNext, tCall, tCons, tNil, tCB, tIf, tAnd, L2.tOr, tNot, tB, tAndV, tOrV, tNotV, tChain, tLst, tDrop, rIxH, upd_same, cxK, tIsN, sFld, tFld, Evl.rListS]
        by_cases hvn : v = .non
        · rw [if_pos hvn]
          intro p hp
          have hk : lstOf (upd H p (.lst [])) (.ref p) = some [] := lstOf_of upd_same
          exact ⟨ev_up hp, ⟨⟨_, .lst upd_same⟩, fun xs hxs => by
            rw [hk] at hxs
            cases hxs
            exact ⟨by simp [tSeq, tAsg, tRet, tOp, tUn, tVar, tC, rI, rI0, rU, gName, L2.start, CMul, CDiv, CPow, tIfS, tTest, rEq, rNe, scal, tNext, tCall, tCons, tNil, tCB, tIf, tAnd, L2.tOr, tNot, tB, tAndV, tOrV, tNotV, tChain, tLst, tDrop, rIxH, upd_same, cxK, tIsN, sFld, tFld, Evl.rListS], fun y hy => by cases hy⟩⟩, .inl ⟨hvn, hk, by simp [tSeq, tAsg, tRet, tOp, tUn, tVar, tC, rI, rI0, rU, gName, L2.start, CMul, CDiv, CPow, tIfS, tTest, rEq, rNe, scal, tNext, tCall, tCons, tNil, tCB, tIf, tAnd, L2.tOr, tNot, tB, tAndV, tOrV, tNotV, tChain, tLst, tDrop, rIxH, upd_same, cxK, tIsN, sFld, tFld, Evl.rListS, tblOk, hk]⟩⟩
        · rw [if_neg hvn]
          exact ⟨Ex.refl H, hv, .inr hvn⟩
      · rintro σ' H1 ⟨rv, rfl, e1, hrv, hcase⟩
        simp [tSeq, tAsg, tRet, tOp, tUn, tVar, tC, rI, rI0, rU, gName, L2.start, CMul, CDiv, CPow, tIfS, tTest, rEq, rNe, scal, tNext, tCall, tCons, tNil, tCB, tIf, tAnd, L2.tOr, tNot, tB, tAndV, tOrV, tNotV, tChain, tLst, tDrop, rIxH, upd_same, cxK, tIsN, sFld, tFld, Evl.rListS]
        refine ⟨rv, n, rfl, hrv, fun H2 e2 => ?_⟩
        cases ht : tblOk H1 n rv with
        | false =>
          refine .inl ⟨rfl, ?_⟩
          rcases hcase with ⟨_, _, h⟩ | ⟨h1, rfl⟩
          · rw [h] at ht
            cases ht
          · exact q2 n rfl hb h1 (by rw [← tblOk_ex hv e1]; exact ht) H2 (e1.trans e2)
        | true =>
          refine .inr ⟨rfl, ?_⟩
          obtain ⟨a, as, nss, rfl, ha, hr, hns⟩ := tbl_rows ht
          refine ⟨a, rfl, _, .inl (Evl.sq_of (e2 _ _ ha)), ?_⟩
          split
          · rename_i hbig
            rcases hcase with ⟨_, h, _⟩ | ⟨h1, rfl⟩
            · rw [lstOf_of ha] at h
              rw [Option.some.inj h] at hbig
              simp [tSeq, tAsg, tRet, tOp, tUn, tVar, tC, rI, rI0, rU, gName, L2.start, CMul, CDiv, CPow, tIfS, tTest, rEq, rNe, scal, tNext, tCall, tCons, tNil, tCB, tIf, tAnd, L2.tOr, tNot, tB, tAndV, tOrV, tNotV, tChain, tLst, tDrop, rIxH, upd_same, cxK, tIsN, sFld, tFld, Evl.rListS] at hbig
            · obtain ⟨b, hb1, hb2⟩ := lstOf_some ((hv.1.lst_ex e1).symm.trans (lstOf_of ha))
              cases hb1
              exact q3 n a _ rfl hb rfl hb2 (by rw [← tblOk_ex hv e1]; exact ht) (by omega) H2 (e1.trans e2)
          · rename_i hsm
            have e12 := e1.trans e2
            refine ⟨C, dx, [], e12 _ _ hx, R.cl, R.nL, by simp [tSeq, tAsg, tRet, tOp, tUn, tVar, tC, rI, rI0, rU, gName, L2.start, CMul, CDiv, CPow, tIfS, tTest, rEq, rNe, scal, tNext, tCall, tCons, tNil, tCB, tIf, tAnd, L2.tOr, tNot, tB, tAndV, tOrV, tNotV, tChain, tLst, tDrop, rIxH, upd_same, cxK, tIsN, sFld, tFld, Evl.rListS], ?_⟩
            have ax : a ≠ x := fun z => by
              rw [z] at ha
              have := e1 _ _ hx
              rw [ha] at this
              cases this
            generalize hH3 : upd H2 x (.ins C dx (putF (Str.ofString "_letters") (.int n) [])) = H3
            have e23 : ∀ b o, b ≠ x → H2 b = some o → H3 b = some o := fun b o hb he => by
              rw [← hH3, upd_ne hb]
              exact he
            have asx : ∀ r ∈ as, r ≠ x := fun r hr' z => by
              obtain ⟨k, hk⟩ := List.mem_iff_getElem?.mp hr'
              obtain ⟨ns, _, h2⟩ := hr.get hk
              rw [z] at h2
              have := e1 _ _ hx
              rw [h2] at this
              cases this
            have hr3 : RowsL H3 as nss := (hr.ex e2).of fun r hr' o he => e23 r o (asx r hr') he
            have ha3 : H3 a = some (.lst (as.map V.ref)) := e23 _ _ ax (e2 _ _ ha)
            have hlen := hr.len
            have hlx : as.length ≤ 16 := by
              rw [List.length_map] at hsm
              omega
            refine lcRows nss (fun H1 e Q q => ⟨_, rfl, q H1 (Ex.refl H1)⟩) (Evl.sq_of ha3) (by simp [tSeq, tAsg, tRet, tOp, tUn, tVar, tC, rI, rI0, rU, gName, L2.start, CMul, CDiv, CPow, tIfS, tTest, rEq, rNe, scal, tNext, tCall, tCons, tNil, tCB, tIf, tAnd, L2.tOr, tNot, tB, tAndV, tOrV, tNotV, tChain, tLst, tDrop, rIxH, upd_same, cxK, tIsN, sFld, tFld, Evl.rListS, hlen]) (by simp [tSeq, tAsg, tRet, tOp, tUn, tVar, tC, rI, rI0, rU, gName, L2.start, CMul, CDiv, CPow, tIfS, tTest, rEq, rNe, scal, tNext, tCall, tCons, tNil, tCB, tIf, tAnd, L2.tOr, tNot, tB, tAndV, tOrV, tNotV, tChain, tLst, tDrop, rIxH, upd_same, cxK, tIsN, sFld, tFld, Evl.rListS]; omega) (fun x => rfl) (fun i y ns H4 e4 hi hg => ?_) H3 (Ex.refl H3) _ ?_
            · intro H5 e5 Q q
              simp [tSeq, tAsg, tRet, tOp, tUn, tVar, tC, rI, rI0, rU, gName, L2.start, CMul, CDiv, CPow, tIfS, tTest, rEq, rNe, scal, tNext, tCall, tCons, tNil, tCB, tIf, tAnd, L2.tOr, tNot, tB, tAndV, tOrV, tNotV, tChain, tLst, tDrop, rIxH, upd_same, cxK, tIsN, sFld, tFld, Evl.rListS, wipe]
              rw [List.getElem?_map] at hi
              cases hi2 : as[i]? with
              | none =>
                rw [hi2] at hi
                cases hi
              | some r =>
                rw [hi2] at hi
                cases hi
                obtain ⟨ns2, hn2, hr2⟩ := hr3.get hi2
                rw [hg] at hn2
                cases hn2
                exact ⟨r, rfl, _, .inl (Evl.sq_of ((e4.trans e5) _ _ hr2)), fun l hl => q l _ hl (ev_up hl) upd_same⟩
            · rintro _ H4 e4 ⟨p, qs, rfl, hp, hp2, hq, hqs⟩
              have h4x : H4 x = some (.ins C dx (putF (Str.ofString "_letters") (.int n) [])) := e4 _ _ (by rw [← hH3]; exact upd_same)
              refine ⟨C, dx, _, h4x, R.cl, R.nN, Nat.lt_of_le_of_lt (putF_len _ _ _) (by decide), C, dx, _, ⟨rfl, rfl, rfl⟩, R.cl, R.nP, Nat.lt_of_le_of_lt (putF_len _ _ _) (Nat.lt_of_le_of_lt (Nat.succ_le_succ (putF_len _ _ _)) (by decide)), ?_⟩
              rw [upd_upd, room_fs]
              have px : p ≠ x := fun z => by
                rw [z, ← hH3, upd_same] at hp
                cases hp
              have fresh3 : ∀ b, H3 b = none → H b = none := fun b hb => by
                have bx : b ≠ x := fun z => by
                  rw [z, ← hH3, upd_same] at hb
                  cases hb
                refine Evl.fresh_back e12 ?_
                rw [← hH3, upd_ne bx] at hb
                exact hb
              have qx : ∀ r ∈ qs, r ≠ x := fun r hr' z => by
                have := (hqs r hr').1
                rw [z, ← hH3, upd_same] at this
                cases this
              refine q4 n p qs nss _ rfl hb ?_ ⟨⟨dx, upd_same⟩, by rw [upd_ne px]; exact hp2, hq.upd qx⟩ ⟨fresh3 p hp, fun r hr' => fresh3 r (hqs r hr').1⟩ (fun b o hb he => by rw [upd_ne hb]; exact e4 _ _ (e23 b o hb (e12 _ _ he)))
              rcases hcase with ⟨h1, h, _⟩ | ⟨h1, rfl⟩
              · rw [lstOf_of ha] at h
                have z := Option.some.inj h
                rw [List.map_eq_nil_iff] at z
                subst z
                refine .inl ⟨h1, ?_⟩
                have := hlen
                simp [tSeq, tAsg, tRet, tOp, tUn, tVar, tC, rI, rI0, rU, gName, L2.start, CMul, CDiv, CPow, tIfS, tTest, rEq, rNe, scal, tNext, tCall, tCons, tNil, tCB, tIf, tAnd, L2.tOr, tNot, tB, tAndV, tOrV, tNotV, tChain, tLst, tDrop, rIxH, upd_same, cxK, tIsN, sFld, tFld, Evl.rListS] at this
                exact List.eq_nil_of_length_eq_zero this.symm
              · obtain ⟨b, hb1, hb2⟩ := lstOf_some ((hv.1.lst_ex e1).symm.trans (lstOf_of ha))
                cases hb1
                refine .inr ⟨a, as, rfl, hb2, ?_, hlx, hns⟩
                have ht0 : tblOk H n (.ref a) = true := by rw [← tblOk_ex hv e1]; exact ht
                obtain ⟨a2, as2, nss2, e, ha2, hr2, _⟩ := tbl_rows ht0
                cases e
                rw [hb2] at ha2
                have ea : as = as2 := refs_inj (by injection ha2 with z; injection z)
                subst ea
                rw [hr.fn (hr2.ex e1)]
                exact hr2
    | _ => exact .inl ⟨rfl, q1 rfl⟩
def spLetters (C : Addr) : Sp := fun vs H Q _ => ∃ x n ln rs nss, vs = [.ref x] ∧ RoomAt H C x n ln rs nss ∧ Q (.int n) H
theorem ok_Room_letters {C : Addr} (F : FnP K "letters" "Room.letters" s_Room_letters f fd) (R : Rc K C) : FnOk P w K mg base CX0 1 f fd ["self"] (spLetters C) := by
  refine F.ok sc_Room_letters (fun vs H Q E h => ?_) (fun cdv A outer s H vs Q E hr h => ⟨_, PSs.nox
   (pss_one (ps_ret (pe_fld (pv 0) rfl))), ?_⟩)
  · obtain ⟨x, n, ln, rs, nss, rfl, _⟩ := h
    rfl
  · obtain ⟨x, n, ln, rs, nss, rfl, ⟨⟨dx, h1⟩, h2, h3⟩, q⟩ := h
    exact ⟨_, rfl, x, C, dx, _, _, rfl, h1, R.cl, R.nL, by rfl, q⟩
def spNothings (C : Addr) : Sp := fun vs H Q _ => ∃ x n ln rs nss, vs = [.ref x] ∧ RoomAt H C x n ln rs nss ∧ nss.length ≤ 30 ∧ ∀ p qs H', NewR H p qs → Ex H H' → H' p = some (.lst (qs.map V.ref)) → RowsL H' qs nss → p ∉ qs → Q (.ref p) H'
theorem ok_Room_nothings {C : Addr} (F : FnP K "nothings" "Room.nothings" s_Room_nothings f fd) (B : Bi mg) (R : Rc K C) : FnOk P w K mg base CX0 1 f fd ["self"] (spNothings C) := by
  refine F.ok sc_Room_nothings (fun vs H Q E h => ?_) (fun cdv A outer s H vs Q E hr h => ⟨_, PSs.nox
   (pss_one (ps_ret (pe_lc (own := [("row", 1)]) (g := gName 1) (tt := tYes) rfl sc_Room_nothings.nd (pi_list (pe_fld (pv 0) rfl)) (blkOk_by (N := n_Room_nothings) (sc := defScope s_Room_nothings) (by decide +kernel)) (fun _ _ _ _ _ => (pg_name (i := 1) sc_Room_nothings.nd rfl (Or.inl rfl))) (fun _ _ _ _ _ => pts_nil) (fun _ _ _ _ _ => (pe_callTy (r := Evl.rListS K) call_list_of rfl B.list_ boot_list (pa_cons (pv 1) pa_nil)))))), ?_⟩)
  · obtain ⟨x, n, ln, rs, nss, rfl, _⟩ := h
    rfl
  · obtain ⟨x, n, ln, rs, nss, rfl, ⟨⟨dx, h1⟩, h2, h3⟩, hz, q⟩ := h
    have hlen := h3.len
    refine lcRows nss (fun H1 e Q q => ⟨_, rfl, x, C, dx, _, _, rfl, e _ _ h1, R.cl, R.nN, by rfl, q H1 (Ex.refl H1)⟩) (Evl.sq_of h2) (by simp [tSeq, tAsg, tRet, tOp, tUn, tVar, tC, rI, rI0, rU, gName, L2.start, CMul, CDiv, CPow, tIfS, tTest, rEq, rNe, scal, tNext, tCall, tCons, tNil, tCB, tIf, tAnd, L2.tOr, tNot, tB, tAndV, tOrV, tNotV, tChain, tLst, tDrop, rIxH, upd_same, cxK, tIsN, sFld, tFld, Evl.rListS, hlen]) (by simp [tSeq, tAsg, tRet, tOp, tUn, tVar, tC, rI, rI0, rU, gName, L2.start, CMul, CDiv, CPow, tIfS, tTest, rEq, rNe, scal, tNext, tCall, tCons, tNil, tCB, tIf, tAnd, L2.tOr, tNot, tB, tAndV, tOrV, tNotV, tChain, tLst, tDrop, rIxH, upd_same, cxK, tIsN, sFld, tFld, Evl.rListS]; omega) (fun x => rfl) (fun i y ns H4 e4 hi hg => ?_) H (Ex.refl H) _ ?_
    · intro H5 e5 Q q
      simp [tSeq, tAsg, tRet, tOp, tUn, tVar, tC, rI, rI0, rU, gName, L2.start, CMul, CDiv, CPow, tIfS, tTest, rEq, rNe, scal, tNext, tCall, tCons, tNil, tCB, tIf, tAnd, L2.tOr, tNot, tB, tAndV, tOrV, tNotV, tChain, tLst, tDrop, rIxH, upd_same, cxK, tIsN, sFld, tFld, Evl.rListS, wipe]
      rw [List.getElem?_map] at hi
      cases hi2 : rs[i]? with
      | none =>
        rw [hi2] at hi
        cases hi
      | some r =>
        rw [hi2] at hi
        cases hi
        obtain ⟨ns2, hn2, hr2⟩ := h3.get hi2
        rw [hg] at hn2
        cases hn2
        exact ⟨r, rfl, _, .inl (Evl.sq_of ((e4.trans e5) _ _ hr2)), fun l hl => q l _ hl (ev_up hl) upd_same⟩
    · rintro _ H4 e4 ⟨p, qs, rfl, hp, hp2, hq, hqs⟩
      exact q p qs H4 ⟨hp, fun r hr => (hqs r hr).1⟩ e4 hp2 hq (fun z => (hqs p z).2 rfl)
/-- put of a good sum, into a room that has place -/
def spPut (C : Addr) : Sp := fun vs H Q _ => ∃ x n ln rs nss a ns, vs = [.ref x, .ref a] ∧ RoomAt H C x n ln rs nss ∧ H a = some (.lst (ns.map V.int)) ∧ (ns.length : Int) = n ∧ n ≤ 6 ∧ Near ns ∧ rs.length < 16 ∧
  ∀ r H', H r = none → RoomAt H' C x n ln (rs ++ [r]) (nss ++ [ns]) → (∀ b o, b ≠ x → b ≠ ln → H b = some o → H' b = some o) → Q (.int rs.length) H'
theorem ok_Room_put {C CS CT : Addr} (F : FnP K "put" "Room.put" s_Room_put f fd) (B : Bi mg) (R : Rc K C) (X_BadSum : Xc K mg "BadSum" CS) (X_TooMany : Xc K mg "TooMany" CT) (T_MOST_NOTHINGS : Ci mg "MOST_NOTHINGS" 16)
    (D_is_near_row : Df P w K mg base CX0 3 "is_near_row" ["thing", "many"] spNearRow) : FnOk P w K mg base (L2.CX P w) 4 f fd ["self", "one"] (spPut C) := by
  refine funD_okX F sc_Room_put (fun vs H Q E h => ?_) (fun cdv A outer s H vs Q E hr h => ⟨_,
   (pss_cons (ps_if (pt_not (pt_val (pe_df D_is_near_row (hr.mono (by decide)) (pa_cons (pv 1) (pa_cons (pe_fld (pv 0) rfl) pa_nil)))))
      (pss_one (ps_raise rfl (takes_of rfl rfl rfl rfl) (pmk_own PySem.F.excBase_ValueError X_BadSum.ex X_BadSum.g X_BadSum.kp (raises_own X_BadSum.b X_BadSum.t) rfl)))
      pss_nil)
      (pss_cons (ps_if (pt_cmpR op_ge (pe_callB call_len_seq rfl B.len_ boot_len (pa_cons (pe_fld (pv 0) rfl) pa_nil)) (pe_ci rfl T_MOST_NOTHINGS) (nomark _))
      (pss_one (ps_raise rfl (takes_of rfl rfl rfl rfl) (pmk_own PySem.F.excBase_ValueError X_TooMany.ex X_TooMany.g X_TooMany.kp (raises_own X_TooMany.b X_TooMany.t) rfl)))
      pss_nil)
      (pss_cons (ps_expr (pe_bm PySem.F.plainAttrs_list PySem.F.slot_list_append PySem.F.type_list_append mt_append (pe_fld (pv 0) rfl) (pa_cons (pe_callTy (r := Evl.rListS K) call_list_of rfl B.list_ boot_list (pa_cons (pv 1) pa_nil)) pa_nil)))
      (pss_cons (ps_fld (pv 0) pe_non rfl)
      (pss_one (ps_ret (pe_op op_sub (pe_callB call_len_seq rfl B.len_ boot_len (pa_cons (pe_fld (pv 0) rfl) pa_nil)) pe_int))))))), ?_⟩)
  · obtain ⟨x, n, ln, rs, nss, a, ns, rfl, _⟩ := h
    rfl
  · obtain ⟨x, n, ln, rs, nss, a, ns, rfl, ⟨⟨dx, h1⟩, h2, h3⟩, h4, h5, h6, h7, h8, q⟩ := h
    simp [tSeq, tAsg, tRet, tOp, tUn, tVar, tC, rI, rI0, rU, gName, L2.start, CMul, CDiv, CPow, tIfS, tTest, rEq, rNe, scal, tNext, tCall, tCons, tNil, tCB, tIf, tAnd, L2.tOr, tNot, tB, tAndV, tOrV, tNotV, tChain, tLst, tDrop, rIxH, upd_same, cxK, tIsN, sFld, tFld, Evl.rListS]
    refine ⟨C, dx, _, h1, R.cl, R.nL, .int n, by rfl, .ref a, n, rfl, ?_, fun H1 e1 => ?_⟩
    · have hl : lstOf H (.ref a) = some (ns.map V.int) := lstOf_of h4
      refine ⟨⟨_, .lst h4⟩, fun xs hxs => ?_⟩
      rw [hl] at hxs
      cases hxs
      refine ⟨by rw [List.length_map]; omega, fun y hy => ?_⟩
      obtain ⟨z, _, rfl⟩ := List.mem_map.mp hy
      exact ⟨_, .int z⟩
    have hnear : nearRow H n (.ref a) = true := by
      simp [tSeq, tAsg, tRet, tOp, tUn, tVar, tC, rI, rI0, rU, gName, L2.start, CMul, CDiv, CPow, tIfS, tTest, rEq, rNe, scal, tNext, tCall, tCons, tNil, tCB, tIf, tAnd, L2.tOr, tNot, tB, tAndV, tOrV, tNotV, tChain, tLst, tDrop, rIxH, upd_same, cxK, tIsN, sFld, tFld, Evl.rListS, nearRow, lstOf_of h4, h5]
      refine ⟨fun _ _ => rfl, fun z hz => ?_⟩
      have := h7 z hz
      simp [tSeq, tAsg, tRet, tOp, tUn, tVar, tC, rI, rI0, rU, gName, L2.start, CMul, CDiv, CPow, tIfS, tTest, rEq, rNe, scal, tNext, tCall, tCons, tNil, tCB, tIf, tAnd, L2.tOr, tNot, tB, tAndV, tOrV, tNotV, tChain, tLst, tDrop, rIxH, upd_same, cxK, tIsN, sFld, tFld, Evl.rListS, nearI, this]
    rw [hnear]
    refine .inr ⟨rfl, C, dx, _, e1 _ _ h1, R.cl, R.nN, .ref ln, by rfl, ln, rfl, _, .inl (Evl.sq_of (e1 _ _ h2)), ?_⟩
    rw [if_neg (by rw [List.length_map]; omega)]
    refine ⟨_, rfl, x, C, dx, _, .ref ln, rfl, e1 _ _ h1, R.cl, R.nN, by rfl, Or.inl ⟨rfl, _, Or.inl (Or.inl (e1 _ _ h2))⟩, _, rfl, a, _, rfl, .inl (Evl.sq_of (e1 _ _ h4)), fun r hr => ?_⟩
    have rln : r ≠ ln := fun z => by
      rw [z, e1 _ _ h2] at hr
      cases hr
    have rx : r ≠ x := fun z => by
      rw [z, e1 _ _ h1] at hr
      cases hr
    have lnx : ln ≠ x := fun z => by
      rw [z, h1] at h2
      cases h2
    refine ⟨ln, _, _, rfl, rfl, by rw [upd_ne (Ne.symm rln)]; exact e1 _ _ h2, by rw [List.length_map]; exact Evl.sz_lt (by omega), ?_⟩
    refine ⟨C, dx, _, by rw [upd_ne (Ne.symm lnx), upd_ne (Ne.symm rx)]; exact e1 _ _ h1, R.cl, R.nP, by simp [tSeq, tAsg, tRet, tOp, tUn, tVar, tC, rI, rI0, rU, gName, L2.start, CMul, CDiv, CPow, tIfS, tTest, rEq, rNe, scal, tNext, tCall, tCons, tNil, tCB, tIf, tAnd, L2.tOr, tNot, tB, tAndV, tOrV, tNotV, tChain, tLst, tDrop, rIxH, upd_same, cxK, tIsN, sFld, tFld, Evl.rListS], ?_⟩
    refine ⟨C, dx, _, ⟨rfl, rfl, rfl⟩, R.cl, R.nN, .ref ln, by rw [room_plan]; rfl, ln, rfl, _, .inl (Evl.sq_of (by rw [upd_ne lnx]; exact upd_same)), ?_⟩
    have e : ((List.map V.ref rs ++ [V.ref r]).length : Int) - 1 = rs.length := by simp [tSeq, tAsg, tRet, tOp, tUn, tVar, tC, rI, rI0, rU, gName, L2.start, CMul, CDiv, CPow, tIfS, tTest, rEq, rNe, scal, tNext, tCall, tCons, tNil, tCB, tIf, tAnd, L2.tOr, tNot, tB, tAndV, tOrV, tNotV, tChain, tLst, tDrop, rIxH, upd_same, cxK, tIsN, sFld, tFld, Evl.rListS]
    rw [e, room_plan]
    have off1 := h3.off h2
    have off2 := h3.offI h1
    refine q r _ (Evl.fresh_back e1 hr) ⟨⟨dx, upd_same⟩, ?_, ?_⟩ (fun b o hb1 hb2 he => ?_)
    · rw [upd_ne lnx, upd_same, List.map_append]
      rfl
    · refine RowsL.app ?_ ?_
      · exact ⟨by rw [upd_ne rx, upd_ne rln]; exact upd_same, trivial⟩
      · refine RowsL.of h3 fun b hb o he => ?_
        rw [upd_ne (off2 b hb), upd_ne (off1 b hb), upd_ne (ne_of_none (e1 _ _ he) hr)]
        exact e1 _ _ he
    · rw [upd_ne hb1, upd_ne hb2, upd_ne (ne_of_none (e1 _ _ he) hr)]
      exact e1 _ _ he
end
end Sr
namespace Sr
open PySem PySem.Spec PyProof.Rows L2
open Evl (Ex Ev EvL EvU EvT EvA RetL RetV)
section
variable {P : Program} {w : World} {K : PySem.W.Frag} {mg : Str → Option Value} {base : Heap} {f : Addr} {fd : FuncData}
def wordOf : Nat → Str
  | 0 => "letters"
  | 1 => "sum"
  | _ => "many"
def spWord (K : PySem.W.Frag) (S : Addr) (cs : List Addr) : Sp := fun vs H Q _ => ∃ a D k, vs = [.ref a] ∧ H a = some (ExK (.ref D) none a) ∧ Wd K S cs D k ∧ k < 3 ∧ ∀ H', Ex H H' → Q (.str (wordOf k)) H'
theorem ok_l_word {S C0 C1 C2 C3 C4 C5 C6 : Addr} (F : FnP K "_law_word" "_law_word" s_l_word f fd) (B : Bi mg) (B_ValueError : mg "ValueError" = none) (g_SumError : mg "SumError" = some (.ref S)) (g_BadLetters : mg "BadLetters" = some (.ref C0)) (g_BadSum : mg "BadSum" = some (.ref C1)) (g_TooMany : mg "TooMany" = some (.ref C2))
    (g_NoNothing : mg "NoNothing" = some (.ref C3)) (g_BadSpot : mg "BadSpot" = some (.ref C4)) (g_NoWay : mg "NoWay" = some (.ref C5)) (g_BadText : mg "BadText" = some (.ref C6)) : FnOk P w K mg base CX0 1 f fd ["_law_e"] (spWord K S [C0, C1, C2, C3, C4, C5, C6]) := by
  refine F.ok sc_l_word (fun vs H Q E h => ?_) (fun cdv A outer s H vs Q E hr h => ⟨_, PSs.nox
   (pss_cons (ps_set (i := 1) sc_l_word.nd rfl (Or.inl rfl) (pe_lst (pa_cons (pe_callB call_isX rfl B.isinstance_ boot_isinstance (pa_cons (pv 0) (pa_cons (pe_gref rfl g_BadLetters) pa_nil))) (pa_cons (pe_callB call_isX rfl B.isinstance_ boot_isinstance (pa_cons (pv 0) (pa_cons (pe_gref rfl g_BadSum) pa_nil))) (pa_cons (pe_callB call_isX rfl B.isinstance_ boot_isinstance (pa_cons (pv 0) (pa_cons (pe_gref rfl g_TooMany) pa_nil))) (pa_cons (pe_callB call_isX rfl B.isinstance_ boot_isinstance (pa_cons (pv 0) (pa_cons (pe_gref rfl g_NoNothing) pa_nil))) pa_nil))))))
      (pss_cons (ps_set (i := 1) sc_l_word.nd rfl (Or.inl rfl) (pe_op op_cat (pv 1) (pe_lst (pa_cons (pe_callB call_isX rfl B.isinstance_ boot_isinstance (pa_cons (pv 0) (pa_cons (pe_gref rfl g_BadSpot) pa_nil))) (pa_cons (pe_callB call_isX rfl B.isinstance_ boot_isinstance (pa_cons (pv 0) (pa_cons (pe_gref rfl g_NoWay) pa_nil))) (pa_cons (pe_callB call_isX rfl B.isinstance_ boot_isinstance (pa_cons (pv 0) (pa_cons (pe_gref rfl g_BadText) pa_nil))) pa_nil))))))
      (pss_cons (ps_if (PW.pt (pw_or (pt_cmpR op_ne (pe_bm PySem.F.plainAttrs_list PySem.F.slot_list_count PySem.F.type_list_count mt_count (pv 1) (pa_cons pe_bl pa_nil)) pe_int (nomark _)) (pw_or (pt_not (pt_val (pe_callB call_isX rfl B.isinstance_ boot_isinstance (pa_cons (pv 0) (pa_cons (pe_gref rfl g_SumError) pa_nil))))) (pw_or1 (pt_not (pt_val (pe_callB call_isX rfl B.isinstance_ boot_isinstance (pa_cons (pv 0) (pa_cons (pe_bltn (v := .ty "ValueError") rfl B_ValueError boot_ValueError rfl) pa_nil)))))))))
      (pss_one (ps_ret pe_str))
      pss_nil)
      (pss_one (ps_ret (pe_ix ix_h (pe_lst (pa_cons pe_str (pa_cons pe_str (pa_cons pe_str (pa_cons pe_str (pa_cons pe_str (pa_cons pe_str (pa_cons pe_str pa_nil)))))))) (pe_bm PySem.F.plainAttrs_list PySem.F.slot_list_index PySem.F.type_list_index mt_index (pv 1) (pa_cons pe_bl pa_nil)) (fun _ _ => rfl))))))), ?_⟩)
  · obtain ⟨a, D, k, rfl, _⟩ := h
    rfl
  · obtain ⟨a, D, k, rfl, ha, W, hk, q⟩ := h
    simp [tSeq, tAsg, tRet, tOp, tUn, tVar, tC, rI, rI0, rU, gName, L2.start, CMul, CDiv, CPow, tIfS, tTest, rEq, rNe, scal, tNext, tCall, tCons, tNil, tCB, tIf, tAnd, L2.tOr, tNot, tB, tAndV, tOrV, tNotV, tChain, tLst, tDrop, rIxH, upd_same, cxK, tIsN, sFld, tFld, Evl.rListS]
    have is : ∀ (H1 : Hp) (j : Nat) (C : Addr) (Q : VK), Ex H H1 → [C0, C1, C2, C3, C4, C5, C6][j]? = some C → Q (.bl (decide (j = k))) H1 → rIsX K [.ref a, .ref C] H1 Q := fun H1 j C Q e h q =>
      ⟨a, D, .ref C, .ref C, _, rfl, e _ _ ha, W.ex, .own C, W.one j C h, q⟩
    refine is H 0 C0 _ (Ex.refl H) rfl (is H 1 C1 _ (Ex.refl H) rfl (is H 2 C2 _ (Ex.refl H) rfl (is H 3 C3 _ (Ex.refl H) rfl ?_)))
    refine ⟨sizeLine_ge _ (by decide), fun p hp => ?_⟩
    have e1 := ev_up (o := .lst [.bl (decide (0 = k)), .bl (decide (1 = k)), .bl (decide (2 = k)), .bl (decide (3 = k))]) hp
    refine is _ 4 C4 _ e1 rfl (is _ 5 C5 _ e1 rfl (is _ 6 C6 _ e1 rfl ⟨sizeLine_ge _ (by decide), fun p2 hp2 => ?_⟩))
    have e2 := ev_up (o := .lst [.bl (decide (4 = k)), .bl (decide (5 = k)), .bl (decide (6 = k))]) hp2
    refine ⟨p, p2, _, _, rfl, rfl, e2 _ _ upd_same, upd_same, sizeLine_ge _ (by simp [tSeq, tAsg, tRet, tOp, tUn, tVar, tC, rI, rI0, rU, gName, L2.start, CMul, CDiv, CPow, tIfS, tTest, rEq, rNe, scal, tNext, tCall, tCons, tNil, tCB, tIf, tAnd, L2.tOr, tNot, tB, tAndV, tOrV, tNotV, tChain, tLst, tDrop, rIxH, upd_same, cxK, tIsN, sFld, tFld, Evl.rListS]), fun r hr => ?_⟩
    have e3 := ev_up (o := .lst ([.bl (decide (0 = k)), .bl (decide (1 = k)), .bl (decide (2 = k)), .bl (decide (3 = k))] ++ [.bl (decide (4 = k)), .bl (decide (5 = k)), .bl (decide (6 = k))])) hr
    generalize hG : upd _ r _ = G at e3 ⊢
    have hGr : G r = some (.lst [.bl (decide (0 = k)), .bl (decide (1 = k)), .bl (decide (2 = k)), .bl (decide (3 = k)), .bl (decide (4 = k)), .bl (decide (5 = k)), .bl (decide (6 = k))]) := by rw [← hG]; exact upd_same
    have eG : Ex H G := (e1.trans e2).trans e3
    refine ⟨_, rfl, Or.inl ⟨rfl, _, Or.inl (Or.inl hGr)⟩, r, .bl true, _, rfl, rfl, Evl.sq_of hGr, rfl, rfl, ?_⟩
    have hcount : (([.bl (decide (0 = k)), .bl (decide (1 = k)), .bl (decide (2 = k)), .bl (decide (3 = k)), .bl (decide (4 = k)), .bl (decide (5 = k)), .bl (decide (6 = k))] : List V).countP (fun z => eqV z (.bl true))) = 1 := by
      rcases (by omega : k = 0 ∨ k = 1 ∨ k = 2) with rfl | rfl | rfl <;> rfl
    rw [hcount]
    refine ⟨rfl, .inl ⟨rfl, a, D, .ref S, .ref S, true, rfl, eG _ _ ha, W.ex, .own S, W.sum, .inr ⟨rfl, a, D, .ty "ValueError", .type "ValueError", true, rfl, eG _ _ ha, W.ex, .ty _, W.val, .inr ⟨rfl, sizeLine_ge _ (by decide), fun p3 hp3 => ?_⟩⟩⟩⟩
    have e4 := ev_up (o := .lst [.str "letters", .str "sum", .str "many", .str "nothing", .str "spot", .str "way", .str "text"]) hp3
    refine ⟨_, rfl, Or.inl ⟨rfl, _, Or.inl (Or.inl (e4 _ _ hGr))⟩, r, _, .bl true, k, .bl true, rfl, rfl, Evl.sq_of (e4 _ _ hGr), rfl, rfl, ?_, rfl, ?_, _, k, rfl, upd_same, ?_⟩
    · rcases (by omega : k = 0 ∨ k = 1 ∨ k = 2) with rfl | rfl | rfl <;> rfl
    · intro m z hm hz
      rcases (by omega : k = 0 ∨ k = 1 ∨ k = 2) with rfl | rfl | rfl
      · omega
      · have : m = 0 := by omega
        subst this
        cases hz
        rfl
      · rcases (by omega : m = 0 ∨ m = 1) with rfl | rfl <;> cases hz <;> rfl
    · have z := q _ (eG.trans e4)
      rcases (by omega : k = 0 ∨ k = 1 ∨ k = 2) with rfl | rfl | rfl <;> exact ⟨_, rfl, z⟩
end
end Sr
namespace Sr
open PySem PySem.Spec PyProof.Rows L2
open Evl (Ex Ev EvL EvU EvT EvA RetL RetV)
section
variable {P : Program} {w : World} {K : PySem.W.Frag} {mg : Str → Option Value} {base : Heap} {f : Addr} {fd : FuncData}
/-- the class Room, as it is called -/
structure RoomMk (P : Program) (w : World) (K : PySem.W.Frag) (mg : Str → Option Value) (base : Heap) (C CL CS CT : Addr) : Prop where
  ex : ∃ f fd ds, Mk K C f ∧ FnOk P w K mg base (L2.CX P w) 5 f fd ["self", "letters", "nothings"] (spInit C CL CS CT) ∧ Binds K fd ["self", "letters", "nothings"] [] ∧ Vals [.non] ds ∧ Binds K fd ["self", "letters", "nothings"] ds
  g : mg "Room" = some (.ref C)
/-- the errors that Room's making tells -/
structure Errs (K : PySem.W.Frag) (mg : Str → Option Value) (S : Addr) (cs : List Addr) (CL CS CT : Addr) : Prop where
  g : mg "SumError" = some (.ref S)
  wL : Wd K S cs CL 0
  wS : Wd K S cs CS 1
  wT : Wd K S cs CT 2
  eL : PySem.W.exmOne K (.ref CL) (.ref S) = some true
  eS : PySem.W.exmOne K (.ref CS) (.ref S) = some true
  eT : PySem.W.exmOne K (.ref CT) (.ref S) = some true
/-- what v holds as rows -/
def Told (H : Hp) (n : Int) (v : V) (nss : List (List Int)) : Prop := ∃ a as, v = .ref a ∧ H a = some (.lst (as.map V.ref)) ∧ RowsL H as nss ∧ as.length ≤ 16 ∧ ∀ ns ∈ nss, (ns.length : Int) = n ∧ Near ns
def spMade (C : Addr) : Sp := fun vs H Q _ => ∃ l v, vs = [l, v] ∧ D0 H l ∧ D2 H v ∧ v ≠ .non ∧
  (dueOf H l v ≠ "" → ∀ H', Ex H H' → Q (.str (dueOf H l v)) H') ∧
  (dueOf H l v = "" → ∀ n x ln rs nss H', l = .int n → 0 ≤ n → n ≤ 6 → Told H n v nss → H x = none → RoomAt H' C x n ln rs nss → NewR H ln rs → Ex H H' → Q (.ref x) H')
theorem ok_l_made {C CL CS CT S : Addr} {cs : List Addr} (F : FnP K "_law_made" "_law_made" s_l_made f fd) (R : RoomMk P w K mg base C CL CS CT) (X : Errs K mg S cs CL CS CT)
    (D_l_word : Df P w K mg base CX0 1 "_law_word" ["_law_e"] (spWord K S cs)) : FnOk P w K mg base CX0 7 f fd ["_law_letters", "_law_nothings"] (spMade C) := by
  obtain ⟨fI, fdI, ds, M, FI, b3, _, _⟩ := R.ex
  refine F.ok sc_l_made (fun vs H Q E h => ?_) (fun cdv A outer s H vs Q E hr h => ⟨_, PSs.nox
   (pss_cons (ps_set (i := 2) sc_l_made.nd rfl (Or.inl rfl) pe_non)
   (pss_cons (ps_set (i := 3) sc_l_made.nd rfl (Or.inl rfl) pe_non)
   (pss_cons (ps_try_keep (i := 4) rfl rfl sc_l_made.nd rfl rfl ⟨rfl, by decide, .inl X.g⟩ rfl
      (fun W pn xe tk _ => pss_one (ps_set (i := 3) sc_l_made.nd rfl (Or.inl rfl) (pe_makeS M FI hr rfl R.g b3 .nil (fun σ => passAt tk σ) (pa_cons (pv 0) (pa_cons (pv 1) pa_nil)))))
      (fun a oe cls d pn hz hf => pss_one (ps_set (i := 2) sc_l_made.nd rfl (Or.inl rfl) (pv 4))))
   (pss_one (ps_ret (pe_ifExp (pt_cmp (pc_isN (pv 2))) (pv 3) (pe_df D_l_word (hr.mono (by decide)) (pa_cons (pv 2) pa_nil)))))))), ?_⟩)
  · obtain ⟨l, v, rfl, _⟩ := h
    rfl
  · obtain ⟨l, v, rfl, hl, hv, hvn, q1, q2⟩ := h
    simp [tSeq, tAsg, tRet, tOp, tUn, tVar, tC, rI, rI0, rU, gName, L2.start, CMul, CDiv, CPow, tIfS, tTest, rEq, rNe, scal, tNext, tCall, tCons, tNil, tCB, tIf, tAnd, L2.tOr, tNot, tB, tAndV, tOrV, tNotV, tChain, tLst, tDrop, rIxH, upd_same, cxK, tIsN, sFld, tFld, Evl.rListS, tMakeS]
    intro x dx hx hdx hne
    have e0 : Ex H (upd (upd H dx (.own x)) x (.ins C dx [])) := by
      refine (ev_up hdx).trans (ev_up ?_)
      rw [upd_ne (Ne.symm hne)]
      exact hx
    generalize hH0 : upd (upd H dx (.own x)) x (.ins C dx []) = H0 at e0 ⊢
    have h0x : H0 x = some (.ins C dx []) := by rw [← hH0]; exact upd_same
    have exc : ∀ (D k : Nat) (H1 : Hp), Wd K S cs D k → k < 3 → PySem.W.exmOne K (.ref D) (.ref S) = some true → Ex H H1 → dueOf H l v = wordOf k →
        WE (wKeep K (Value.ref S) 4 (fun a cls d => tAsg (tVar 4) (gName 2))
                { nx := tRet (tIf (tB (tIsN (tVar 2))) (tVar 3) (tCall (spWord K S cs) [] E0 (tCons (tVar 2) tNil)))
                      { nx := fun x H' => Q V.non H', rt := Q }, rt := Q }) [some l, some v, some V.non, some V.non, none] (.ref D) none H1 := by
      intro D k H1 W hk hex e1 hd
      refine ⟨hex, fun a ha => ?_⟩
      simp [tSeq, tAsg, tRet, tOp, tUn, tVar, tC, rI, rI0, rU, gName, L2.start, CMul, CDiv, CPow, tIfS, tTest, rEq, rNe, scal, tNext, tCall, tCons, tNil, tCB, tIf, tAnd, L2.tOr, tNot, tB, tAndV, tOrV, tNotV, tChain, tLst, tDrop, rIxH, upd_same, cxK, tIsN, sFld, tFld, Evl.rListS]
      refine ⟨a, D, k, rfl, upd_same, W, hk, fun H' e' => ?_⟩
      have hne : dueOf H l v ≠ "" := by
        rw [hd]
        rcases (by omega : k = 0 ∨ k = 1 ∨ k = 2) with rfl | rfl | rfl <;> decide +kernel
      rw [← hd]
      exact q1 hne H' ((e1.trans (ev_up ha)).trans e')
    refine ⟨x, dx, l, v, rfl, h0x, hl.ex e0, hv.ex e0, ?_, ?_, ?_, ?_⟩
    · intro hb
      refine exc CL 0 H0 X.wL (by decide) X.eL e0 ?_
      unfold dueOf
      rw [if_pos hb]
      rfl
    · rintro n rfl hb _ ht H' e'
      refine exc CS 1 H' X.wS (by decide) X.eS (e0.trans e') ?_
      have hb' : ¬ badL (.int n) = true := by rw [hb]; decide
      have ht' : ¬ tblOk H n v = true := by rw [← tblOk_ex hv e0, ht]; decide
      exact (if_neg hb').trans (if_neg ht')
    · rintro n a xs rfl hb rfl ha ht hbig H' e'
      refine exc CT 2 H' X.wT (by decide) X.eT (e0.trans e') ?_
      have hb' : ¬ badL (.int n) = true := by rw [hb]; decide
      have ht' : tblOk H n (.ref a) = true := by rw [← tblOk_ex hv e0, ht]
      have hls : lstOf H (.ref a) = some xs := by rw [← hv.1.lst_ex e0]; exact lstOf_of ha
      have hc : (16 : Int) < ((lstOf H (.ref a)).getD []).length := by rw [hls]; show (16 : Int) < (xs.length : Int); omega
      exact ((if_neg hb').trans (if_pos ht')).trans (if_pos hc)
    · rintro n ln rs nss H' rfl hb hcase hroom hnew hfr
      refine ⟨rfl, ?_⟩
      have hb' : ¬ badL (.int n) = true := by rw [hb]; decide
      have e' : Ex H H' := fun b o he => by
        have bx : b ≠ x := fun z => by rw [z, hx] at he; cases he
        exact hfr b o bx (e0 _ _ he)
      rcases hcase with ⟨h, _⟩ | ⟨a, as, rfl, ha, hr, hlen, hns⟩
      · exact absurd h hvn
      · have hls : lstOf H (.ref a) = some (as.map V.ref) := by rw [← hv.1.lst_ex e0]; exact lstOf_of ha
        obtain ⟨b, hb1, haH⟩ := lstOf_some hls
        cases hb1
        have hrH : RowsL H as nss := rows_back e0 hr fun r hr' => ((hv.2 _ hls).2 (.ref r) (List.mem_map.mpr ⟨r, hr', rfl⟩)).1
        have ht' : tblOk H n (.ref a) = true := tblOk_of haH hrH hns
        have hc : ¬ (16 : Int) < ((lstOf H (.ref a)).getD []).length := by
          rw [hls]
          show ¬ (16 : Int) < ((as.map V.ref).length : Int)
          rw [List.length_map]
          omega
        have hn : 0 ≤ n ∧ n ≤ 6 := by simpa [tSeq, tAsg, tRet, tOp, tUn, tVar, tC, rI, rI0, rU, gName, L2.start, CMul, CDiv, CPow, tIfS, tTest, rEq, rNe, scal, tNext, tCall, tCons, tNil, tCB, tIf, tAnd, L2.tOr, tNot, tB, tAndV, tOrV, tNotV, tChain, tLst, tDrop, rIxH, upd_same, cxK, tIsN, sFld, tFld, Evl.rListS, badL] using hb
        exact q2 (((if_neg hb').trans (if_pos ht')).trans (if_neg hc)) n x ln rs nss H' rfl hn.1 hn.2 ⟨a, as, rfl, haH, hrH, hlen, hns⟩ hx hroom ⟨Evl.fresh_back e0 hnew.1, fun r hr' => Evl.fresh_back e0 (hnew.2 r hr')⟩ e'
end
end Sr
namespace Sr
open PySem PySem.Spec PyProof.Rows L2
open Evl (Ex Ev EvL EvU EvT EvA RetL RetV)
section
variable {P : Program} {w : World} {K : PySem.W.Frag} {mg : Str → Option Value} {base : Heap} {f : Addr} {fd : FuncData}
def spOdd : Sp := fun vs H Q _ => ∃ (c : Int) (a : Addr) (ns : List Int), vs = [.int c, .ref a] ∧ H a = some (.lst (ns.map V.int)) ∧ ns.length ≤ 6 ∧ ∀ v H', Ex H H' → D1 H' v → Nw H v → Q v H'
theorem ok_l_odd_sum (F : FnP K "_law_odd_sum" "_law_odd_sum" s_l_odd_sum f fd) (B : Bi mg) (D_l_mixed : Df P w K mg base CX0 1 "_law_mixed" ["_law_cell", "_law_k"] spMixed) : FnOk P w K mg base CX0 2 f fd ["_law_cell", "_law_one"] spOdd := by
  refine F.ok sc_l_odd_sum (fun vs H Q E h => ?_) (fun cdv A outer s H vs Q E hr h => ⟨_, PSs.nox
   (Evl.pss_cut (ps_set (i := 2) sc_l_odd_sum.nd rfl (Or.inl rfl) (pe_op op_mod (pe_df D_l_mixed (hr.mono (by decide)) (pa_cons (pv 0) (pa_cons pe_int pa_nil))) (pe_op op_add (pe_callB call_len_seq rfl B.len_ boot_len (pa_cons (pv 1) pa_nil)) pe_int)))
      (Evl.pss_cut (ps_set (i := 3) sc_l_odd_sum.nd rfl (Or.inl rfl) (pe_lst (pa_cons pe_non (pa_cons pe_bl (pa_cons pe_int (pa_cons pe_str (pa_cons pe_str (pa_cons pe_dnewK (pa_cons (pe_tup pa_nil) (pa_cons (pe_callTy call_tuple_of rfl B.tuple_ boot_tuple (pa_cons (pv 1) pa_nil)) (pa_cons (pe_op op_cat (pv 1) (pe_lst (pa_cons pe_int pa_nil))) (pa_cons (pe_slice sl_list (pv 1) po_none (po_some (pe_un un_neg pe_int))) (pa_cons (pe_lst (pa_cons (pv 1) pa_nil)) (pa_cons (pe_op op_rep (pe_lst (pa_cons pe_non pa_nil)) (pe_callB call_len_seq rfl B.len_ boot_len (pa_cons (pv 1) pa_nil))) pa_nil))))))))))))))
      (Evl.pss_cut (ps_set (i := 4) sc_l_odd_sum.nd rfl (Or.inl rfl) (pe_lst (pa_cons pe_bl (pa_cons pe_non (pa_cons pe_str (pa_cons (pe_lst (pa_cons pe_int pa_nil)) (pa_cons (pe_tup (pa_cons pe_int pa_nil)) (pa_cons (pe_op op_add (pe_op op_pow pe_int pe_int) pe_int) (pa_cons (pe_op op_sub (pe_un un_neg (pe_op op_pow pe_int pe_int)) pe_int) (pa_cons (pe_op op_pow pe_int pe_int) pa_nil))))))))))
      (pss_cons (ps_for PassesOwn.never rfl (pi_list (pv 4)) (pg_name (i := 5) sc_l_odd_sum.nd rfl (Or.inl rfl))
      (pss_cons (ps_expr (pe_bm PySem.F.plainAttrs_list PySem.F.slot_list_append PySem.F.type_list_append mt_append (pv 3) (pa_cons (pe_op op_cat (pe_op op_cat (pe_slice sl_list (pv 1) po_none (po_some (pv 2))) (pe_lst (pa_cons (pv 5) pa_nil))) (pe_slice sl_list (pv 1) (po_some (pe_op op_add (pv 2) pe_int)) po_none)) pa_nil)))
        (pss_one (ps_expr (pe_bm PySem.F.plainAttrs_list PySem.F.slot_list_append PySem.F.type_list_append mt_append (pv 3) (pa_cons (pe_op op_cat (pe_op op_cat (pe_slice sl_list (pv 1) po_none (po_some (pv 2))) (pe_lst (pa_cons (pv 5) pa_nil))) (pe_slice sl_list (pv 1) (po_some (pv 2)) po_none)) pa_nil))))))
      (pss_one (ps_ret (pe_ix ix_list (pv 3) (pe_op op_mod (pe_df D_l_mixed (hr.mono (by decide)) (pa_cons (pv 0) (pa_cons pe_int pa_nil))) (pe_callB call_len_seq rfl B.len_ boot_len (pa_cons (pv 3) pa_nil))) (fun _ _ => rfl)))))))), ?_⟩)
  · obtain ⟨c, a, ns, rfl, _⟩ := h
    rfl
  · obtain ⟨c, a, ns, rfl, ha, hn, q⟩ := h
    simp only [cxK]
    have hxs : ∀ x ∈ ns.map V.int, ∀ H', D0 H' x := fun x hx H' => by
      obtain ⟨z, _, rfl⟩ := List.mem_map.mp hx
      exact ⟨_, .int z⟩
    have hlx : (ns.map V.int).length = ns.length := List.length_map ..
    refine ⟨fun σ' H' => ∃ k : Nat, σ' = [some (.int c), some (.ref a), some (.int k), none, none, none] ∧ k ≤ ns.length ∧ Ex H H', ?_, ?_⟩
    · simp [tSeq, tAsg, tRet, tOp, tUn, tVar, tC, rI, rI0, rU, gName, L2.start, CMul, CDiv, CPow, tIfS, tTest, rEq, rNe, scal, tNext, tCall, tCons, tNil, tCB, tIf, tAnd, L2.tOr, tNot, tB, tAndV, tOrV, tNotV, tChain, tLst, tDrop, rIxH, upd_same, cxK, tIsN, sFld, tFld, Evl.rListS]
      refine ⟨c, 80, rfl, by decide, by decide, fun m m0 m1 => ?_⟩
      have h1 : 0 ≤ m % ((ns.length : Int) + 1) := Int.emod_nonneg _ (by omega)
      have h2 : m % ((ns.length : Int) + 1) < (ns.length : Int) + 1 := Int.emod_lt_of_pos _ (by omega)
      refine ⟨_, .inl (Evl.sq_of ha), m, rfl, (m % ((ns.length : Int) + 1)).toNat, ?_, by omega, Ex.refl H⟩
      rw [hlx]
      omega
    rintro σ' H1 ⟨k, rfl, hk, e1⟩
    have ha1 := e1 _ _ ha
    have va : ∀ {l : List (Option V)}, Ev (tVar 1) (some (.int c) :: some (.ref a) :: l) H1 (.ref a) := fun {l} => Evl.ev_var rfl
    refine ⟨fun σ' H' => ∃ ps ys, σ' = [some (.int c), some (.ref a), some (.int k), some (.ref ps), none, none] ∧ H1 ps = none ∧ Ex H1 H' ∧ H' ps = some (.lst ys) ∧ ys.length = 12 ∧ ∀ y ∈ ys, D1 (offH H' ps) y ∧ Nw H1 y, ?_, ?_⟩
    · refine asg_lst (P := fun v H' => D1 H' v ∧ Nw H1 v) (n := 12) ?_ (by decide) (fun vs p H2 e2 hl hvs hp => ?_)
      · refine eg_cons d1n_st (ex_c fun _ => ⟨d1_non, nw_non⟩) ?_
        refine eg_cons d1n_st (ex_c fun _ => ⟨d1_bl, nw_bl⟩) ?_
        refine eg_cons d1n_st (ex_c fun _ => ⟨d1_int, nw_int⟩) ?_
        refine eg_cons d1n_st (ex_c fun _ => ⟨d1_str, nw_str⟩) ?_
        refine eg_cons d1n_st (ex_c fun _ => ⟨d1_str, nw_str⟩) ?_
        refine eg_cons d1n_st ex_dic ?_
        refine eg_cons d1n_st ex_tup0 ?_
        refine eg_cons d1n_st (ex_tupof (K := K) va (Evl.sq_of ha1)) ?_
        refine eg_cons d1n_st (ex_l (el_cat (ek_var (a := a) rfl ha1) (ek_l (Evl.el_lst (Evl.ea_cons Evl.ev_c Evl.ea_nil) (by simp [tSeq, tAsg, tRet, tOp, tUn, tVar, tC, rI, rI0, rU, gName, L2.start, CMul, CDiv, CPow, tIfS, tTest, rEq, rNe, scal, tNext, tCall, tCons, tNil, tCB, tIf, tAnd, L2.tOr, tNot, tB, tAndV, tOrV, tNotV, tChain, tLst, tDrop, rIxH, upd_same, cxK, tIsN, sFld, tFld, Evl.rListS]))) (by simp [tSeq, tAsg, tRet, tOp, tUn, tVar, tC, rI, rI0, rU, gName, L2.start, CMul, CDiv, CPow, tIfS, tTest, rEq, rNe, scal, tNext, tCall, tCons, tNil, tCB, tIf, tAnd, L2.tOr, tNot, tB, tAndV, tOrV, tNotV, tChain, tLst, tDrop, rIxH, upd_same, cxK, tIsN, sFld, tFld, Evl.rListS]; omega)) (by simp [tSeq, tAsg, tRet, tOp, tUn, tVar, tC, rI, rI0, rU, gName, L2.start, CMul, CDiv, CPow, tIfS, tTest, rEq, rNe, scal, tNext, tCall, tCons, tNil, tCB, tIf, tAnd, L2.tOr, tNot, tB, tAndV, tOrV, tNotV, tChain, tLst, tDrop, rIxH, upd_same, cxK, tIsN, sFld, tFld, Evl.rListS]; omega) (fun x hx => ?_)) ?_
        · rcases List.mem_append.mp hx with hx | hx
          · exact hxs x hx _
          · rw [List.mem_singleton.mp hx]
            exact ⟨_, .int 0⟩
        refine eg_cons d1n_st (ex_l (Evl.el_sl va Evl.eo_none (Evl.eo_some (Evl.ev_un Evl.ev_c Evl.ru_neg)) (Evl.sq_of ha1)) ?_ (fun x hx => hxs x (cut_mem hx) _)) ?_
        · have := cutV_length (ns.map V.int) none (some (-1))
          omega
        refine eg_cons d1n_st (ex_l (Evl.el_lst (Evl.ea_cons va Evl.ea_nil) (by simp [tSeq, tAsg, tRet, tOp, tUn, tVar, tC, rI, rI0, rU, gName, L2.start, CMul, CDiv, CPow, tIfS, tTest, rEq, rNe, scal, tNext, tCall, tCons, tNil, tCB, tIf, tAnd, L2.tOr, tNot, tB, tAndV, tOrV, tNotV, tChain, tLst, tDrop, rIxH, upd_same, cxK, tIsN, sFld, tFld, Evl.rListS])) (by simp [tSeq, tAsg, tRet, tOp, tUn, tVar, tC, rI, rI0, rU, gName, L2.start, CMul, CDiv, CPow, tIfS, tTest, rEq, rNe, scal, tNext, tCall, tCons, tNil, tCB, tIf, tAnd, L2.tOr, tNot, tB, tAndV, tOrV, tNotV, tChain, tLst, tDrop, rIxH, upd_same, cxK, tIsN, sFld, tFld, Evl.rListS]) (fun x hx => ?_)) ?_
        · rw [List.mem_singleton.mp hx]
          exact ⟨_, .lst ha1⟩
        refine eg_cons d1n_st (ex_l (el_rep (ev_lenT va (Evl.sq_of ha1)) (ek_l (Evl.el_lst (Evl.ea_cons Evl.ev_c Evl.ea_nil) (by simp [tSeq, tAsg, tRet, tOp, tUn, tVar, tC, rI, rI0, rU, gName, L2.start, CMul, CDiv, CPow, tIfS, tTest, rEq, rNe, scal, tNext, tCall, tCons, tNil, tCB, tIf, tAnd, L2.tOr, tNot, tB, tAndV, tOrV, tNotV, tChain, tLst, tDrop, rIxH, upd_same, cxK, tIsN, sFld, tFld, Evl.rListS]))) (by omega) (by omega)) (by simp [tSeq, tAsg, tRet, tOp, tUn, tVar, tC, rI, rI0, rU, gName, L2.start, CMul, CDiv, CPow, tIfS, tTest, rEq, rNe, scal, tNext, tCall, tCons, tNil, tCB, tIf, tAnd, L2.tOr, tNot, tB, tAndV, tOrV, tNotV, tChain, tLst, tDrop, rIxH, upd_same, cxK, tIsN, sFld, tFld, Evl.rListS]; omega) (fun x hx => ?_)) eg_nil
        rw [List.eq_of_mem_replicate hx]
        exact ⟨_, .non⟩
      · refine ⟨p, vs, rfl, Evl.fresh_back e2 hp, e2.trans (ev_up hp), upd_same, hl, fun y hy => ?_⟩
        rw [offH_upd]
        exact ⟨(hvs y hy).1.ex (offH_of hp), (hvs y hy).2⟩
    rintro σ' H2 ⟨ps, ys, rfl, hps, e2, h2, hl2, hys⟩
    refine ⟨fun σ' H' => ∃ pp zs, σ' = [some (.int c), some (.ref a), some (.int k), some (.ref ps), some (.ref pp), none] ∧ pp ≠ ps ∧ Ex H2 H' ∧ H' pp = some (.lst zs) ∧ zs.length = 8 ∧ ∀ y ∈ zs, D0 (offH H' ps) y, ?_, ?_⟩
    · refine asg_lst (P := fun v H' => D0 (offH H' ps) v) (n := 8) ?_ (by decide) (fun vs p H3 e3 hl hvs hp => ?_)
      · have hi : ∀ (i : Int) H', D0 (offH H' ps) (.int i) := fun i _ => ⟨_, .int i⟩
        refine eg_cons d0o_st (ex_c fun _ => ⟨_, .bl _⟩) ?_
        refine eg_cons d0o_st (ex_c fun _ => ⟨_, .non⟩) ?_
        refine eg_cons d0o_st (ex_c fun _ => ⟨_, .str _⟩) ?_
        refine eg_cons d0o_st (ex0o_l h2 (Evl.el_lst (Evl.ea_cons Evl.ev_c Evl.ea_nil) (by simp [tSeq, tAsg, tRet, tOp, tUn, tVar, tC, rI, rI0, rU, gName, L2.start, CMul, CDiv, CPow, tIfS, tTest, rEq, rNe, scal, tNext, tCall, tCons, tNil, tCB, tIf, tAnd, L2.tOr, tNot, tB, tAndV, tOrV, tNotV, tChain, tLst, tDrop, rIxH, upd_same, cxK, tIsN, sFld, tFld, Evl.rListS]))) ?_
        refine eg_cons d0o_st (ex0o_u h2 (Evl.eu_tup (Evl.ea_cons Evl.ev_c Evl.ea_nil) (by simp [tSeq, tAsg, tRet, tOp, tUn, tVar, tC, rI, rI0, rU, gName, L2.start, CMul, CDiv, CPow, tIfS, tTest, rEq, rNe, scal, tNext, tCall, tCons, tNil, tCB, tIf, tAnd, L2.tOr, tNot, tB, tAndV, tOrV, tNotV, tChain, tLst, tDrop, rIxH, upd_same, cxK, tIsN, sFld, tFld, Evl.rListS]))) ?_
        refine eg_cons d0o_st (ex_ev (Evl.ev_op (ev_pow (by decide) (by decide) (by decide)) Evl.ev_c Evl.rv_I0) (hi _)) ?_
        refine eg_cons d0o_st (ex_ev (Evl.ev_op (Evl.ev_un (ev_pow (by decide) (by decide) (by decide)) Evl.ru_neg) Evl.ev_c Evl.rv_I0) (hi _)) ?_
        exact eg_cons d0o_st (ex_ev (ev_pow (by decide) (by decide) (by decide)) (hi _)) eg_nil
      · have pps : p ≠ ps := fun z => by
          rw [z, e3 _ _ h2] at hp
          cases hp
        refine ⟨p, vs, rfl, pps, e3.trans (ev_up hp), upd_same, hl, fun y hy => (hvs y hy).ex (offH_ex (ev_up hp))⟩
    rintro σ' H3 ⟨pp, zs, rfl, hpp, e3, h3, hl3, hzs⟩
    have h3s := e3 _ _ h2
    have e13 : Ex H1 (offH H3 ps) := offH_new hps (e2.trans e3)
    refine ⟨_, rfl, pp, rfl, ⟨_, Evl.sq_of h3⟩, for_list (K := K) (a := pp) (xs := zs) (fun i σ' H' => ∃ ys' x, σ' = [some (.int c), some (.ref a), some (.int k), some (.ref ps), some (.ref pp), x] ∧ Ex (offH H3 ps) (offH H' ps) ∧ H' ps = some (.lst ys') ∧ ys'.length = 12 + 2 * i ∧ ∀ y ∈ ys', D1 (offH H' ps) y ∧ Nw H1 y)
      ⟨ys, none, rfl, Ex.refl _, h3s, hl2, fun y hy => ⟨(hys y hy).1.ex (offH_ex e3), (hys y hy).2⟩⟩ (fun i σ' H' _ ⟨_, _, _, e, _⟩ => ?_) ?_ ?_⟩
    · refine Evl.sq_of (offH_le _ _ (e _ _ ?_))
      unfold offH
      rw [if_neg hpp]
      exact h3
    · rintro i x σ' H' hx ⟨ys', x0, rfl, e4, h4, hl4, hy4⟩
      simp [tSeq, tAsg, tRet, tOp, tUn, tVar, tC, rI, rI0, rU, gName, L2.start, CMul, CDiv, CPow, tIfS, tTest, rEq, rNe, scal, tNext, tCall, tCons, tNil, tCB, tIf, tAnd, L2.tOr, tNot, tB, tAndV, tOrV, tNotV, tChain, tLst, tDrop, rIxH, upd_same, cxK, tIsN, sFld, tFld, Evl.rListS]
      have hi : i < 8 := by rw [← hl3]; exact (List.getElem?_eq_some_iff.mp hx).1
      have hx0 : D0 (offH H' ps) x := (hzs x (List.mem_of_getElem? hx)).ex e4
      have haH : ∀ H2, Ex (offH H' ps) (offH H2 ps) → H2 a = some (.lst (ns.map V.int)) := fun H2 e => offH_le _ _ (e _ _ (e4 _ _ (e13 _ _ ha1)))
      have hmem : ∀ (H2 : Hp) (l1 h1 l2 h2 : Option Int), Ex (offH H' ps) (offH H2 ps) → ∀ z ∈ (cutV (ns.map V.int) l1 h1 ++ [x]) ++ cutV (ns.map V.int) l2 h2, D0 (offH H2 ps) z := fun H2 l1 h1 l2 h2 e z hz => by
        rcases List.mem_append.mp hz with hz | hz
        · rcases List.mem_append.mp hz with hz | hz
          · exact hxs z (cut_mem hz) _
          · rw [List.mem_singleton.mp hz]
            exact hx0.ex e
        · exact hxs z (cut_mem hz) _
      have hlen : ∀ (l1 h1 l2 h2 : Option Int), ((cutV (ns.map V.int) l1 h1 ++ [x]) ++ cutV (ns.map V.int) l2 h2).length ≤ 20 := fun l1 h1 l2 h2 => by
        have := cutV_length (ns.map V.int) l1 h1
        have := cutV_length (ns.map V.int) l2 h2
        simp [tSeq, tAsg, tRet, tOp, tUn, tVar, tC, rI, rI0, rU, gName, L2.start, CMul, CDiv, CPow, tIfS, tTest, rEq, rNe, scal, tNext, tCall, tCons, tNil, tCB, tIf, tAnd, L2.tOr, tNot, tB, tAndV, tOrV, tNotV, tChain, tLst, tDrop, rIxH, upd_same, cxK, tIsN, sFld, tFld, Evl.rListS]
        omega
      have hl1 : ∀ l1 h1 : Option Int, (cutV (ns.map V.int) l1 h1).length ≤ 6 := fun l1 h1 => by
        have := cutV_length (ns.map V.int) l1 h1
        omega
      have vk : ∀ H2, Ev (tVar 2) [some (V.int c), some (V.ref a), some (V.int ↑k), some (V.ref ps), some (V.ref pp), some x] H2 (.int k) := fun H2 => Evl.ev_var rfl
      have vA : ∀ H2, Ev (tVar 1) [some (V.int c), some (V.ref a), some (V.int ↑k), some (V.ref ps), some (V.ref pp), some x] H2 (.ref a) := fun H2 => Evl.ev_var rfl
      refine app_new rfl h4 (by omega) (el_cat (ek_l (el_cat (ek_l (Evl.el_sl (vA _) Evl.eo_none (Evl.eo_some (vk _)) (Evl.sq_of (haH _ (Ex.refl _))))) (ek_l (Evl.el_lst (Evl.ea_cons (Evl.ev_var rfl) Evl.ea_nil) (by simp [tSeq, tAsg, tRet, tOp, tUn, tVar, tC, rI, rI0, rU, gName, L2.start, CMul, CDiv, CPow, tIfS, tTest, rEq, rNe, scal, tNext, tCall, tCons, tNil, tCB, tIf, tAnd, L2.tOr, tNot, tB, tAndV, tOrV, tNotV, tChain, tLst, tDrop, rIxH, upd_same, cxK, tIsN, sFld, tFld, Evl.rListS]))) (by have := hl1 none (some (k : Int)); simp [tSeq, tAsg, tRet, tOp, tUn, tVar, tC, rI, rI0, rU, gName, L2.start, CMul, CDiv, CPow, tIfS, tTest, rEq, rNe, scal, tNext, tCall, tCons, tNil, tCB, tIf, tAnd, L2.tOr, tNot, tB, tAndV, tOrV, tNotV, tChain, tLst, tDrop, rIxH, upd_same, cxK, tIsN, sFld, tFld, Evl.rListS]; omega))) (ek_l (Evl.el_sl (vA _) (Evl.eo_some (Evl.ev_op (vk _) Evl.ev_c Evl.rv_I0)) Evl.eo_none (Evl.sq_of (haH _ (Ex.refl _))))) ?_) (hmem _ _ _ _ _ (Ex.refl _)) ?_ (fun p H2 n5 e5 h5 d5 => ?_)
      · have := hlen none (some (k : Int)) (some ((k : Int) + 1)) none
        rw [List.length_append] at this
        omega
      · have := hlen none (some (k : Int)) (some ((k : Int) + 1)) none
        omega
      refine app_new rfl h5 (by simp [tSeq, tAsg, tRet, tOp, tUn, tVar, tC, rI, rI0, rU, gName, L2.start, CMul, CDiv, CPow, tIfS, tTest, rEq, rNe, scal, tNext, tCall, tCons, tNil, tCB, tIf, tAnd, L2.tOr, tNot, tB, tAndV, tOrV, tNotV, tChain, tLst, tDrop, rIxH, upd_same, cxK, tIsN, sFld, tFld, Evl.rListS]; omega) (el_cat (ek_l (el_cat (ek_l (Evl.el_sl (vA _) Evl.eo_none (Evl.eo_some (vk _)) (Evl.sq_of (haH _ e5)))) (ek_l (Evl.el_lst (Evl.ea_cons (Evl.ev_var rfl) Evl.ea_nil) (by simp [tSeq, tAsg, tRet, tOp, tUn, tVar, tC, rI, rI0, rU, gName, L2.start, CMul, CDiv, CPow, tIfS, tTest, rEq, rNe, scal, tNext, tCall, tCons, tNil, tCB, tIf, tAnd, L2.tOr, tNot, tB, tAndV, tOrV, tNotV, tChain, tLst, tDrop, rIxH, upd_same, cxK, tIsN, sFld, tFld, Evl.rListS]))) (by have := hl1 none (some (k : Int)); simp [tSeq, tAsg, tRet, tOp, tUn, tVar, tC, rI, rI0, rU, gName, L2.start, CMul, CDiv, CPow, tIfS, tTest, rEq, rNe, scal, tNext, tCall, tCons, tNil, tCB, tIf, tAnd, L2.tOr, tNot, tB, tAndV, tOrV, tNotV, tChain, tLst, tDrop, rIxH, upd_same, cxK, tIsN, sFld, tFld, Evl.rListS]; omega))) (ek_l (Evl.el_sl (vA _) (Evl.eo_some (vk _)) Evl.eo_none (Evl.sq_of (haH _ e5)))) ?_) (hmem _ _ _ _ _ e5) ?_ (fun p2 H5 n6 e6 h6 d6 => ?_)
      · have := hlen none (some (k : Int)) (some (k : Int)) none
        rw [List.length_append] at this
        omega
      · have := hlen none (some (k : Int)) (some (k : Int)) none
        omega
      refine ⟨(e4.trans e5).trans e6, _, h6, by simp [tSeq, tAsg, tRet, tOp, tUn, tVar, tC, rI, rI0, rU, gName, L2.start, CMul, CDiv, CPow, tIfS, tTest, rEq, rNe, scal, tNext, tCall, tCons, tNil, tCB, tIf, tAnd, L2.tOr, tNot, tB, tAndV, tOrV, tNotV, tChain, tLst, tDrop, rIxH, upd_same, cxK, tIsN, sFld, tFld, Evl.rListS]; omega, fun y hy => ?_⟩
      rcases List.mem_append.mp hy with hy | hy
      · rcases List.mem_append.mp hy with hy | hy
        · exact ⟨((hy4 y hy).1.ex e5).ex e6, (hy4 y hy).2⟩
        · rw [List.mem_singleton.mp hy]
          exact ⟨d5.ex e6, nw_new (e13.trans (e4.trans offH_le)) n5⟩
      · rw [List.mem_singleton.mp hy]
        exact ⟨d6, nw_new (e13.trans ((e4.trans e5).trans offH_le)) n6⟩
    · rintro σ' H' ⟨ys', x0, rfl, e4, h4, hl4, hy4⟩
      simp [tSeq, tAsg, tRet, tOp, tUn, tVar, tC, rI, rI0, rU, gName, L2.start, CMul, CDiv, CPow, tIfS, tTest, rEq, rNe, scal, tNext, tCall, tCons, tNil, tCB, tIf, tAnd, L2.tOr, tNot, tB, tAndV, tOrV, tNotV, tChain, tLst, tDrop, rIxH, upd_same, cxK, tIsN, sFld, tFld, Evl.rListS]
      refine ⟨c, 81, rfl, by decide, by decide, fun m m0 m1 => ⟨_, .inl (Evl.sq_of h4), m, rfl, by omega, ?_⟩⟩
      obtain ⟨y, hy, hd⟩ := pick_any (xs := ys') (R := fun y => D1 H' y ∧ Nw H1 y) (Int.emod_nonneg m (by omega)) (Int.emod_lt_of_pos m (by omega)) fun y hy => ⟨(hy4 y hy).1.ex offH_le, (hy4 y hy).2⟩
      exact ⟨ps, ys', _, y, rfl, rfl, Evl.sq_of h4, hy, q y H' (((e1.trans e13).trans e4).trans offH_le) hd.1 (nw_ex e1 hd.2)⟩
end
end Sr
namespace Sr
open PySem PySem.Spec PyProof.Rows L2
open Evl (Ex Ev EvL EvU EvT EvA RetL RetV)
section
variable {P : Program} {w : World} {K : PySem.W.Frag} {mg : Str → Option Value} {base : Heap} {f : Addr} {fd : FuncData}
/-- rows that are new since H, all of n near numbers -/
structure Rows (H H' : Hp) (n : Nat) (p : Addr) (rs : List Addr) (nss : List (List Int)) : Prop where
  p0 : H p = none
  at_ : H' p = some (.lst (rs.map V.ref))
  rows : RowsL H' rs nss
  off : ∀ r ∈ rs, H r = none ∧ r ≠ p
  near : ∀ ns ∈ nss, ns.length = n ∧ Near ns
def spDrawn : Sp := fun vs H Q _ => ∃ c : Int, vs = [.int c] ∧ ∀ (n : Nat) t p rs nss H', n ≤ 6 → Ex H H' → H' t = some (.tup [.int n, .ref p]) → H t = none → Rows H H' n p rs nss → rs.length ≤ 17 → Q (.ref t) H'
theorem ok_l_drawn (F : FnP K "_law_drawn" "_law_drawn" s_l_drawn f fd) (B : Bi mg) (D_l_mixed : Df P w K mg base CX0 1 "_law_mixed" ["_law_cell", "_law_k"] spMixed) (D_l_nothing : Df P w K mg base CX0 3 "_law_nothing" ["_law_cell", "_law_letters", "_law_told"] spNothing) : FnOk P w K mg base CX0 4 f fd ["_law_cell"] spDrawn := by
  refine F.ok sc_l_drawn (fun vs H Q E h => ?_) (fun cdv A outer s H vs Q E hr h => ⟨_, PSs.nox
   (pss_cons (ps_set (i := 1) sc_l_drawn.nd rfl (Or.inl rfl) (pe_op op_mod (pe_df D_l_mixed (hr.mono (by decide)) (pa_cons (pv 0) (pa_cons pe_int pa_nil))) pe_int))
      (pss_cons (ps_set (i := 2) sc_l_drawn.nd rfl (Or.inl rfl) (pe_lst pa_nil))
      (pss_cons (ps_for PassesOwn.never rfl (pi_range1 rfl B.range_ (pa_cons (pe_ix ix_h (pe_lst (pa_cons (pe_op op_mod (pe_df D_l_mixed (hr.mono (by decide)) (pa_cons (pv 0) (pa_cons pe_int pa_nil))) pe_int) (pa_cons pe_int (pa_cons pe_int (pa_cons (pe_op op_mod (pe_df D_l_mixed (hr.mono (by decide)) (pa_cons (pv 0) (pa_cons pe_int pa_nil))) pe_int) pa_nil))))) (pe_op op_mod (pe_df D_l_mixed (hr.mono (by decide)) (pa_cons (pv 0) (pa_cons pe_int pa_nil))) pe_int) (fun _ _ => rfl)) pa_nil)) (pg_name (i := 3) sc_l_drawn.nd rfl (Or.inl rfl))
      (pss_one (ps_expr (pe_bm PySem.F.plainAttrs_list PySem.F.slot_list_append PySem.F.type_list_append mt_append (pv 2) (pa_cons (pe_df D_l_nothing (hr.mono (by decide)) (pa_cons (pe_df D_l_mixed (hr.mono (by decide)) (pa_cons (pv 0) (pa_cons (pe_op op_add pe_int (pv 3)) pa_nil))) (pa_cons (pv 1) (pa_cons (pv 2) pa_nil)))) pa_nil)))))
      (pss_one (ps_ret (pe_tup (pa_cons (pv 1) (pa_cons (pv 2) pa_nil)))))))), ?_⟩)
  · obtain ⟨c, rfl, _⟩ := h
    rfl
  · obtain ⟨c, rfl, q⟩ := h
    simp [tSeq, tAsg, tRet, tOp, tUn, tVar, tC, rI, rI0, rU, gName, L2.start, CMul, CDiv, CPow, tIfS, tTest, rEq, rNe, scal, tNext, tCall, tCons, tNil, tCB, tIf, tAnd, L2.tOr, tNot, tB, tAndV, tOrV, tNotV, tChain, tLst, tDrop, rIxH, upd_same, cxK, tIsN, sFld, tFld, Evl.rListS]
    refine ⟨c, 1, rfl, by decide, by decide, fun m m0 m1 => ⟨m, rfl, fun p hp => ?_⟩⟩
    obtain ⟨n, hn⟩ : ∃ n : Nat, m % 7 = (n : Int) := ⟨(m % 7).toNat, by omega⟩
    have hn6 : n ≤ 6 := by omega
    rw [hn]
    have hp' := ev_up (o := .lst []) hp
    generalize hH1 : upd H p (.lst []) = H1 at hp' ⊢
    have h1p : H1 p = some (.lst []) := by rw [← hH1]; exact upd_same
    unfold tFor
    unfold iRng1
    refine ⟨_, rfl, c, 2, rfl, by decide, by decide, fun m2 m20 m21 => ⟨m2, 6, rfl, rfl, (by decide : (0 : Int) < 6), ?_⟩⟩
    refine ⟨_, rfl, c, 2, rfl, by decide, by decide, fun m3 m30 m31 => ⟨m3, 18, rfl, rfl, (by decide : (0 : Int) < 18), sizeLine_ge _ (by simp [tSeq, tAsg, tRet, tOp, tUn, tVar, tC, rI, rI0, rU, gName, L2.start, CMul, CDiv, CPow, tIfS, tTest, rEq, rNe, scal, tNext, tCall, tCons, tNil, tCB, tIf, tAnd, L2.tOr, tNot, tB, tAndV, tOrV, tNotV, tChain, tLst, tDrop, rIxH, upd_same, cxK, tIsN, sFld, tFld, Evl.rListS]), fun p2 hp2 => ?_⟩⟩
    refine ⟨_, rfl, c, 3, rfl, by decide, by decide, fun m4 m40 m41 => ⟨m4, 4, rfl, rfl, (by decide : (0 : Int) < 4), ?_⟩⟩
    obtain ⟨v, hv, z, rfl, hz0, hz1⟩ := pick_any (xs := [V.int (m2 % 6), V.int 16, V.int 17, V.int (m3 % 18)]) (i := m4 % 4) (R := fun v => ∃ z : Nat, v = V.int z ∧ 0 ≤ z ∧ z ≤ 17) (by omega) (by simp [tSeq, tAsg, tRet, tOp, tUn, tVar, tC, rI, rI0, rU, gName, L2.start, CMul, CDiv, CPow, tIfS, tTest, rEq, rNe, scal, tNext, tCall, tCons, tNil, tCB, tIf, tAnd, L2.tOr, tNot, tB, tAndV, tOrV, tNotV, tChain, tLst, tDrop, rIxH, upd_same, cxK, tIsN, sFld, tFld, Evl.rListS]; omega) (fun x hx => by
      simp [tSeq, tAsg, tRet, tOp, tUn, tVar, tC, rI, rI0, rU, gName, L2.start, CMul, CDiv, CPow, tIfS, tTest, rEq, rNe, scal, tNext, tCall, tCons, tNil, tCB, tIf, tAnd, L2.tOr, tNot, tB, tAndV, tOrV, tNotV, tChain, tLst, tDrop, rIxH, upd_same, cxK, tIsN, sFld, tFld, Evl.rListS] at hx
      rcases hx with rfl | rfl | rfl | rfl
      · exact ⟨(m2 % 6).toNat, by simp [tSeq, tAsg, tRet, tOp, tUn, tVar, tC, rI, rI0, rU, gName, L2.start, CMul, CDiv, CPow, tIfS, tTest, rEq, rNe, scal, tNext, tCall, tCons, tNil, tCB, tIf, tAnd, L2.tOr, tNot, tB, tAndV, tOrV, tNotV, tChain, tLst, tDrop, rIxH, upd_same, cxK, tIsN, sFld, tFld, Evl.rListS]; omega, by omega, by omega⟩
      · exact ⟨16, rfl, by decide, by decide⟩
      · exact ⟨17, rfl, by decide, by decide⟩
      · exact ⟨(m3 % 18).toNat, by simp [tSeq, tAsg, tRet, tOp, tUn, tVar, tC, rI, rI0, rU, gName, L2.start, CMul, CDiv, CPow, tIfS, tTest, rEq, rNe, scal, tNext, tCall, tCons, tNil, tCB, tIf, tAnd, L2.tOr, tNot, tB, tAndV, tOrV, tNotV, tChain, tLst, tDrop, rIxH, upd_same, cxK, tIsN, sFld, tFld, Evl.rListS]; omega, by omega, by omega⟩)
    refine ⟨p2, _, _, _, rfl, rfl, upd_same, hv, z, rfl, by omega, by omega, ?_⟩
    rw [Int.toNat_natCast]
    have e2 : Ex H1 (upd H1 p2 (.lst [V.int (m2 % 6), V.int 16, V.int 17, V.int (m3 % 18)])) := ev_up hp2
    generalize upd H1 p2 _ = H2 at e2 ⊢
    have hr0 : Rows H H2 n p [] [] := ⟨hp, e2 _ _ h1p, trivial, (fun r hr => by cases hr), (fun ns hns => by cases hns)⟩
    refine for_range (n := z) (fun i σ' H' => ∃ rs nss x, σ' = [some (.int c), some (.int n), some (.ref p), x] ∧ Ex H H' ∧ Rows H H' n p rs nss ∧ rs.length = i) ⟨[], [], none, rfl, hp'.trans e2, hr0, rfl⟩ ?_ ?_
    · rintro i σ' H' hi ⟨rs, nss, x, rfl, e', R, hl⟩
      simp [tSeq, tAsg, tRet, tOp, tUn, tVar, tC, rI, rI0, rU, gName, L2.start, CMul, CDiv, CPow, tIfS, tTest, rEq, rNe, scal, tNext, tCall, tCons, tNil, tCB, tIf, tAnd, L2.tOr, tNot, tB, tAndV, tOrV, tNotV, tChain, tLst, tDrop, rIxH, upd_same, cxK, tIsN, sFld, tFld, Evl.rListS]
      refine ⟨_, rfl, Or.inl ⟨rfl, _, Or.inl (Or.inl R.at_)⟩, _, rfl, _, rfl, 100, i, rfl, rfl, c, _, rfl, by omega, by omega, fun m5 m50 m51 => ⟨_, rfl, _, rfl, ?_⟩⟩
      refine ⟨m5, n, p, rs, nss, rfl, hn6, R.at_, R.rows, by omega, R.near, fun r ns H3 hr e3 h3 hln hnr => ?_⟩
      refine ⟨p, _, .ref r, rfl, rfl, e3 _ _ R.at_, by rw [List.length_map]; exact Evl.sz_lt (by omega), ?_⟩
      have rp : r ≠ p := fun z => by
        rw [z, R.at_] at hr
        cases hr
      refine ⟨Evl.Ex.mut (e'.trans e3) hp, rs ++ [r], ⟨nss ++ [ns], hp, ?_, ?_, ?_, ?_⟩, by simp [tSeq, tAsg, tRet, tOp, tUn, tVar, tC, rI, rI0, rU, gName, L2.start, CMul, CDiv, CPow, tIfS, tTest, rEq, rNe, scal, tNext, tCall, tCons, tNil, tCB, tIf, tAnd, L2.tOr, tNot, tB, tAndV, tOrV, tNotV, tChain, tLst, tDrop, rIxH, upd_same, cxK, tIsN, sFld, tFld, Evl.rListS, hl]⟩
      · rw [upd_same, List.map_append]
        rfl
      · refine RowsL.app ?_ ((R.rows.ex e3).upd fun q hq => (R.off q hq).2)
        exact ⟨by rw [upd_ne rp]; exact h3, trivial⟩
      · intro q hq
        rcases List.mem_append.mp hq with hq | hq
        · exact R.off q hq
        · rw [List.mem_singleton.mp hq]
          exact ⟨Evl.fresh_back e' hr, rp⟩
      · intro y hy
        rcases List.mem_append.mp hy with hy | hy
        · exact R.near y hy
        · rw [List.mem_singleton.mp hy]
          exact ⟨hln, hnr⟩
    · rintro σ' H' ⟨rs, nss, x, rfl, e', R, hl⟩
      refine ⟨_, rfl, _, rfl, Evl.sz_of (by simp [tSeq, tAsg, tRet, tOp, tUn, tVar, tC, rI, rI0, rU, gName, L2.start, CMul, CDiv, CPow, tIfS, tTest, rEq, rNe, scal, tNext, tCall, tCons, tNil, tCB, tIf, tAnd, L2.tOr, tNot, tB, tAndV, tOrV, tNotV, tChain, tLst, tDrop, rIxH, upd_same, cxK, tIsN, sFld, tFld, Evl.rListS]), fun t ht => ?_⟩
      have et := ev_up (o := .tup [.int n, .ref p]) ht
      exact q n t p rs nss _ hn6 (e'.trans et) upd_same (Evl.fresh_back e' ht) ⟨hp, et _ _ R.at_, R.rows.ex et, R.off, R.near⟩ (by omega)
end
end Sr
namespace Sr
open PySem PySem.Spec PyProof.Rows L2
open Evl (Ex Ev EvL EvU EvT EvA RetL RetV)
section
variable {P : Program} {w : World} {K : PySem.W.Frag} {mg : Str → Option Value} {base : Heap} {f : Addr} {fd : FuncData}
/-- nothing of v, as far as it is changed later, is of H0 -/
def Nw2 (H0 H' : Hp) (v : V) : Prop := Nw H0 v ∧ ∀ xs, lstOf H' v = some xs → ∀ x ∈ xs, Nw H0 x
def Hd (H0 : Hp) (v : V) (H' : Hp) : Prop := D2 H' v ∧ Nw2 H0 H' v ∧ v ≠ .non
theorem hd_st {H0 : Hp} : ∀ v H1 H2, Ex H1 H2 → Hd H0 v H1 → Hd H0 v H2 := fun v H1 H2 e h => ⟨h.1.ex e, ⟨h.2.1.1, fun xs hx => h.2.1.2 xs (by rw [← h.1.1.lst_ex e]; exact hx)⟩, h.2.2⟩
theorem ex_pick {te : TE} {ta : TA} {σ : L2.St} {H : Hp} {P : V → Hp → Prop} {n : Nat} (st : ∀ v H1 H2, Ex H1 H2 → P v H1 → P v H2) (all : EaG ta σ H P n) (hn : n ≤ 1000) (hi : EvX te σ H fun y _ => ∃ z : Int, y = .int z ∧ 0 ≤ z ∧ z < n) : EvX (tOp rIxH (tLst ta) te) σ H P := fun H1 e Q q =>
  all H1 e _ fun vs H2 e2 hl hvs => ⟨Evl.sz_of (by omega), fun p hp => hi _ ((e.trans e2).trans (ev_up hp)) _ fun y H3 e3 ⟨z, hz, h0, h1⟩ => by
    obtain ⟨v, hv, hP⟩ := pick_any (xs := vs) (R := fun v => P v H2) h0 (by omega) hvs
    have e23 := (ev_up (o := .lst vs) hp).trans e3
    exact ⟨p, vs, z, v, rfl, hz, e3 _ _ upd_same, hv, q v H3 (e2.trans e23) (st v H2 H3 e23 hP)⟩⟩
theorem ex_mix {σ : L2.St} {H : Hp} {i : Nat} {c a : Int} {k : Nat} (hc : σ[i]? = some (some (.int c))) (ha : 0 ≤ a ∧ a ≤ 1000000) (hk : 0 < k) :
    EvX (tOp (rI (fun _ j => 0 < j) fun i j => .int (i % j)) (tCall spMixed [] E0 (tCons (tVar i) (tCons (tC (.int a)) tNil))) (tC (.int k))) σ H fun y _ => ∃ z : Int, y = .int z ∧ 0 ≤ z ∧ z < k := fun H1 e Q q =>
  ⟨_, hc, c, a, rfl, ha.1, by omega, fun m m0 m1 => ⟨m, k, rfl, rfl, by show (0 : Int) < (k : Int); omega, q _ H1 (Ex.refl H1) ⟨_, rfl, Int.emod_nonneg _ (by omega), Int.emod_lt_of_pos _ (by omega)⟩⟩⟩
theorem hd_list {H0 H : Hp} {p : Addr} {xs : List V} (h : H p = some (.lst xs)) (hp : H0 p = none) (hl : xs.length ≤ 1000) (hx : ∀ x ∈ xs, D1 H x ∧ Nw H0 x) : Hd H0 (.ref p) H := by
  refine ⟨⟨⟨_, .lst h⟩, fun ys e => ?_⟩, ⟨fun r z => by cases z; exact hp, fun ys e y hy => ?_⟩, fun z => nomatch z⟩
  · rw [lstOf_of h] at e
    cases e
    exact ⟨hl, fun x hx' => (hx x hx').1⟩
  · rw [lstOf_of h] at e
    cases e
    exact (hx y hy).2
theorem hd_of {H0 H : Hp} {v : V} (h : D0 H v) (hl : lstOf H v = none) (hn : Nw H0 v) (hv : v ≠ .non) : Hd H0 v H :=
  ⟨⟨h, fun xs e => by rw [hl] at e; cases e⟩, ⟨hn, fun xs e => by rw [hl] at e; cases e⟩, hv⟩
theorem d1_row {H : Hp} {r : Addr} {ns : List Int} (h : H r = some (.lst (ns.map V.int))) (hl : ns.length ≤ 1000) : D1 H (.ref r) := d1_list h (by simpa [tSeq, tAsg, tRet, tOp, tUn, tVar, tC, rI, rI0, rU, gName, L2.start, CMul, CDiv, CPow, tIfS, tTest, rEq, rNe, scal, tNext, tCall, tCons, tNil, tCB, tIf, tAnd, L2.tOr, tNot, tB, tAndV, tOrV, tNotV, tChain, tLst, tDrop, rIxH, upd_same, cxK, tIsN, sFld, tFld, Evl.rListS] using hl) fun x hx => by
  obtain ⟨z, _, rfl⟩ := List.mem_map.mp hx
  exact ⟨_, .int z⟩
theorem Rows.elem {H0 H : Hp} {n : Nat} {p : Addr} {rs : List Addr} {nss : List (List Int)} (R : Rows H0 H n p rs nss) (hn : n ≤ 6) : ∀ x ∈ rs.map V.ref, D1 H x ∧ Nw H0 x ∧ ∃ (a : Addr) (ns : List Int), x = .ref a ∧ H a = some (.lst (ns.map V.int)) ∧ ns.length ≤ 6 := fun x hx => by
  obtain ⟨r, hr, rfl⟩ := List.mem_map.mp hx
  obtain ⟨k, hk⟩ := List.mem_iff_getElem?.mp hr
  obtain ⟨ns, h1, h2⟩ := R.rows.get hk
  have h3 := (R.near ns (List.mem_of_getElem? h1)).1
  refine ⟨d1_row h2 (by omega), fun q z => ?_, r, ns, rfl, h2, by omega⟩
  cases z
  exact (R.off r hr).1
theorem ex_hdl {te : TE} {σ : L2.St} {H0 H : Hp} {xs : List V} (e0 : Ex H0 H) (h : EvL te σ H xs) (hl : xs.length ≤ 1000) (hx : ∀ x ∈ xs, D1 H x ∧ Nw H0 x) : EvX te σ H (Hd H0) := fun H1 e _ q =>
  h H1 e _ fun p H2 hp e2 h2 => q (.ref p) H2 e2 (hd_list h2 (Evl.fresh_back (e0.trans e) hp) hl fun x hx' => ⟨(hx x hx').1.ex (e.trans e2), (hx x hx').2⟩)
theorem ex_hdT {ta : TA} {σ : L2.St} {H0 H : Hp} {P : V → Hp → Prop} {n : Nat} (e0 : Ex H0 H) (all : EaG ta σ H P n) (hn : n ≤ 1000) : EvX (tTup ta) σ H (Hd H0) := fun H1 e Q q =>
  all H1 e _ fun vs H2 e2 hl _ => ⟨Evl.sz_of (by omega), fun p hp => q (.ref p) _ (e2.trans (ev_up hp)) (hd_of ⟨_, .tup upd_same⟩ (by simp [tSeq, tAsg, tRet, tOp, tUn, tVar, tC, rI, rI0, rU, gName, L2.start, CMul, CDiv, CPow, tIfS, tTest, rEq, rNe, scal, tNext, tCall, tCons, tNil, tCB, tIf, tAnd, L2.tOr, tNot, tB, tAndV, tOrV, tNotV, tChain, tLst, tDrop, rIxH, upd_same, cxK, tIsN, sFld, tFld, Evl.rListS, lstOf, upd_same]) (nw_new (e0.trans (e.trans e2)) hp) (fun z => nomatch z))⟩
theorem ex_hdL {ta : TA} {σ : L2.St} {H0 H : Hp} {n : Nat} (e0 : Ex H0 H) (all : EaG ta σ H (fun v H' => D1 H' v ∧ Nw H0 v) n) (hn : n ≤ 1000) : EvX (tLst ta) σ H (Hd H0) := fun H1 e Q q =>
  all H1 e _ fun vs H2 e2 hl hvs => ⟨Evl.sz_of (by omega), fun p hp => q (.ref p) _ (e2.trans (ev_up hp)) (hd_list upd_same (Evl.fresh_back (e0.trans (e.trans e2)) hp) (by omega) fun x hx => ⟨(hvs x hx).1.ex (ev_up hp), (hvs x hx).2⟩)⟩
theorem ex_hdD {σ : L2.St} {H0 H : Hp} (e0 : Ex H0 H) : EvX tDNewK σ H (Hd H0) := fun H2 e2 Q q p hp => q _ _ (ev_up hp) (hd_of ⟨_, .dK upd_same⟩ (by simp [tSeq, tAsg, tRet, tOp, tUn, tVar, tC, rI, rI0, rU, gName, L2.start, CMul, CDiv, CPow, tIfS, tTest, rEq, rNe, scal, tNext, tCall, tCons, tNil, tCB, tIf, tAnd, L2.tOr, tNot, tB, tAndV, tOrV, tNotV, tChain, tLst, tDrop, rIxH, upd_same, cxK, tIsN, sFld, tFld, Evl.rListS, lstOf, upd_same]) (nw_new (e0.trans e2) hp) (fun z => nomatch z))
theorem ex_hdO {te : TE} {σ : L2.St} {K : PySem.W.Frag} {H0 H : Hp} (e0 : Ex H0 H) {a : Addr} {xs : List V} (h : Ev te σ H (.ref a)) (hs : SqL K H a xs) : EvX (tCB (fun xs H Q => ∃ p ys, xs = [.ref p] ∧ ((SqL K H p ys ∧ ∀ l, H l = none → Q (.ref l) (upd H l (.tup ys))) ∨ (SqT K H p ys ∧ Q (.ref p) H))) (tCons te tNil)) σ H (Hd H0) :=
  fun H1 e Q q => h H1 e _ fun H2 e2 => ⟨a, xs, rfl, .inl ⟨Evl.ex_l (e.trans e2) hs, fun l hl => q _ _ (e2.trans (ev_up hl)) (hd_of ⟨_, .tup upd_same⟩ (by simp [tSeq, tAsg, tRet, tOp, tUn, tVar, tC, rI, rI0, rU, gName, L2.start, CMul, CDiv, CPow, tIfS, tTest, rEq, rNe, scal, tNext, tCall, tCons, tNil, tCB, tIf, tAnd, L2.tOr, tNot, tB, tAndV, tOrV, tNotV, tChain, tLst, tDrop, rIxH, upd_same, cxK, tIsN, sFld, tFld, Evl.rListS, lstOf, upd_same]) (nw_new (e0.trans (e.trans e2)) hl) (fun z => nomatch z))⟩⟩
theorem hd_c {H0 : Hp} {v : V} (h : ∀ H, D0 H v) (hl : ∀ H, lstOf H v = none) (hn : Nw H0 v) (hv : v ≠ .non) : ∀ H, Hd H0 v H := fun H => hd_of (h H) (hl H) hn hv
theorem d1w_st {H : Hp} : ∀ v H1 H2, Ex H1 H2 → (D1 H1 v ∧ Nw H v) → (D1 H2 v ∧ Nw H v) := fun _ _ _ e h => ⟨h.1.ex e, h.2⟩
def spBent (H0 : Hp) : Sp := fun vs H Q _ => ∃ (c : Int) (n : Nat) (p : Addr) (rs : List Addr) (nss : List (List Int)), vs = [.int c, .int n, .ref p] ∧ n ≤ 6 ∧ Ex H0 H ∧ Rows H0 H n p rs nss ∧ rs.length ≤ 17 ∧
  ∀ t l v H', Ex H H' → H' t = some (.tup [l, v]) → D0 H' l → Hd H0 v H' → Q (.ref t) H'
def spBentA : Sp := fun vs H Q E => ∃ H0, spBent H0 vs H Q E
theorem ok_l_bent (F : FnP K "_law_bent" "_law_bent" s_l_bent f fd) (B : Bi mg) (D_l_mixed : Df P w K mg base CX0 1 "_law_mixed" ["_law_cell", "_law_k"] spMixed) (D_l_odd_sum : Df P w K mg base CX0 2 "_law_odd_sum" ["_law_cell", "_law_one"] spOdd) : FnOk P w K mg base CX0 3 f fd ["_law_cell", "_law_letters", "_law_nothings"] spBentA := by
  refine F.ok sc_l_bent (fun vs H Q E h => ?_) (fun cdv A outer s H vs Q E hr h => ⟨_, PSs.nox
   (pss_cons (ps_set (i := 3) sc_l_bent.nd rfl (Or.inl rfl) (pe_op op_mod (pe_df D_l_mixed (hr.mono (by decide)) (pa_cons (pv 0) (pa_cons pe_int pa_nil))) pe_int))
      (pss_cons (ps_if (pt_cmpR op_eq (pv 3) pe_int (nomark _))
      (pss_one (ps_ret (pe_tup (pa_cons (pe_ix ix_h (pe_lst (pa_cons (pe_un un_neg pe_int) (pa_cons pe_int (pa_cons (pe_op op_add pe_int (pe_op op_mod (pv 0) pe_int)) (pa_cons pe_non (pa_cons pe_bl (pa_cons pe_str (pa_cons (pe_lst (pa_cons pe_int pa_nil)) (pa_cons (pe_tup pa_nil) (pa_cons (pe_op op_pow pe_int pe_int) (pa_cons pe_bl pa_nil))))))))))) (pe_op op_mod (pe_df D_l_mixed (hr.mono (by decide)) (pa_cons (pv 0) (pa_cons pe_int pa_nil))) pe_int) (fun _ _ => rfl)) (pa_cons (pv 2) pa_nil)))))
      pss_nil)
      (pss_cons (ps_if (pt_cmpR op_eq (pv 3) pe_int (nomark _))
      (pss_cons (ps_set (i := 4) sc_l_bent.nd rfl (Or.inl rfl) (pe_lst (pa_cons (pe_callTy call_tuple_of rfl B.tuple_ boot_tuple (pa_cons (pv 2) pa_nil)) (pa_cons pe_dnewK (pa_cons pe_str (pa_cons pe_str (pa_cons pe_int (pa_cons pe_bl (pa_cons (pe_tup (pa_cons (pe_lst (pa_cons pe_int pa_nil)) pa_nil)) (pa_cons (pe_lst (pa_cons pe_int (pa_cons pe_int pa_nil))) (pa_cons (pe_lst (pa_cons (pe_lst pa_nil) pa_nil)) (pa_cons (pe_lst (pa_cons pe_non pa_nil)) pa_nil))))))))))))
        (pss_one (ps_ret (pe_tup (pa_cons (pv 1) (pa_cons (pe_ix ix_list (pv 4) (pe_op op_mod (pe_df D_l_mixed (hr.mono (by decide)) (pa_cons (pv 0) (pa_cons pe_int pa_nil))) pe_int) (fun _ _ => rfl)) pa_nil))))))
      pss_nil)
      (pss_cons (ps_set (i := 5) sc_l_bent.nd rfl (Or.inl rfl) (pe_op op_mod (pe_df D_l_mixed (hr.mono (by decide)) (pa_cons (pv 0) (pa_cons pe_int pa_nil))) (pe_op op_add (pe_callB call_len_seq rfl B.len_ boot_len (pa_cons (pv 2) pa_nil)) pe_int)))
      (pss_cons (ps_set (i := 6) sc_l_bent.nd rfl (Or.inl rfl) (pe_df D_l_odd_sum (hr.mono (by decide)) (pa_cons (pe_df D_l_mixed (hr.mono (by decide)) (pa_cons (pv 0) (pa_cons pe_int pa_nil))) (pa_cons (pe_ix ix_list (pe_op op_cat (pv 2) (pe_lst (pa_cons (pe_op op_rep (pe_lst (pa_cons pe_int pa_nil)) (pv 1)) pa_nil))) (pv 5) (fun _ _ => rfl)) pa_nil))))
      (pss_one (ps_ret (pe_tup (pa_cons (pv 1) (pa_cons (pe_op op_cat (pe_op op_cat (pe_slice sl_list (pv 2) po_none (po_some (pv 5))) (pe_lst (pa_cons (pv 6) pa_nil))) (pe_slice sl_list (pv 2) (po_some (pv 5)) po_none)) pa_nil)))))))))), ?_⟩)
  · obtain ⟨H0, c, n, p, rs, nss, rfl, _⟩ := h
    rfl
  · obtain ⟨H0, c, n, p, rs, nss, rfl, hn, e0, R, hl, q⟩ := h
    simp only [cxK]
    refine ⟨_, rfl, c, 4, rfl, by decide, by decide, fun m m0 m1 => ⟨m, 6, rfl, rfl, (by decide : (0 : Int) < 6), ?_⟩⟩
    have hlr : (rs.map V.ref).length = rs.length := List.length_map ..
    have hdp : Hd H0 (.ref p) H := hd_list R.at_ R.p0 (by omega) fun x hx => ⟨(R.elem hn x hx).1, (R.elem hn x hx).2.1⟩
    refine Evl.q_when (Evl.et_test (Evl.ev_op (Evl.ev_var rfl) Evl.ev_c (Evl.rv_eq rfl))) (fun _ H1 e1 => ?_) (fun _ H1 e1 => ?_)
    · refine ex_pick (P := fun v H' => D0 H' v) (n := 10) d0_st ?_ (by decide) (ex_mix (c := c) rfl (by decide) (by decide)) H1 (Ex.refl H1) _ fun l H2 e2 hl2 => ?_
      · have hi : ∀ (i : Int) H', D0 H' (.int i) := fun i _ => ⟨_, .int i⟩
        refine eg_cons d0_st (ex_ev (Evl.ev_un Evl.ev_c Evl.ru_neg) (hi _)) ?_
        refine eg_cons d0_st (ex_c (hi _)) ?_
        refine eg_cons d0_st (ex_ev (Evl.ev_op Evl.ev_c (Evl.ev_op (Evl.ev_var rfl) Evl.ev_c (Evl.rv_I (by decide))) Evl.rv_I0) (hi _)) ?_
        refine eg_cons d0_st (ex_c fun _ => ⟨_, .non⟩) ?_
        refine eg_cons d0_st (ex_c fun _ => ⟨_, .bl _⟩) ?_
        refine eg_cons d0_st (ex_c fun _ => ⟨_, .str _⟩) ?_
        refine eg_cons d0_st (ex0_l (Evl.el_lst (Evl.ea_cons Evl.ev_c Evl.ea_nil) (by simp [tSeq, tAsg, tRet, tOp, tUn, tVar, tC, rI, rI0, rU, gName, L2.start, CMul, CDiv, CPow, tIfS, tTest, rEq, rNe, scal, tNext, tCall, tCons, tNil, tCB, tIf, tAnd, L2.tOr, tNot, tB, tAndV, tOrV, tNotV, tChain, tLst, tDrop, rIxH, upd_same, cxK, tIsN, sFld, tFld, Evl.rListS]))) ?_
        refine eg_cons d0_st (ex0_u (Evl.eu_tup Evl.ea_nil (by simp [tSeq, tAsg, tRet, tOp, tUn, tVar, tC, rI, rI0, rU, gName, L2.start, CMul, CDiv, CPow, tIfS, tTest, rEq, rNe, scal, tNext, tCall, tCons, tNil, tCB, tIf, tAnd, L2.tOr, tNot, tB, tAndV, tOrV, tNotV, tChain, tLst, tDrop, rIxH, upd_same, cxK, tIsN, sFld, tFld, Evl.rListS]))) ?_
        refine eg_cons d0_st (ex_ev (ev_pow (by decide) (by decide) (by decide)) (hi _)) ?_
        exact eg_cons d0_st (ex_c fun _ => ⟨_, .bl _⟩) eg_nil
      · refine ⟨_, rfl, Evl.sz_of (by simp [tSeq, tAsg, tRet, tOp, tUn, tVar, tC, rI, rI0, rU, gName, L2.start, CMul, CDiv, CPow, tIfS, tTest, rEq, rNe, scal, tNext, tCall, tCons, tNil, tCB, tIf, tAnd, L2.tOr, tNot, tB, tAndV, tOrV, tNotV, tChain, tLst, tDrop, rIxH, upd_same, cxK, tIsN, sFld, tFld, Evl.rListS]), fun t ht => ?_⟩
        have e3 := e2.trans (ev_up (o := .tup [l, .ref p]) ht)
        exact q t l (.ref p) _ (e1.trans e3) upd_same (hl2.ex (ev_up ht)) (hd_st _ _ _ (e1.trans e3) hdp)
    refine Evl.q_when (Evl.et_test (Evl.ev_op (Evl.ev_var rfl) Evl.ev_c (Evl.rv_eq rfl))) (fun _ H2 e2 => ?_) (fun _ H2 e2 => ?_)
    · have e02 := (e0.trans e1).trans e2
      refine asg_lst (P := Hd H0) (n := 10) ?_ (by decide) (fun vs p2 H3 e3 hl3 hvs hp2 => ?_)
      · refine eg_cons hd_st (ex_hdO (K := K) e02 (Evl.ev_var rfl) (Evl.sq_of (e2 _ _ (e1 _ _ R.at_)))) ?_
        refine eg_cons hd_st (ex_hdD e02) ?_
        refine eg_cons hd_st (ex_c (hd_c (fun _ => ⟨_, .str _⟩) (fun _ => rfl) nw_str (fun z => nomatch z))) ?_
        refine eg_cons hd_st (ex_c (hd_c (fun _ => ⟨_, .str _⟩) (fun _ => rfl) nw_str (fun z => nomatch z))) ?_
        refine eg_cons hd_st (ex_c (hd_c (fun _ => ⟨_, .int _⟩) (fun _ => rfl) nw_int (fun z => nomatch z))) ?_
        refine eg_cons hd_st (ex_c (hd_c (fun _ => ⟨_, .bl _⟩) (fun _ => rfl) nw_bl (fun z => nomatch z))) ?_
        refine eg_cons hd_st (ex_hdT (n := 1) e02 (eg_cons d0_st (ex0_l (Evl.el_lst (Evl.ea_cons Evl.ev_c Evl.ea_nil) (by simp [tSeq, tAsg, tRet, tOp, tUn, tVar, tC, rI, rI0, rU, gName, L2.start, CMul, CDiv, CPow, tIfS, tTest, rEq, rNe, scal, tNext, tCall, tCons, tNil, tCB, tIf, tAnd, L2.tOr, tNot, tB, tAndV, tOrV, tNotV, tChain, tLst, tDrop, rIxH, upd_same, cxK, tIsN, sFld, tFld, Evl.rListS]))) eg_nil) (by decide)) ?_
        refine eg_cons hd_st (ex_hdL (n := 2) e02 (eg_cons d1w_st (ex_c fun _ => ⟨d1_int, nw_int⟩) (eg_cons d1w_st (ex_c fun _ => ⟨d1_int, nw_int⟩) eg_nil)) (by decide)) ?_
        refine eg_cons hd_st (ex_hdL (n := 1) e02 (eg_cons d1w_st ((ex_l (Evl.el_lst Evl.ea_nil (by simp [tSeq, tAsg, tRet, tOp, tUn, tVar, tC, rI, rI0, rU, gName, L2.start, CMul, CDiv, CPow, tIfS, tTest, rEq, rNe, scal, tNext, tCall, tCons, tNil, tCB, tIf, tAnd, L2.tOr, tNot, tB, tAndV, tOrV, tNotV, tChain, tLst, tDrop, rIxH, upd_same, cxK, tIsN, sFld, tFld, Evl.rListS])) (by simp [tSeq, tAsg, tRet, tOp, tUn, tVar, tC, rI, rI0, rU, gName, L2.start, CMul, CDiv, CPow, tIfS, tTest, rEq, rNe, scal, tNext, tCall, tCons, tNil, tCB, tIf, tAnd, L2.tOr, tNot, tB, tAndV, tOrV, tNotV, tChain, tLst, tDrop, rIxH, upd_same, cxK, tIsN, sFld, tFld, Evl.rListS]) (fun x hx => by cases hx)).weak fun y H5 _ hy => ⟨hy.1, nw_ex e02 hy.2⟩) eg_nil) (by decide)) ?_
        exact eg_cons hd_st (ex_hdL (n := 1) e02 (eg_cons d1w_st (ex_c fun _ => ⟨d1_non, nw_non⟩) eg_nil) (by decide)) eg_nil
      · refine ⟨_, rfl, _, rfl, ?_⟩
        have e4 := ev_up (o := .lst vs) hp2
        refine ex_mix (c := c) (k := 10) rfl (by decide) (by decide) _ (Ex.refl _) _ fun y H5 e5 ⟨z, hz, z0, z1⟩ => ?_
        obtain ⟨v, hv, hP⟩ := pick_any (xs := vs) (R := fun v => Hd H0 v H3) z0 (by omega) hvs
        refine ⟨p2, vs, z, v, rfl, hz, Evl.sq_of (e5 _ _ upd_same), hv, Evl.sz_of (by simp [tSeq, tAsg, tRet, tOp, tUn, tVar, tC, rI, rI0, rU, gName, L2.start, CMul, CDiv, CPow, tIfS, tTest, rEq, rNe, scal, tNext, tCall, tCons, tNil, tCB, tIf, tAnd, L2.tOr, tNot, tB, tAndV, tOrV, tNotV, tChain, tLst, tDrop, rIxH, upd_same, cxK, tIsN, sFld, tFld, Evl.rListS]), fun t ht => ?_⟩
        have e35 := (e4.trans e5).trans (ev_up (o := .tup [.int n, v]) ht)
        exact q t (.int n) v _ (((e1.trans e2).trans e3).trans e35) upd_same ⟨_, .int n⟩ (hd_st _ _ _ e35 hP)
    · have e12 := e1.trans e2
      have e02 := e0.trans e12
      have hp2 := e12 _ _ R.at_
      refine ⟨_, rfl, c, 6, rfl, by decide, by decide, fun m2 m20 m21 => ?_⟩
      refine ⟨_, rfl, p, _, rfl, .inl (Evl.sq_of hp2), _, _, rfl, rfl, m2, _, rfl, rfl, by show (0 : Int) < _ + 1; omega, ?_⟩
      have a0 : 0 ≤ m2 % (((rs.map V.ref).length : Int) + 1) := Int.emod_nonneg _ (by omega)
      have a1 : m2 % (((rs.map V.ref).length : Int) + 1) < ((rs.map V.ref).length : Int) + 1 := Int.emod_lt_of_pos _ (by omega)
      refine ⟨_, rfl, c, 7, rfl, by decide, by decide, fun m3 m30 m31 => ?_⟩
      refine ⟨_, rfl, ?_⟩
      refine el_rep (n := n) (Evl.ev_var rfl) (ek_l (Evl.el_lst (Evl.ea_cons Evl.ev_c Evl.ea_nil) (by simp [tSeq, tAsg, tRet, tOp, tUn, tVar, tC, rI, rI0, rU, gName, L2.start, CMul, CDiv, CPow, tIfS, tTest, rEq, rNe, scal, tNext, tCall, tCons, tNil, tCB, tIf, tAnd, L2.tOr, tNot, tB, tAndV, tOrV, tNotV, tChain, tLst, tDrop, rIxH, upd_same, cxK, tIsN, sFld, tFld, Evl.rListS]))) (by omega) (by omega) H2 (Ex.refl H2) _ fun z H3 hz e3 h3 => ?_
      refine ⟨Evl.sz_of (by simp [tSeq, tAsg, tRet, tOp, tUn, tVar, tC, rI, rI0, rU, gName, L2.start, CMul, CDiv, CPow, tIfS, tTest, rEq, rNe, scal, tNext, tCall, tCons, tNil, tCB, tIf, tAnd, L2.tOr, tNot, tB, tAndV, tOrV, tNotV, tChain, tLst, tDrop, rIxH, upd_same, cxK, tIsN, sFld, tFld, Evl.rListS]), fun w hw => ?_⟩
      have e4 := ev_up (o := .lst [.ref z]) hw
      refine ⟨p, w, _, _, rfl, rfl, e4 _ _ (e3 _ _ hp2), upd_same, Evl.sz_of (by simp [tSeq, tAsg, tRet, tOp, tUn, tVar, tC, rI, rI0, rU, gName, L2.start, CMul, CDiv, CPow, tIfS, tTest, rEq, rNe, scal, tNext, tCall, tCons, tNil, tCB, tIf, tAnd, L2.tOr, tNot, tB, tAndV, tOrV, tNotV, tChain, tLst, tDrop, rIxH, upd_same, cxK, tIsN, sFld, tFld, Evl.rListS]; omega), fun u hu => ?_⟩
      have e5 := ev_up (o := .lst (rs.map V.ref ++ [.ref z])) hu
      obtain ⟨x, hx, a, ns, rfl, ha, hns⟩ := pick_any (xs := rs.map V.ref ++ [.ref z]) (R := fun x => ∃ (a : Addr) (ns : List Int), x = .ref a ∧ H3 a = some (.lst (ns.map V.int)) ∧ ns.length ≤ 6) a0 (by simp only [List.length_append, List.length_singleton]; omega) fun x hx => by
        rcases List.mem_append.mp hx with hx | hx
        · obtain ⟨_, _, a, ns, h1, h2, h3⟩ := R.elem hn x hx
          exact ⟨a, ns, h1, (e12.trans e3) _ _ h2, h3⟩
        · refine ⟨z, List.replicate n 0, List.mem_singleton.mp hx, ?_, by simpa [tSeq, tAsg, tRet, tOp, tUn, tVar, tC, rI, rI0, rU, gName, L2.start, CMul, CDiv, CPow, tIfS, tTest, rEq, rNe, scal, tNext, tCall, tCons, tNil, tCB, tIf, tAnd, L2.tOr, tNot, tB, tAndV, tOrV, tNotV, tChain, tLst, tDrop, rIxH, upd_same, cxK, tIsN, sFld, tFld, Evl.rListS] using hn⟩
          rw [h3]
          simp [tSeq, tAsg, tRet, tOp, tUn, tVar, tC, rI, rI0, rU, gName, L2.start, CMul, CDiv, CPow, tIfS, tTest, rEq, rNe, scal, tNext, tCall, tCons, tNil, tCB, tIf, tAnd, L2.tOr, tNot, tB, tAndV, tOrV, tNotV, tChain, tLst, tDrop, rIxH, upd_same, cxK, tIsN, sFld, tFld, Evl.rListS]
      refine ⟨_, rfl, u, _, _, _, rfl, rfl, Evl.sq_of upd_same, hx, m3, a, ns, rfl, (e4.trans e5) _ _ ha, hns, fun v H6 e6 hv hnw => ?_⟩
      have e26 := ((e3.trans e4).trans e5).trans e6
      have e03 := (e02.trans e3).trans (e4.trans e5)
      have hp6 := e26 _ _ hp2
      refine ⟨_, rfl, ?_⟩
      have vp : ∀ {l : List (Option V)}, Ev (tVar 2) (some (.int c) :: some (.int n) :: some (.ref p) :: l) H6 (.ref p) := fun {l} => Evl.ev_var rfl
      have sh : ∀ lo hi : Option Int, (cutV (rs.map V.ref) lo hi).length ≤ 17 := fun lo hi => by
        have := cutV_length (rs.map V.ref) lo hi
        omega
      refine el_cat (ek_l (el_cat (ek_l (Evl.el_sl (Evl.ev_var rfl) Evl.eo_none (Evl.eo_some (Evl.ev_var rfl)) (Evl.sq_of hp6))) (ek_l (Evl.el_lst (Evl.ea_cons (Evl.ev_var rfl) Evl.ea_nil) (by simp [tSeq, tAsg, tRet, tOp, tUn, tVar, tC, rI, rI0, rU, gName, L2.start, CMul, CDiv, CPow, tIfS, tTest, rEq, rNe, scal, tNext, tCall, tCons, tNil, tCB, tIf, tAnd, L2.tOr, tNot, tB, tAndV, tOrV, tNotV, tChain, tLst, tDrop, rIxH, upd_same, cxK, tIsN, sFld, tFld, Evl.rListS]))) ?_)) (ek_l (Evl.el_sl (Evl.ev_var rfl) (Evl.eo_some (Evl.ev_var rfl)) Evl.eo_none (Evl.sq_of hp6))) ?_ H6 (Ex.refl H6) _ fun w2 H7 hw2 e7 h7 => ?_
      · have := sh none (some (m2 % (((rs.map V.ref).length : Int) + 1)))
        show _ + 1 ≤ 1000
        omega
      · have h1 := sh none (some (m2 % (((rs.map V.ref).length : Int) + 1)))
        have h2 := sh (some (m2 % (((rs.map V.ref).length : Int) + 1))) none
        rw [List.length_append]
        show (_ + 1) + _ ≤ 1000
        omega
      · refine ⟨Evl.sz_of (by simp [tSeq, tAsg, tRet, tOp, tUn, tVar, tC, rI, rI0, rU, gName, L2.start, CMul, CDiv, CPow, tIfS, tTest, rEq, rNe, scal, tNext, tCall, tCons, tNil, tCB, tIf, tAnd, L2.tOr, tNot, tB, tAndV, tOrV, tNotV, tChain, tLst, tDrop, rIxH, upd_same, cxK, tIsN, sFld, tFld, Evl.rListS]), fun t ht => ?_⟩
        have e8 := e7.trans (ev_up (o := .tup [.int n, .ref w2]) ht)
        refine q t (.int n) (.ref w2) _ ((e12.trans e26).trans e8) upd_same ⟨_, .int n⟩ (hd_st _ _ _ (ev_up ht) (hd_list h7 (Evl.fresh_back (e03.trans e6) hw2) ?_ fun x hx => ?_))
        · have h1 := sh none (some (m2 % (((rs.map V.ref).length : Int) + 1)))
          have h2 := sh (some (m2 % (((rs.map V.ref).length : Int) + 1))) none
          rw [List.length_append, List.length_append]
          show (_ + 1) + _ ≤ 1000
          omega
        · have old : ∀ y ∈ rs.map V.ref, D1 H7 y ∧ Nw H0 y := fun y hy => ⟨(R.elem hn y hy).1.ex ((e12.trans e26).trans e7), (R.elem hn y hy).2.1⟩
          rcases List.mem_append.mp hx with hx | hx
          · rcases List.mem_append.mp hx with hx | hx
            · exact old x (cut_mem hx)
            · rw [List.mem_singleton.mp hx]
              exact ⟨hv.ex e7, nw_ex e03 hnw⟩
          · exact old x (cut_mem hx)
end
end Sr
namespace Sr
open PySem PySem.Spec PyProof.Rows L2
open Evl (Ex Ev EvL EvU EvT EvA RetL RetV)
section
variable {P : Program} {w : World} {K : PySem.W.Frag} {mg : Str → Option Value} {base : Heap} {f : Addr} {fd : FuncData}
theorem iteB {b : Bool} {A B : Prop} (h1 : b = true → A) (h2 : b = false → B) : if b = true then A else B := by
  cases b with
  | true => exact h1 rfl
  | false => exact h2 rfl
theorem ifT {b : Bool} {A B : Prop} (hb : b = true) (h : A) : if b = true then A else B := by
  rw [if_pos hb]
  exact h
theorem ifF {b : Bool} {A B : Prop} (hb : b = false) (h : B) : if b = true then A else B := by
  rw [hb]
  exact h
theorem ne_self {w v : V} {H : Hp} {T : String} (kv : Kd H v T) (hls : lstOf H w = lstOf H v) (hnone : lstOf H v = none → w = v) (hx : ∀ xs, lstOf H v = some xs → ∀ x ∈ xs, D0 H x) {Q : VK} (q : Q (.bl false) H) : rNeH w v H Q := by
  cases h : lstOf H v with
  | some xs =>
    obtain ⟨a, rfl, ha⟩ := lstOf_some (hls.trans h)
    obtain ⟨b, rfl, hb⟩ := lstOf_some h
    exact Or.inl (Or.inl (Or.inr ⟨a, b, xs, rfl, rfl, ha, hb, fun z hz => (hx xs h z hz).elim fun T k => k.plain, q⟩))
  | none =>
    have e := hnone h
    subst e
    have sc : ∀ hs : scal w w = true, rNe w w H Q := fun hs => ⟨hs, by simpa [tSeq, tAsg, tRet, tOp, tUn, tVar, tC, rI, rI0, rU, gName, L2.start, CMul, CDiv, CPow, tIfS, tTest, rEq, rNe, scal, tNext, tCall, tCons, tNil, tCB, tIf, tAnd, L2.tOr, tNot, tB, tAndV, tOrV, tNotV, tChain, tLst, tDrop, rIxH, upd_same, cxK, tIsN, sFld, tFld, Evl.rListS] using q⟩
    cases kv with
    | lst g => rw [lstOf_of g] at h; cases h
    | tup g => exact Or.inl (Or.inr ⟨_, _, rfl, rfl, g, q⟩)
    | dK g => exact Or.inr ⟨_, _, [], [], rfl, rfl, g, g, rfl, (fun p hp => by cases hp), q⟩
    | non => exact Or.inl (Or.inl (Or.inl (sc rfl)))
    | bl b => exact Or.inl (Or.inl (Or.inl (sc rfl)))
    | int b => exact Or.inl (Or.inl (Or.inl (sc rfl)))
    | str b => exact Or.inl (Or.inl (Or.inl (sc rfl)))
theorem RoomAt.ex' {H H' : Hp} {C x : Addr} {n : Int} {ln : Addr} {rs : List Addr} {nss : List (List Int)} (r : RoomAt H C x n ln rs nss) (e : ∀ b o, H b = some o → H' b = some o) : RoomAt H' C x n ln rs nss :=
  ⟨r.obj.elim fun dx h => ⟨dx, e _ _ h⟩, e _ _ r.lst, r.rows.ex e⟩
theorem room_empty {H : Hp} {C CL CS CT : Addr} {v : V} {Q : Addr → Hp → Prop} (hv : v = .non ∨ ∃ e, v = .ref e ∧ H e = some (.lst []))
    (q : ∀ x ln H', H x = none → H ln = none → RoomAt H' C x 3 ln [] [] → Ex H H' → Q x H') :
    ∀ x dx, H x = none → H dx = none → dx ≠ x → spInit C CL CS CT [.ref x, .int 3, v] (upd (upd H dx (.own x)) x (.ins C dx [])) (fun v H2 => v = .non ∧ Q x H2) E0 := by
  intro x dx hx hdx hne
  have e0 : Ex H (upd (upd H dx (.own x)) x (.ins C dx [])) := by
    refine (ev_up hdx).trans (ev_up ?_)
    rw [upd_ne (Ne.symm hne)]
    exact hx
  have hx0 : upd (upd H dx (.own x)) x (.ins C dx []) x = some (.ins C dx []) := upd_same
  generalize upd (upd H dx (.own x)) x (.ins C dx []) = H0 at e0 hx0 ⊢
  have hb : badL (.int 3) = false := by decide
  have hd : D2 H0 v := by
    rcases hv with rfl | ⟨e, rfl, he⟩
    · exact ⟨⟨_, .non⟩, fun xs h => by cases h⟩
    · refine ⟨⟨_, .lst (e0 _ _ he)⟩, fun xs h => ?_⟩
      rw [lstOf_of (e0 _ _ he)] at h
      cases h
      exact ⟨by simp [tSeq, tAsg, tRet, tOp, tUn, tVar, tC, rI, rI0, rU, gName, L2.start, CMul, CDiv, CPow, tIfS, tTest, rEq, rNe, scal, tNext, tCall, tCons, tNil, tCB, tIf, tAnd, L2.tOr, tNot, tB, tAndV, tOrV, tNotV, tChain, tLst, tDrop, rIxH, upd_same, cxK, tIsN, sFld, tFld, Evl.rListS], fun x hx => by cases hx⟩
  refine ⟨x, dx, .int 3, v, rfl, hx0, ⟨_, .int 3⟩, hd, (fun h => by rw [hb] at h; cases h), ?_, ?_, ?_⟩
  · rintro n hn _ hvn ht
    rcases hv with h | ⟨e, rfl, he⟩
    · exact absurd h hvn
    · simp [tSeq, tAsg, tRet, tOp, tUn, tVar, tC, rI, rI0, rU, gName, L2.start, CMul, CDiv, CPow, tIfS, tTest, rEq, rNe, scal, tNext, tCall, tCons, tNil, tCB, tIf, tAnd, L2.tOr, tNot, tB, tAndV, tOrV, tNotV, tChain, tLst, tDrop, rIxH, upd_same, cxK, tIsN, sFld, tFld, Evl.rListS, tblOk, lstOf_of (e0 _ _ he)] at ht
  · rintro n a xs hn _ rfl ha _ hbig
    rcases hv with h | ⟨e, h, he⟩
    · cases h
    · cases h
      rw [e0 _ _ he] at ha
      cases ha
      simp [tSeq, tAsg, tRet, tOp, tUn, tVar, tC, rI, rI0, rU, gName, L2.start, CMul, CDiv, CPow, tIfS, tTest, rEq, rNe, scal, tNext, tCall, tCons, tNil, tCB, tIf, tAnd, L2.tOr, tNot, tB, tAndV, tOrV, tNotV, tChain, tLst, tDrop, rIxH, upd_same, cxK, tIsN, sFld, tFld, Evl.rListS] at hbig
  · rintro n ln rs nss H' hn _ hcase room new hfr
    cases hn
    refine ⟨rfl, ?_⟩
    have hnss : nss = [] := by
      rcases hcase with ⟨_, h⟩ | ⟨a, as, rfl, ha, hr, _⟩
      · exact h
      · rcases hv with h | ⟨e, h, he⟩
        · cases h
        · cases h
          rw [e0 _ _ he] at ha
          have z : as = [] := by
            injection ha with ha
            injection ha with ha
            exact (List.map_eq_nil_iff.mp ha.symm)
          subst z
          exact List.eq_nil_of_length_eq_zero hr.len.symm
    subst hnss
    have hrs : rs = [] := List.eq_nil_of_length_eq_zero room.rows.len
    subst hrs
    exact q x ln H' hx (Evl.fresh_back e0 new.1) room fun b o he => hfr b o (fun z => by rw [z, hx] at he; cases he) (e0 _ _ he)
structure RoomIs (K : PySem.W.Frag) (C : Addr) : Prop where
  ha : PySem.W.findIn K (.ref C) "__class__" = some (some (.builtin "object.__class__"))
  hn : PySem.W.specialIn K (.builtin "object.__class__") "__get__" = some (some (.builtin "getset_descriptor.__get__"))
  ht : PySem.W.takesIn K (.builtin "object.__class__") = some true
  hm : PySem.W.mroIn K C (.type "object") = some true
  str : PySem.W.kitOne K (.ref C) (.type "str") = some false
def spLaw (K : PySem.W.Frag) : Sp := fun vs H Q _ => ∃ (a : Addr) (ns : List Int), vs = [.ref a] ∧ SqL K H a (ns.map V.int) ∧ ns.length ≤ 900 ∧ ∀ H', Q (.bl true) H'
theorem ok_law {C CL CS CT : Addr} (F : FnP K "law" "law" s_law f fd) (B : Bi mg) (R0 : Rc K C) (RM : RoomMk P w K mg base C CL CS CT) (RI : RoomIs K C)
    (D_l_mixed : Df P w K mg base CX0 1 "_law_mixed" ["_law_cell", "_law_k"] spMixed) (D_l_drawn : Df P w K mg base CX0 4 "_law_drawn" ["_law_cell"] spDrawn) (D_l_bent : Df P w K mg base CX0 3 "_law_bent" ["_law_cell", "_law_letters", "_law_nothings"] spBentA)
    (D_l_due : Df P w K mg base CX0 3 "_law_due" ["_law_letters", "_law_nothings"] spDue) (D_l_made : Df P w K mg base CX0 7 "_law_made" ["_law_letters", "_law_nothings"] (spMade C)) (D_l_whole : Df P w K mg base CX0 1 "_law_whole" ["_law_found"] spIsWhole)
    (ML : Mt P w K mg base CX0 1 C "letters" ["self"] (spLetters C)) (MN : Mt P w K mg base CX0 1 C "nothings" ["self"] (spNothings C)) (MP : Mt P w K mg base (L2.CX P w) 4 C "put" ["self", "one"] (spPut C)) : FnOk P w K mg base CX0 8 f fd ["_law_script"] (spLaw K) := by
  obtain ⟨fI, fdI, ds, MK, FI, b3, dv, b1⟩ := RM.ex
  obtain ⟨fL, fdL, FL, mL, bL⟩ := ML
  obtain ⟨fN, fdN, FN, mN, bN⟩ := MN
  obtain ⟨fP, fdP, FP, mP, bP⟩ := MP
  refine F.ok sc_law (fun vs H Q E h => ?_) (fun cdv A outer s H vs Q E hr h => ⟨_, PSs.nox
   (pss_cons (ps_for PassesOwn.never rfl (pi_enum rfl B.enumerate_ (pa_cons (pe_op op_cat (pe_lst (pa_cons pe_int pa_nil)) (pe_callTy (r := Evl.rListS K) call_list_of rfl B.list_ boot_list (pa_cons (pe_slice sl_list (pv 0) po_none (po_some pe_int)) pa_nil))) pa_nil)) (pg_tup rfl (pgs_cons (pg_name (i := 1) sc_law.nd rfl (Or.inl rfl)) (pgs_cons (pg_name (i := 2) sc_law.nd rfl (Or.inl rfl)) pgs_nil)))
      (Evl.pss_cut (ps_asg (pe_df D_l_drawn (hr.mono (by decide)) (pa_cons (pe_df D_l_mixed (hr.mono (by decide)) (pa_cons (pv 2) (pa_cons (pv 1) pa_nil))) pa_nil)) (pg_tup rfl (pgs_cons (pg_name (i := 3) sc_law.nd rfl (Or.inl rfl)) (pgs_cons (pg_name (i := 4) sc_law.nd rfl (Or.inl rfl)) pgs_nil))))
        (Evl.pss_cut (ps_if (pt_cmpR op_eq (pe_op op_mod (pe_df D_l_mixed (hr.mono (by decide)) (pa_cons (pv 2) (pa_cons pe_int pa_nil))) pe_int) pe_int (nomark _))
        (pss_one (ps_asg (pe_df D_l_bent (hr.mono (by decide)) (pa_cons (pe_df D_l_mixed (hr.mono (by decide)) (pa_cons (pv 2) (pa_cons pe_int pa_nil))) (pa_cons (pv 3) (pa_cons (pv 4) pa_nil)))) (pg_tup rfl (pgs_cons (pg_name (i := 3) sc_law.nd rfl (Or.inl rfl)) (pgs_cons (pg_name (i := 4) sc_law.nd rfl (Or.inl rfl)) pgs_nil)))))
        pss_nil)
        (pss_cons (ps_set (i := 5) sc_law.nd rfl (Or.inl rfl) (pe_df D_l_due (hr.mono (by decide)) (pa_cons (pv 3) (pa_cons (pv 4) pa_nil))))
        (Evl.pss_cut (ps_set (i := 6) sc_law.nd rfl (Or.inl rfl) (pe_ifExp (pt_val (pe_callB call_isK rfl B.isinstance_ boot_isinstance (pa_cons (pv 4) (pa_cons (pe_bltn (v := .ty "list") rfl B.list_ boot_list rfl) pa_nil)))) (pe_callTy (r := Evl.rListS K) call_list_of rfl B.list_ boot_list (pa_cons (pv 4) pa_nil)) (pv 4)))
        (pss_cons (ps_set (i := 7) sc_law.nd rfl (Or.inl rfl) (pe_df D_l_made (hr.mono (by decide)) (pa_cons (pv 3) (pa_cons (pv 6) pa_nil))))
        (pss_cons (ps_if (PW.pt (pw_or (pt_cmpR (op_neH (Nat.lt_of_le_of_lt (Nat.le_add_right _ 64) (hu64 hr))) (pv 6) (pv 4) (nomark _)) (pw_or (PW.pt (pw_and (pt_cmpR op_ne (pv 5) pe_str (nomark _)) (pw_and1 (pt_cmpR op_ne (pv 7) (pv 5) (nomark _))))) (pw_or1 (PW.pt (pw_and (pt_cmpR op_eq (pv 5) pe_str (nomark _)) (pw_and1 (pt_val (pe_callB call_isi rfl B.isinstance_ boot_isinstance (pa_cons (pv 7) (pa_cons (pe_bltn (v := .ty "str") rfl B.str_ boot_str rfl) pa_nil)))))))))))
        (pss_one (ps_ret pe_bl))
        pss_nil)
        (pss_cons (ps_if (pt_cmpR op_ne (pv 5) pe_str (nomark _))
        (pss_one ps_continue)
        pss_nil)
        (pss_cons (ps_setLc (i := 8) (own := [("_law_one", 9)]) (g := gName 9) (tt := tYes) rfl sc_law.nd rfl rfl (sw_true rfl rfl rfl (by decide +kernel)) (pi_list (pv 4)) (blkOk_by (N := n_law) (sc := defScope s_law) (by decide +kernel)) (fun _ _ _ _ _ => (pg_name (i := 9) sc_law.nd rfl (Or.inl rfl))) (fun _ _ _ _ _ => pts_nil) (fun _ _ _ _ _ => (pe_callTy (r := Evl.rListS K) call_list_of rfl B.list_ boot_list (pa_cons (pv 9) pa_nil))))
        (pss_cons (ps_for PassesOwn.never rfl (pi_list (pv 6)) (pg_name (i := 9) sc_law.nd rfl (Or.inl rfl))
        (pss_one (ps_expr (pe_bm PySem.F.plainAttrs_list PySem.F.slot_list_append PySem.F.type_list_append mt_append (pv 9) (pa_cons pe_int pa_nil)))))
        (pss_cons (ps_expr (pe_bm PySem.F.plainAttrs_list PySem.F.slot_list_append PySem.F.type_list_append mt_append (pv 6) (pa_cons (pe_lst pa_nil) pa_nil)))
        (pss_one (ps_for PassesOwn.never rfl (pi_range1 rfl B.range_ (pa_cons pe_int pa_nil)) (pg_name (i := 10) sc_law.nd rfl (Or.inl rfl))
        (pss_cons (ps_set (i := 11) sc_law.nd rfl (Or.inl rfl) (pe_meth0 (pv 7) R0.cl mN FN (hr.mono (by decide)) bN .nil pass0))
          (pss_cons (ps_if (PW.pt (pw_or (pt_not (pt_val (pe_df D_l_whole (hr.mono (by decide)) (pa_cons (pe_meth0 (pv 7) R0.cl mL FL (hr.mono (by decide)) bL .nil pass0) pa_nil)))) (pw_or1 (pt_cmpR op_ne (pe_meth0 (pv 7) R0.cl mL FL (hr.mono (by decide)) bL .nil pass0) (pv 3) (nomark _)))))
          (pss_one (ps_ret pe_bl))
          pss_nil)
          (pss_cons (ps_if (PW.pt (pw_or (pt_not (pt_val (pe_callB call_isK rfl B.isinstance_ boot_isinstance (pa_cons (pv 11) (pa_cons (pe_bltn (v := .ty "list") rfl B.list_ boot_list rfl) pa_nil))))) (pw_or (pt_cmpR (op_neD (hu64 hr)) (pv 11) (pv 8) (nomark _)) (pw_or1 (pt_not (pt_val (pe_callB (cr_all rfl) rfl B.all_ boot_all (pa_cons (pe_lc (own := [("_law_one", 9)]) (g := gName 9) (tt := tYes) rfl sc_law.nd (pi_list (pv 11)) (blkOk_by (N := n_law) (sc := defScope s_law) (by decide +kernel)) (fun _ _ _ _ _ => (pg_name (i := 9) sc_law.nd rfl (Or.inl rfl))) (fun _ _ _ _ _ => pts_nil) (fun _ _ _ _ _ => (pe_callB call_isK rfl B.isinstance_ boot_isinstance (pa_cons (pv 9) (pa_cons (pe_bltn (v := .ty "list") rfl B.list_ boot_list rfl) pa_nil))))) pa_nil))))))))
          (pss_one (ps_ret pe_bl))
          pss_nil)
          (pss_cons (ps_for PassesOwn.never rfl (pi_list (pv 11)) (pg_name (i := 9) sc_law.nd rfl (Or.inl rfl))
          (pss_one (ps_expr (pe_bm PySem.F.plainAttrs_list PySem.F.slot_list_append PySem.F.type_list_append mt_append (pv 9) (pa_cons pe_int pa_nil)))))
          (pss_one (ps_expr (pe_bm PySem.F.plainAttrs_list PySem.F.slot_list_append PySem.F.type_list_append mt_append (pv 11) (pa_cons pe_non pa_nil)))))))))))))))))))))
      (pss_cons (ps_set (i := 12) sc_law.nd rfl (Or.inl rfl) (pe_lst (pa_cons (pe_make MK FI (hr.mono (by decide)) rfl RM.g b1 dv passL (pa_cons pe_int pa_nil)) (pa_cons (pe_make MK FI (hr.mono (by decide)) rfl RM.g b3 .nil passL (pa_cons pe_int (pa_cons pe_non pa_nil))) (pa_cons (pe_make MK FI (hr.mono (by decide)) rfl RM.g b3 .nil passL (pa_cons pe_int (pa_cons (pe_lst pa_nil) pa_nil))) (pa_cons (pe_make MK FI (hr.mono (by decide)) rfl RM.g b1 dv passL (pa_cons pe_int pa_nil)) pa_nil))))))
      (pss_cons (ps_if (pt_cmpR op_ne (pe_meth (pe_ix ix_list (pv 12) pe_int (fun _ _ => rfl)) R0.cl mP FP (hr.mono (by decide)) bP .nil passL (pa_cons (pe_lst (pa_cons pe_int (pa_cons pe_int (pa_cons pe_int pa_nil)))) pa_nil)) pe_int (nomark _))
      (pss_one (ps_ret pe_bl))
      pss_nil)
      (pss_one (ps_ret (pe_cmpR (op_eqD (hu64 hr)) (pe_lc (own := [("_law_room", 13)]) (g := gName 13) (tt := tYes) rfl sc_law.nd (pi_list (pv 12)) (blkOk_by (N := n_law) (sc := defScope s_law) (by decide +kernel)) (fun _ _ _ _ _ => (pg_name (i := 13) sc_law.nd rfl (Or.inl rfl))) (fun _ _ _ _ _ => pts_nil) (fun _ _ _ _ _ => (pe_meth0 (pv 13) R0.cl mN FN (hr.mono (by decide)) bN .nil pass0))) (pe_lst (pa_cons (pe_lst (pa_cons (pe_lst (pa_cons pe_int (pa_cons pe_int (pa_cons pe_int pa_nil)))) pa_nil)) (pa_cons (pe_lst pa_nil) (pa_cons (pe_lst pa_nil) (pa_cons (pe_lst pa_nil) pa_nil))))) (nomark _))))))), ?_⟩)
  · obtain ⟨a, ns, rfl, _⟩ := h
    rfl
  · obtain ⟨a, ns, rfl, ha, hl, q⟩ := h
    simp only [cxK]
    have hcl := cutV_length (ns.map V.int) none (some 30)
    have hcells : ∀ x ∈ [V.int 0] ++ cutV (ns.map V.int) none (some 30), ∃ z, x = V.int z := fun x hx => by
      rcases List.mem_append.mp hx with hx | hx
      · exact ⟨0, List.mem_singleton.mp hx⟩
      · obtain ⟨z, _, rfl⟩ := List.mem_map.mp (cut_mem hx)
        exact ⟨z, rfl⟩
    have hcl2 : ([V.int 0] ++ cutV (ns.map V.int) none (some 30)).length ≤ 1001 := by
      rw [List.length_append]
      rw [List.length_map] at hcl
      simp only [List.length_singleton]
      omega
    refine el_cat (ek_l (Evl.el_lst (Evl.ea_cons Evl.ev_c Evl.ea_nil) (by simp [tSeq, tAsg, tRet, tOp, tUn, tVar, tC, rI, rI0, rU, gName, L2.start, CMul, CDiv, CPow, tIfS, tTest, rEq, rNe, scal, tNext, tCall, tCons, tNil, tCB, tIf, tAnd, L2.tOr, tNot, tB, tAndV, tOrV, tNotV, tChain, tLst, tDrop, rIxH, upd_same, cxK, tIsN, sFld, tFld, Evl.rListS]))) (ek_l (el_listK (ek_l (Evl.el_sl (Evl.ev_var rfl) Evl.eo_none (Evl.eo_some Evl.ev_c) ha)))) ?_ H (Ex.refl H) _ fun L H1 hL e1 h1 => ?_
    · rw [List.length_map] at hcl
      simp only [List.length_singleton]
      omega
    generalize [V.int 0] ++ cutV (ns.map V.int) none (some 30) = cells at hcells hcl2 h1
    refine ⟨L, _, rfl, Evl.sq_of h1, for_enum (fun i σ' H' => (∃ x1 x2 x3 x4 x5 x6 x7 x8 x9 x10 x11 x12 x13 : Option V, σ' = [some (.ref a), x1, x2, x3, x4, x5, x6, x7, x8, x9, x10, x11, x12, x13]) ∧ H' L = some (.lst cells))
      ⟨⟨_, _, _, _, _, _, _, _, _, _, _, _, _, rfl⟩, h1⟩ (fun i σ' H' _ p => Evl.sq_of p.2) ?_ ?_⟩
    · rintro i x σ' H' T hx ⟨⟨x1, x2, x3, x4, x5, x6, x7, x8, x9, x10, x11, x12, x13, rfl⟩, hLH⟩ hT
      obtain ⟨cell, rfl⟩ := hcells x (List.mem_of_getElem? hx)
      have hi : i < cells.length := (List.getElem?_eq_some_iff.mp hx).1
      have hL0 := ev_up (o := .tup [.int (i : Nat), .int cell]) hT _ _ hLH
      refine ⟨T, _, rfl, Evl.st_of upd_same, rfl, _, _, rfl, _, _, rfl, rfl, ?_⟩
      generalize upd H' T _ = H0 at hL0 ⊢
      refine ⟨fun σ'' H'' => ∃ (n : Nat) (p : Addr) (rs : List Addr) (nss : List (List Int)), σ'' = [some (.ref a), some (.int i), some (.int cell), some (.int n), some (.ref p), x5, x6, x7, x8, x9, x10, x11, x12, x13] ∧ Ex H0 H'' ∧ n ≤ 6 ∧ Rows H0 H'' n p rs nss ∧ rs.length ≤ 17, ?_, ?_⟩
      · refine ⟨_, rfl, _, rfl, cell, i, rfl, by omega, by omega, fun m m0 m1 => ⟨m, rfl, fun n t p rs nss H2 hn e2 ht _ R hl2 => ?_⟩⟩
        exact ⟨t, _, rfl, Evl.st_of ht, rfl, _, _, rfl, _, _, rfl, rfl, n, p, rs, nss, rfl, e2, hn, R, hl2⟩
      rintro _ H2 ⟨n, p, rs, nss, rfl, e2, hn, R, hl2⟩
      refine ⟨fun σ'' H'' => ∃ (l v : V), σ'' = [some (.ref a), some (.int i), some (.int cell), some l, some v, x5, x6, x7, x8, x9, x10, x11, x12, x13] ∧ Ex H0 H'' ∧ D0 H'' l ∧ Hd H0 v H'', ?_, ?_⟩
      · refine ex_mix (i := 2) (c := cell) (k := 2) rfl (by decide) (by decide) H2 (Ex.refl H2) _ fun y H3 e3 hy => ?_
        obtain ⟨z, rfl, z0, z1⟩ := hy
        refine ⟨rfl, _, rfl, iteB (fun _ => ?_) (fun _ => ?_)⟩
        · refine ⟨_, rfl, cell, 9, rfl, by decide, by decide, fun m m0 m1 => ⟨_, rfl, _, rfl, H0, m, n, p, rs, nss, rfl, hn, e2.trans e3, ⟨R.p0, e3 _ _ R.at_, R.rows.ex e3, R.off, R.near⟩, hl2, fun t l v H4 e4 ht hl hv => ?_⟩⟩
          exact ⟨t, _, rfl, Evl.st_of ht, rfl, _, _, rfl, _, _, rfl, rfl, l, v, rfl, (e2.trans e3).trans e4, hl, hv⟩
        · exact ⟨.int n, .ref p, rfl, e2.trans e3, ⟨_, .int n⟩, hd_st _ _ _ e3 (hd_list R.at_ R.p0 (by rw [List.length_map]; omega) fun x hx => ⟨(R.elem hn x hx).1, (R.elem hn x hx).2.1⟩)⟩
      rintro _ H3 ⟨l, v, rfl, e3, hl3, hv⟩
      refine ⟨_, rfl, _, rfl, l, v, rfl, hl3, hv.1, fun H4 e4 => ?_⟩
      obtain ⟨T', kv3⟩ := hv.1.1
      have kv4 := kv3.ex e4
      have l0 : lstOf H4 v = lstOf H3 v := kv3.lst_ex e4
      refine ⟨fun σ'' H'' => ∃ w : V, σ'' = [some (.ref a), some (.int i), some (.int cell), some l, some v, some (.str (dueOf H3 l v)), some w, x7, x8, x9, x10, x11, x12, x13] ∧ Ex H4 H'' ∧ D2 H'' w ∧ w ≠ .non ∧ lstOf H'' w = lstOf H4 v ∧ (lstOf H4 v = none → w = v) ∧ (lstOf H4 v ≠ none → ∀ hd, w = .ref hd → H4 hd = none), ?_, ?_⟩
      · refine ⟨_, rfl, v, T', "list", _, rfl, kv4, kv4.kList, _, rfl, iteB (fun hs => ?_) (fun hs => ?_)⟩
        · obtain ⟨xs, hxs⟩ := Option.isSome_iff_exists.mp hs
          obtain ⟨va, rfl, hva⟩ := lstOf_some hxs
          refine ⟨_, rfl, va, xs, rfl, .inl (Evl.sq_of hva), fun hd hhd => ?_⟩
          have eu := ev_up (o := .lst xs) hhd
          have hd2 := (hv.1.ex e4).2 xs hxs
          refine ⟨.ref hd, rfl, eu, ⟨⟨_, .lst upd_same⟩, fun ys hy => ?_⟩, (fun z => nomatch z), (lstOf_of upd_same).trans hxs.symm, (fun z => by rw [hxs] at z; cases z), fun _ hd' z => by cases z; exact hhd⟩
          rw [lstOf_of upd_same] at hy
          cases hy
          exact ⟨hd2.1, fun x hx' => (hd2.2 x hx').ex eu⟩
        · have hn0 : lstOf H4 v = none := by
            cases h : lstOf H4 v with
            | none => rfl
            | some xs => rw [h] at hs; cases hs
          exact ⟨_, rfl, v, rfl, Ex.refl H4, hv.1.ex e4, hv.2.2, rfl, fun _ => rfl, fun h => absurd hn0 h⟩
      rintro _ H5 ⟨w, rfl, e5, hw, hwn, hls, hnone, hnew⟩
      have l1 : lstOf H5 v = lstOf H4 v := kv4.lst_ex e5
      have t1 : ∀ n, tblOk H5 n w = tblOk H3 n v := fun n => by
        rw [← tblOk_ex hv.1 (e4.trans e5)]
        unfold tblOk
        rw [hls, l1]
      have dueEq : dueOf H5 l w = dueOf H3 l v := by
        unfold dueOf
        split
        · rfl
        · split
          · rw [t1, hls, l0]
          · rfl
      have e05 := (e3.trans e4).trans e5
      have ne : ∀ (H6 : Hp) (Q : VK), Ex H5 H6 → Q (.bl false) H6 → rNeH w v H6 Q := fun H6 Q e6 q6 => by
        have k6 := (kv4.ex e5).ex e6
        have a1 : lstOf H6 w = lstOf H5 w := hw.1.lst_ex e6
        have a2 : lstOf H6 v = lstOf H5 v := (kv4.ex e5).lst_ex e6
        refine ne_self k6 (by rw [a1, a2, hls, l1]) (fun h => hnone (by rw [← l1, ← a2]; exact h)) (fun xs h x hx => ?_) q6
        rw [a2] at h
        exact (((hv.1.ex (e4.trans e5)).2 xs h).2 x hx).1.ex e6
      refine ⟨_, rfl, _, rfl, l, w, rfl, hl3.ex (e4.trans e5), hw, hwn, ?_, ?_⟩
      · rw [dueEq]
        intro hne H6 e6
        have d1 : (!decide (V.str (dueOf H3 l v) = V.str "")) = true := by
          simp [tSeq, tAsg, tRet, tOp, tUn, tVar, tC, rI, rI0, rU, gName, L2.start, CMul, CDiv, CPow, tIfS, tTest, rEq, rNe, scal, tNext, tCall, tCons, tNil, tCB, tIf, tAnd, L2.tOr, tNot, tB, tAndV, tOrV, tNotV, tChain, tLst, tDrop, rIxH, upd_same, cxK, tIsN, sFld, tFld, Evl.rListS]
          exact hne
        have d2 : decide (V.str (dueOf H3 l v) = V.str "") = false := by
          simpa [tSeq, tAsg, tRet, tOp, tUn, tVar, tC, rI, rI0, rU, gName, L2.start, CMul, CDiv, CPow, tIfS, tTest, rEq, rNe, scal, tNext, tCall, tCons, tNil, tCB, tIf, tAnd, L2.tOr, tNot, tB, tAndV, tOrV, tNotV, tChain, tLst, tDrop, rIxH, upd_same, cxK, tIsN, sFld, tFld, Evl.rListS] using hne
        refine ⟨_, rfl, _, rfl, ne H6 _ e6 ⟨_, rfl, iteF ?_⟩⟩
        refine ⟨_, rfl, rfl, _, rfl, ifT d1 ?_⟩
        refine ⟨_, rfl, _, rfl, rfl, _, rfl, ifF (by simp [tSeq, tAsg, tRet, tOp, tUn, tVar, tC, rI, rI0, rU, gName, L2.start, CMul, CDiv, CPow, tIfS, tTest, rEq, rNe, scal, tNext, tCall, tCons, tNil, tCB, tIf, tAnd, L2.tOr, tNot, tB, tAndV, tOrV, tNotV, tChain, tLst, tDrop, rIxH, upd_same, cxK, tIsN, sFld, tFld, Evl.rListS]) ?_⟩
        refine ⟨_, rfl, rfl, _, rfl, ifF d2 (iteF ?_)⟩
        refine ⟨_, rfl, rfl, _, rfl, ifT d1 ?_⟩
        exact ⟨⟨_, _, _, _, _, _, _, _, _, _, _, _, _, rfl⟩, e6 _ _ (e05 _ _ hL0)⟩
      · rw [dueEq]
        intro hd0 n' x ln rs' nss' H6 hln hn0 hn6 told hx6 room new e6
        subst hln
        have d1 : (!decide (V.str (dueOf H3 (.int n') v) = V.str "")) = false := by
          rw [hd0]
          rfl
        have d2 : decide (V.str (dueOf H3 (.int n') v) = V.str "") = true := by
          rw [hd0]
          rfl
        obtain ⟨dx, hobj⟩ := room.obj
        refine ⟨_, rfl, _, rfl, ne H6 _ e6 ⟨_, rfl, iteF ?_⟩⟩
        refine ⟨_, rfl, rfl, _, rfl, ifF d1 (iteF ?_)⟩
        refine ⟨_, rfl, rfl, _, rfl, ifT d2 ?_⟩
        refine ⟨_, rfl, .ref x, .ty "str", .ref C, .type "str", false, rfl, .ty _, .base (.ins hobj R0.cl RI.ha RI.hn RI.ht RI.hm), RI.str, _, rfl, iteF ?_⟩
        refine ⟨_, rfl, rfl, _, rfl, ifF d1 ?_⟩
        -- the rows handed in
        obtain ⟨hd, as, rfl, hhd, hras, hlas, hnas⟩ := told
        have hlw : lstOf H5 (.ref hd) = some (as.map V.ref) := lstOf_of hhd
        have hl4 : lstOf H4 v = some (as.map V.ref) := hls.symm.trans hlw
        obtain ⟨va, rfl, hva⟩ := lstOf_some hl4
        have hva6 := e6 _ _ (e5 _ _ hva)
        have hhd0 : H0 hd = none := Evl.fresh_back (e3.trans e4) (hnew (by rw [hl4]; exact fun z => nomatch z) hd rfl)
        have has0 : ∀ r ∈ as, H0 r = none := fun r hr => hv.2.1.2 _ (l0.symm.trans hl4) (.ref r) (List.mem_map.mpr ⟨r, hr, rfl⟩) r rfl
        have hlen := hras.len
        have offh := hras.off hhd
        simp only [tNext, tSeq, tAsg]
        refine lcRows nss' (fun H1 e Q q => ⟨_, rfl, q H1 (Ex.refl H1)⟩) (Evl.sq_of hva6) (by simp [tSeq, tAsg, tRet, tOp, tUn, tVar, tC, rI, rI0, rU, gName, L2.start, CMul, CDiv, CPow, tIfS, tTest, rEq, rNe, scal, tNext, tCall, tCons, tNil, tCB, tIf, tAnd, L2.tOr, tNot, tB, tAndV, tOrV, tNotV, tChain, tLst, tDrop, rIxH, upd_same, cxK, tIsN, sFld, tFld, Evl.rListS, hlen]) (by simp [tSeq, tAsg, tRet, tOp, tUn, tVar, tC, rI, rI0, rU, gName, L2.start, CMul, CDiv, CPow, tIfS, tTest, rEq, rNe, scal, tNext, tCall, tCons, tNil, tCB, tIf, tAnd, L2.tOr, tNot, tB, tAndV, tOrV, tNotV, tChain, tLst, tDrop, rIxH, upd_same, cxK, tIsN, sFld, tFld, Evl.rListS]; omega) (fun x => rfl) (fun j y ns3 H7 e7 hj hg => ?_) H6 (Ex.refl H6) _ ?_
        · intro H8 e8 Q q
          refine ⟨y, rfl, ?_⟩
          rw [List.getElem?_map] at hj
          cases hj2 : as[j]? with
          | none =>
            rw [hj2] at hj
            cases hj
          | some r =>
            rw [hj2] at hj
            cases hj
            obtain ⟨ns2, hn2, hr2⟩ := hras.get hj2
            rw [hg] at hn2
            cases hn2
            exact ⟨r, _, rfl, .inl (Evl.sq_of (((e6.trans e7).trans e8) _ _ hr2)), fun l hl => q l _ hl (ev_up hl) upd_same⟩
        rintro _ H7 e7 ⟨kp, qs, rfl, hkp, hkp7, hqs7, hqs⟩
        have e07 := (e05.trans e6).trans e7
        have e57 := e6.trans e7
        refine for_app (hd := hd) (as := as) (H := H7) (by simp [tSeq, tAsg, tRet, tOp, tUn, tVar, tC, rI, rI0, rU, gName, L2.start, CMul, CDiv, CPow, tIfS, tTest, rEq, rNe, scal, tNext, tCall, tCons, tNil, tCB, tIf, tAnd, L2.tOr, tNot, tB, tAndV, tOrV, tNotV, tChain, tLst, tDrop, rIxH, upd_same, cxK, tIsN, sFld, tFld, Evl.rListS]) (by decide) rfl (e57 _ _ hhd) offh (fun r hr => ?_) (by omega) (fun y H8 k8 => ?_)
        · obtain ⟨k, hk⟩ := List.mem_iff_getElem?.mp hr
          obtain ⟨ns2, g1, g2⟩ := hras.get hk
          have g3 := (hnas ns2 (List.mem_of_getElem? g1)).1
          exact ⟨_, e57 _ _ g2, by rw [List.length_map]; omega⟩
        have hd8 : H8 hd = some (.lst (as.map V.ref)) := k8 _ _ (fun hm => offh hd hm rfl) (e57 _ _ hhd)
        refine ⟨_, rfl, Or.inl ⟨rfl, _, Or.inl (Or.inl hd8)⟩, Evl.sz_of (by simp [tSeq, tAsg, tRet, tOp, tUn, tVar, tC, rI, rI0, rU, gName, L2.start, CMul, CDiv, CPow, tIfS, tTest, rEq, rNe, scal, tNext, tCall, tCons, tNil, tCB, tIf, tAnd, L2.tOr, tNot, tB, tAndV, tOrV, tNotV, tChain, tLst, tDrop, rIxH, upd_same, cxK, tIsN, sFld, tFld, Evl.rListS]), fun em hem => ?_⟩
        have hemd : em ≠ hd := fun z => by
          rw [z, hd8] at hem
          cases hem
        refine ⟨hd, _, .ref em, rfl, rfl, by rw [upd_ne (Ne.symm hemd)]; exact hd8, by rw [List.length_map]; exact Evl.sz_lt (by omega), ?_⟩
        -- what stays
        have stay : ∀ b o, b ∉ as → b ≠ hd → H7 b = some o → upd (upd H8 em (.lst [])) hd (.lst (as.map V.ref ++ [.ref em])) b = some o := fun b o hb hbd he => by
          have h8 := k8 b o hb he
          rw [upd_ne hbd, upd_ne (ne_of_none h8 hem)]
          exact h8
        generalize upd (upd H8 em (.lst [])) hd (.lst (as.map V.ref ++ [.ref em])) = H9 at stay ⊢
        have old : ∀ b, (H5 b = none ∨ ∃ o, H0 b = some o) → b ∉ as ∧ b ≠ hd := fun b hb => by
          constructor
          · intro hm
            obtain ⟨k, hk⟩ := List.mem_iff_getElem?.mp hm
            obtain ⟨ns2, g1, g2⟩ := hras.get hk
            rcases hb with hb | ⟨o, hb⟩
            · rw [hb] at g2
              cases g2
            · rw [has0 b hm] at hb
              cases hb
          · intro z
            rcases hb with hb | ⟨o, hb⟩
            · rw [z, hhd] at hb
              cases hb
            · rw [z, hhd0] at hb
              cases hb
        have st5 : ∀ b o, H5 b = none → H7 b = some o → H9 b = some o := fun b o hb he => stay b o (old b (.inl hb)).1 (old b (.inl hb)).2 he
        have room9 : RoomAt H9 C x n' ln rs' nss' := ⟨⟨dx, st5 _ _ hx6 (e7 _ _ hobj)⟩, st5 _ _ new.1 (e7 _ _ room.lst), room.rows.of fun r hr o he => st5 _ _ (new.2 r hr) (e7 _ _ he)⟩
        have kp9 : H9 kp = some (.lst (qs.map V.ref)) := st5 _ _ (Evl.fresh_back e6 hkp) hkp7
        have qs9 : RowsL H9 qs nss' := hqs7.of fun r hr o he => st5 _ _ (Evl.fresh_back e6 (hqs r hr).1) he
        have L9 : H9 L = some (.lst cells) := stay _ _ (old L (.inr ⟨_, hL0⟩)).1 (old L (.inr ⟨_, hL0⟩)).2 (e07 _ _ hL0)
        have hlen16 : nss'.length ≤ 16 := by omega
        refine ⟨_, rfl, by decide, by decide, for_range (n := 2) (fun j σ' H' => (∃ y9 y10 y11 y12 y13 : Option V, σ' = [some (.ref a), some (.int i), some (.int cell), some (.int n'), some (.ref va), some (.str (dueOf H3 (.int n') (.ref va))), some (.ref hd), some (.ref x), some (.ref kp), y9, y10, y11, y12, y13]) ∧ RoomAt H' C x n' ln rs' nss' ∧ H' kp = some (.lst (qs.map V.ref)) ∧ RowsL H' qs nss' ∧ H' L = some (.lst cells))
          ⟨⟨_, _, _, _, _, rfl⟩, room9, kp9, qs9, L9⟩ ?_ ?_⟩
        · rintro j σ' H' hj ⟨⟨y9, y10, y11, y12, y13, rfl⟩, rm, kpH, qsH, LH⟩
          obtain ⟨dx2, hob⟩ := rm.obj
          refine ⟨_, rfl, x, dx2, _, rfl, hob, by rfl, x, n', ln, rs', nss', rfl, rm, by omega, fun tp qt H2 hnew e2 ht hqt hnot => ?_⟩
          have rm2 : RoomAt H2 C x n' ln rs' nss' := ⟨⟨dx2, e2 _ _ hob⟩, e2 _ _ rm.lst, rm.rows.ex e2⟩
          have hqlen := hqt.len
          refine ⟨_, rfl, x, dx2, _, rfl, e2 _ _ hob, by rfl, x, n', ln, rs', nss', rfl, rm2, .int n', rfl, ⟨_, .int n'⟩, _, rfl, ifF rfl ?_⟩
          refine ⟨_, rfl, x, dx2, _, rfl, e2 _ _ hob, by rfl, x, n', ln, rs', nss', rfl, rm2, _, rfl, rfl, _, rfl, ifF (by simp [tSeq, tAsg, tRet, tOp, tUn, tVar, tC, rI, rI0, rU, gName, L2.start, CMul, CDiv, CPow, tIfS, tTest, rEq, rNe, scal, tNext, tCall, tCons, tNil, tCB, tIf, tAnd, L2.tOr, tNot, tB, tAndV, tOrV, tNotV, tChain, tLst, tDrop, rIxH, upd_same, cxK, tIsN, sFld, tFld, Evl.rListS]) ?_⟩
          refine ⟨_, rfl, .ref tp, "list", "list", true, rfl, .lst ht, by decide +kernel, _, rfl, ifF rfl ?_⟩
          refine ⟨_, rfl, _, rfl, _, _, dp_rows ht hqt, dp_rows (e2 _ _ kpH) (qsH.ex e2), sh_rows _, sh_rows _, _, rfl, ifF (by rw [eqv_tbl]; rfl) ?_⟩
          simp only [tNot, tB, tCB, tCons, tNil]
          refine all_lc (fun _ => true) (fun H1 e Q q => ⟨_, rfl, q H1 (Ex.refl H1)⟩) (Evl.sq_of ht) (by rw [List.length_map]; omega) (fun x => rfl) (fun i' y H3 e3 hy H4 e4 Q q => ?_) (fun H3 e3 => ?_)
          · rw [List.getElem?_map] at hy
            cases hr : qt[i']? with
            | none =>
              rw [hr] at hy
              cases hy
            | some r =>
              rw [hr] at hy
              cases hy
              obtain ⟨ns2, g1, g2⟩ := hqt.get hr
              exact ⟨.ref r, rfl, .ref r, "list", "list", true, rfl, .lst ((e3.trans e4) _ _ g2), by decide +kernel, q _ H4 (Ex.refl H4) rfl⟩
          refine ⟨_, rfl, ifF (by simp [tSeq, tAsg, tRet, tOp, tUn, tVar, tC, rI, rI0, rU, gName, L2.start, CMul, CDiv, CPow, tIfS, tTest, rEq, rNe, scal, tNext, tCall, tCons, tNil, tCB, tIf, tAnd, L2.tOr, tNot, tB, tAndV, tOrV, tNotV, tChain, tLst, tDrop, rIxH, upd_same, cxK, tIsN, sFld, tFld, Evl.rListS]) ?_⟩
          simp only [tNext, tSeq]
          refine for_app (hd := tp) (as := qt) (H := H3) (by simp [tSeq, tAsg, tRet, tOp, tUn, tVar, tC, rI, rI0, rU, gName, L2.start, CMul, CDiv, CPow, tIfS, tTest, rEq, rNe, scal, tNext, tCall, tCons, tNil, tCB, tIf, tAnd, L2.tOr, tNot, tB, tAndV, tOrV, tNotV, tChain, tLst, tDrop, rIxH, upd_same, cxK, tIsN, sFld, tFld, Evl.rListS]) (by decide) rfl (e3 _ _ ht) (fun r hr z => hnot (z ▸ hr)) (fun r hr => ?_) (by omega) (fun y H4 k4 => ?_)
          · obtain ⟨k, hk⟩ := List.mem_iff_getElem?.mp hr
            obtain ⟨ns2, g1, g2⟩ := hqt.get hk
            have g3 := (hnas ns2 (List.mem_of_getElem? g1)).1
            exact ⟨_, e3 _ _ g2, by rw [List.length_map]; omega⟩
          have tp4 : H4 tp = some (.lst (qt.map V.ref)) := k4 _ _ hnot (e3 _ _ ht)
          refine ⟨_, rfl, Or.inl ⟨rfl, _, Or.inl (Or.inl tp4)⟩, tp, _, .non, rfl, rfl, tp4, by rw [List.length_map]; exact Evl.sz_lt (by omega), ?_⟩
          have keep : ∀ b o, H' b = some o → upd H4 tp (.lst (qt.map V.ref ++ [.non])) b = some o := fun b o he => by
            have b1 : b ≠ tp := ne_of_none he hnew.1
            have b2 : b ∉ qt := fun hm => by
              rw [hnew.2 b hm] at he
              cases he
            rw [upd_ne b1]
            exact k4 b o b2 (e3 _ _ (e2 _ _ he))
          exact ⟨⟨_, _, _, _, _, rfl⟩, ⟨⟨dx2, keep _ _ hob⟩, keep _ _ rm.lst, rm.rows.of fun r _ o he => keep r o he⟩, keep _ _ kpH, qsH.of (fun r _ o he => keep r o he), keep _ _ LH⟩
        · rintro σ' H' ⟨⟨y9, y10, y11, y12, y13, rfl⟩, _, _, _, LH⟩
          exact ⟨⟨_, _, _, _, _, _, _, _, _, _, _, _, _, rfl⟩, LH⟩
    · rintro σ' H' ⟨⟨x1, x2, x3, x4, x5, x6, x7, x8, x9, x10, x11, x12, x13, rfl⟩, hLH⟩
      simp only [tSeq, tAsg, tLst, tCons, tMake, tC, tNil, List.append_nil, List.nil_append, List.cons_append]
      refine room_empty (.inl rfl) fun xA lA HA fA gA rA eA => ?_
      refine room_empty (.inl rfl) fun xB lB HB fB gB rB eB => ?_
      refine ⟨Evl.sz_of (by simp [tSeq, tAsg, tRet, tOp, tUn, tVar, tC, rI, rI0, rU, gName, L2.start, CMul, CDiv, CPow, tIfS, tTest, rEq, rNe, scal, tNext, tCall, tCons, tNil, tCB, tIf, tAnd, L2.tOr, tNot, tB, tAndV, tOrV, tNotV, tChain, tLst, tDrop, rIxH, upd_same, cxK, tIsN, sFld, tFld, Evl.rListS]), fun em hem => ?_⟩
      have eM := ev_up (o := .lst []) hem
      refine room_empty (.inr ⟨em, rfl, upd_same⟩) fun xC lC HC fC gC rC eC => ?_
      refine room_empty (.inl rfl) fun xD lD HD fD gD rD eD => ?_
      refine ⟨Evl.sz_of (by simp [tSeq, tAsg, tRet, tOp, tUn, tVar, tC, rI, rI0, rU, gName, L2.start, CMul, CDiv, CPow, tIfS, tTest, rEq, rNe, scal, tNext, tCall, tCons, tNil, tCB, tIf, tAnd, L2.tOr, tNot, tB, tAndV, tOrV, tNotV, tChain, tLst, tDrop, rIxH, upd_same, cxK, tIsN, sFld, tFld, Evl.rListS]), fun bl hbl => ?_⟩
      have eN := ev_up (o := .lst [.ref xA, .ref xB, .ref xC, .ref xD]) hbl
      have hN : upd HD bl (.lst [.ref xA, .ref xB, .ref xC, .ref xD]) bl = some (.lst [.ref xA, .ref xB, .ref xC, .ref xD]) := upd_same
      generalize upd HD bl (.lst [.ref xA, .ref xB, .ref xC, .ref xD]) = HN at eN hN ⊢
      have eBC := eM.trans eC
      have eBN := (eBC.trans eD).trans eN
      have eCN := eD.trans eN
      have rAN := rA.ex' ((eB.trans eBN))
      have rBN := rB.ex' eBN
      have rCN := rC.ex' eCN
      have rDN := rD.ex' eN
      obtain ⟨dA, hA⟩ := rAN.obj
      refine ⟨_, rfl, bl, _, 0, .ref xA, rfl, rfl, Evl.sq_of hN, by rfl, xA, dA, _, rfl, hA, by rfl, ?_⟩
      refine ⟨Evl.sz_of (by simp [tSeq, tAsg, tRet, tOp, tUn, tVar, tC, rI, rI0, rU, gName, L2.start, CMul, CDiv, CPow, tIfS, tTest, rEq, rNe, scal, tNext, tCall, tCons, tNil, tCB, tIf, tAnd, L2.tOr, tNot, tB, tAndV, tOrV, tNotV, tChain, tLst, tDrop, rIxH, upd_same, cxK, tIsN, sFld, tFld, Evl.rListS]), fun row hrow => ?_⟩
      have eR := ev_up (o := .lst [V.int 1, .int 2, .int 3]) hrow
      refine ⟨xA, 3, lA, [], [], row, [1, 2, 3], rfl, rAN.ex' eR, upd_same, rfl, by decide, (fun z hz => by simp [tSeq, tAsg, tRet, tOp, tUn, tVar, tC, rI, rI0, rU, gName, L2.start, CMul, CDiv, CPow, tIfS, tTest, rEq, rNe, scal, tNext, tCall, tCons, tNil, tCB, tIf, tAnd, L2.tOr, tNot, tB, tAndV, tOrV, tNotV, tChain, tLst, tDrop, rIxH, upd_same, cxK, tIsN, sFld, tFld, Evl.rListS] at hz; omega), by simp [tSeq, tAsg, tRet, tOp, tUn, tVar, tC, rI, rI0, rU, gName, L2.start, CMul, CDiv, CPow, tIfS, tTest, rEq, rNe, scal, tNext, tCall, tCons, tNil, tCB, tIf, tAnd, L2.tOr, tNot, tB, tAndV, tOrV, tNotV, tChain, tLst, tDrop, rIxH, upd_same, cxK, tIsN, sFld, tFld, Evl.rListS], fun r HP hr rP kP => ?_⟩
      refine ⟨rfl, _, rfl, ifF (by simp [tSeq, tAsg, tRet, tOp, tUn, tVar, tC, rI, rI0, rU, gName, L2.start, CMul, CDiv, CPow, tIfS, tTest, rEq, rNe, scal, tNext, tCall, tCons, tNil, tCB, tIf, tAnd, L2.tOr, tNot, tB, tAndV, tOrV, tNotV, tChain, tLst, tDrop, rIxH, upd_same, cxK, tIsN, sFld, tFld, Evl.rListS]) ?_⟩
      have stay : ∀ b o, HA b = none → HN b = some o → HP b = some o := fun b o hb he => by
        refine kP b o (fun z => ?_) (fun z => ?_) (eR _ _ he)
        · rw [z] at hb
          obtain ⟨d, hd⟩ := rA.obj
          rw [hd] at hb
          cases hb
        · rw [z, rA.lst] at hb
          cases hb
      have eAM := eB.trans eM
      have eAC := eAM.trans eC
      have rBP : RoomAt HP C xB 3 lB [] [] := by
        obtain ⟨d, hd⟩ := rBN.obj
        exact ⟨⟨d, stay _ _ fB hd⟩, stay _ _ gB rBN.lst, trivial⟩
      have rCP : RoomAt HP C xC 3 lC [] [] := by
        obtain ⟨d, hd⟩ := rCN.obj
        exact ⟨⟨d, stay _ _ (Evl.fresh_back eAM fC) hd⟩, stay _ _ (Evl.fresh_back eAM gC) rCN.lst, trivial⟩
      have rDP : RoomAt HP C xD 3 lD [] [] := by
        obtain ⟨d, hd⟩ := rDN.obj
        exact ⟨⟨d, stay _ _ (Evl.fresh_back eAC fD) hd⟩, stay _ _ (Evl.fresh_back eAC gD) rDN.lst, trivial⟩
      have blP : HP bl = some (.lst [.ref xA, .ref xB, .ref xC, .ref xD]) := stay _ _ (Evl.fresh_back (eAC.trans eD) hbl) hN
      have go : ∀ (H1 : Hp) (x ln : Addr) (rs : List Addr) (nss : List (List Int)) (Q : VK) (σ : L2.St), RoomAt H1 C x 3 ln rs nss → nss.length ≤ 30 → σ[13]? = some (some (.ref x)) →
          (∀ y H2, Ex H1 H2 → (∀ D, H1 D ≠ none → Dp K (offH H2 D) y (.list (nss.map dRow))) → Q y H2) → tMeth C (Str.ofString "nothings") (spNothings C) [] E0 (tVar 13) tNil σ H1 Q := by
        intro H1 x ln rs nss Q σ rm hl hσ k
        obtain ⟨dx, hob⟩ := rm.obj
        refine ⟨_, hσ, x, dx, _, rfl, hob, by rfl, x, 3, ln, rs, nss, rfl, rm, hl, fun p qs H2 hnew e2 ht hqt hnot => k (.ref p) H2 e2 fun D hD => ?_⟩
        have pD : ∀ b, H1 b = none → b ≠ D := fun b hb z => hD (z ▸ hb)
        have off : ∀ b o, H1 b = none → H2 b = some o → offH H2 D b = some o := fun b o hb he => by
          unfold offH
          rw [if_neg (pD b hb)]
          exact he
        exact dp_rows (off _ _ hnew.1 ht) (hqt.of fun r hr o he => off _ _ (hnew.2 r hr) he)
      simp only [tNext, tRet, tOp]
      refine lcD (K := K) [.list [dRow [1, 2, 3]], .list [], .list [], .list []] (fun H1 e Q q => ⟨_, rfl, q H1 (Ex.refl H1)⟩) (Evl.sq_of blP) rfl (by simp [tSeq, tAsg, tRet, tOp, tUn, tVar, tC, rI, rI0, rU, gName, L2.start, CMul, CDiv, CPow, tIfS, tTest, rEq, rNe, scal, tNext, tCall, tCons, tNil, tCB, tIf, tAnd, L2.tOr, tNot, tB, tAndV, tOrV, tNotV, tChain, tLst, tDrop, rIxH, upd_same, cxK, tIsN, sFld, tFld, Evl.rListS]) (fun x => rfl) (fun k y d H1 e1 hy hd Q1 q1 => ?_) HP (Ex.refl HP) _ fun v H2 e2 hv => ?_
      · match k, hy, hd with
        | 0, hy, hd =>
          cases hy
          cases hd
          exact go H1 xA lA _ [[1, 2, 3]] Q1 _ (rP.ex' e1) (by simp [tSeq, tAsg, tRet, tOp, tUn, tVar, tC, rI, rI0, rU, gName, L2.start, CMul, CDiv, CPow, tIfS, tTest, rEq, rNe, scal, tNext, tCall, tCons, tNil, tCB, tIf, tAnd, L2.tOr, tNot, tB, tAndV, tOrV, tNotV, tChain, tLst, tDrop, rIxH, upd_same, cxK, tIsN, sFld, tFld, Evl.rListS]) rfl q1
        | 1, hy, hd =>
          cases hy
          cases hd
          exact go H1 xB lB _ [] Q1 _ (rBP.ex' e1) (by simp [tSeq, tAsg, tRet, tOp, tUn, tVar, tC, rI, rI0, rU, gName, L2.start, CMul, CDiv, CPow, tIfS, tTest, rEq, rNe, scal, tNext, tCall, tCons, tNil, tCB, tIf, tAnd, L2.tOr, tNot, tB, tAndV, tOrV, tNotV, tChain, tLst, tDrop, rIxH, upd_same, cxK, tIsN, sFld, tFld, Evl.rListS]) rfl q1
        | 2, hy, hd =>
          cases hy
          cases hd
          exact go H1 xC lC _ [] Q1 _ (rCP.ex' e1) (by simp [tSeq, tAsg, tRet, tOp, tUn, tVar, tC, rI, rI0, rU, gName, L2.start, CMul, CDiv, CPow, tIfS, tTest, rEq, rNe, scal, tNext, tCall, tCons, tNil, tCB, tIf, tAnd, L2.tOr, tNot, tB, tAndV, tOrV, tNotV, tChain, tLst, tDrop, rIxH, upd_same, cxK, tIsN, sFld, tFld, Evl.rListS]) rfl q1
        | 3, hy, hd =>
          cases hy
          cases hd
          exact go H1 xD lD _ [] Q1 _ (rDP.ex' e1) (by simp [tSeq, tAsg, tRet, tOp, tUn, tVar, tC, rI, rI0, rU, gName, L2.start, CMul, CDiv, CPow, tIfS, tTest, rEq, rNe, scal, tNext, tCall, tCons, tNil, tCB, tIf, tAnd, L2.tOr, tNot, tB, tAndV, tOrV, tNotV, tChain, tLst, tDrop, rIxH, upd_same, cxK, tIsN, sFld, tFld, Evl.rListS]) rfl q1
        | k + 4, hy, hd => simp [tSeq, tAsg, tRet, tOp, tUn, tVar, tC, rI, rI0, rU, gName, L2.start, CMul, CDiv, CPow, tIfS, tTest, rEq, rNe, scal, tNext, tCall, tCons, tNil, tCB, tIf, tAnd, L2.tOr, tNot, tB, tAndV, tOrV, tNotV, tChain, tLst, tDrop, rIxH, upd_same, cxK, tIsN, sFld, tFld, Evl.rListS] at hy
      · refine ⟨Evl.sz_of (by simp [tSeq, tAsg, tRet, tOp, tUn, tVar, tC, rI, rI0, rU, gName, L2.start, CMul, CDiv, CPow, tIfS, tTest, rEq, rNe, scal, tNext, tCall, tCons, tNil, tCB, tIf, tAnd, L2.tOr, tNot, tB, tAndV, tOrV, tNotV, tChain, tLst, tDrop, rIxH, upd_same, cxK, tIsN, sFld, tFld, Evl.rListS]), fun p1 h1 => ⟨Evl.sz_of (by simp [tSeq, tAsg, tRet, tOp, tUn, tVar, tC, rI, rI0, rU, gName, L2.start, CMul, CDiv, CPow, tIfS, tTest, rEq, rNe, scal, tNext, tCall, tCons, tNil, tCB, tIf, tAnd, L2.tOr, tNot, tB, tAndV, tOrV, tNotV, tChain, tLst, tDrop, rIxH, upd_same, cxK, tIsN, sFld, tFld, Evl.rListS]), fun p2 h2 => ⟨Evl.sz_of (by simp [tSeq, tAsg, tRet, tOp, tUn, tVar, tC, rI, rI0, rU, gName, L2.start, CMul, CDiv, CPow, tIfS, tTest, rEq, rNe, scal, tNext, tCall, tCons, tNil, tCB, tIf, tAnd, L2.tOr, tNot, tB, tAndV, tOrV, tNotV, tChain, tLst, tDrop, rIxH, upd_same, cxK, tIsN, sFld, tFld, Evl.rListS]), fun p3 h3 => ⟨Evl.sz_of (by simp [tSeq, tAsg, tRet, tOp, tUn, tVar, tC, rI, rI0, rU, gName, L2.start, CMul, CDiv, CPow, tIfS, tTest, rEq, rNe, scal, tNext, tCall, tCons, tNil, tCB, tIf, tAnd, L2.tOr, tNot, tB, tAndV, tOrV, tNotV, tChain, tLst, tDrop, rIxH, upd_same, cxK, tIsN, sFld, tFld, Evl.rListS]), fun p4 h4 => ⟨Evl.sz_of (by simp [tSeq, tAsg, tRet, tOp, tUn, tVar, tC, rI, rI0, rU, gName, L2.start, CMul, CDiv, CPow, tIfS, tTest, rEq, rNe, scal, tNext, tCall, tCons, tNil, tCB, tIf, tAnd, L2.tOr, tNot, tB, tAndV, tOrV, tNotV, tChain, tLst, tDrop, rIxH, upd_same, cxK, tIsN, sFld, tFld, Evl.rListS]), fun p5 h5 => ⟨Evl.sz_of (by simp [tSeq, tAsg, tRet, tOp, tUn, tVar, tC, rI, rI0, rU, gName, L2.start, CMul, CDiv, CPow, tIfS, tTest, rEq, rNe, scal, tNext, tCall, tCons, tNil, tCB, tIf, tAnd, L2.tOr, tNot, tB, tAndV, tOrV, tNotV, tChain, tLst, tDrop, rIxH, upd_same, cxK, tIsN, sFld, tFld, Evl.rListS]), fun p6 h6 => ?_⟩⟩⟩⟩⟩⟩
        have a1 := ev_up (o := .lst [V.int 1, .int 2, .int 3]) h1
        have a2 := ev_up (o := .lst [V.ref p1]) h2
        have a3 := ev_up (o := .lst []) h3
        have a4 := ev_up (o := .lst []) h4
        have a5 := ev_up (o := .lst []) h5
        have a6 := ev_up (o := .lst [V.ref p2, .ref p3, .ref p4, .ref p5]) h6
        have a26 := ((a3.trans a4).trans a5).trans a6
        refine ⟨_, _, dp_ex (((a1.trans a2).trans a26)) _ _ hv, .lst (Evl.sq_of upd_same) (.cons (.lst (Evl.sq_of (a26 _ _ upd_same)) (.cons (dp_row (ns := [1, 2, 3]) ((a2.trans a26) _ _ upd_same)) .nil)) (.cons (dp_nil (((a4.trans a5).trans a6) _ _ upd_same)) (.cons (dp_nil ((a5.trans a6) _ _ upd_same)) (.cons (dp_nil (a6 _ _ upd_same)) .nil)))), by decide +kernel, by decide +kernel, ?_⟩
        have e : PyData.eqv (.list [.list [dRow [1, 2, 3]], .list [], .list [], .list []]) (.list [.list [dRow [1, 2, 3]], .list [], .list [], .list []]) = true := by decide +kernel
        rw [e]
        exact q _
end
end Sr
namespace Sr
open PySem PySem.Spec PyProof.Rows L2
def fn : List He.DefD := [
⟨("is_whole", none), "is_whole", "is_whole", defArgs s_is_whole, defBody s_is_whole, defScope s_is_whole, [], []⟩,
  ⟨("is_row", none), "is_row", "is_row", defArgs s_is_row, defBody s_is_row, defScope s_is_row, [], []⟩,
  ⟨("is_near_row", none), "is_near_row", "is_near_row", defArgs s_is_near_row, defBody s_is_near_row, defScope s_is_near_row, [], []⟩,
  ⟨("are_near_rows", none), "are_near_rows", "are_near_rows", defArgs s_are_near_rows, defBody s_are_near_rows, defScope s_are_near_rows, [], []⟩,
  ⟨("_law_mixed", none), "_law_mixed", "_law_mixed", defArgs s_l_mixed, defBody s_l_mixed, defScope s_l_mixed, [], []⟩,
  ⟨("_law_whole", none), "_law_whole", "_law_whole", defArgs s_l_whole, defBody s_l_whole, defScope s_l_whole, [], []⟩,
  ⟨("_law_number", none), "_law_number", "_law_number", defArgs s_l_number, defBody s_l_number, defScope s_l_number, [], []⟩,
  ⟨("_law_nothing", none), "_law_nothing", "_law_nothing", defArgs s_l_nothing, defBody s_l_nothing, defScope s_l_nothing, [], []⟩,
  ⟨("_law_word", none), "_law_word", "_law_word", defArgs s_l_word, defBody s_l_word, defScope s_l_word, [], []⟩,
  ⟨("_law_is_told", none), "_law_is_told", "_law_is_told", defArgs s_l_is_told, defBody s_l_is_told, defScope s_l_is_told, [], []⟩,
  ⟨("_law_odd_sum", none), "_law_odd_sum", "_law_odd_sum", defArgs s_l_odd_sum, defBody s_l_odd_sum, defScope s_l_odd_sum, [], []⟩,
  ⟨("_law_made", none), "_law_made", "_law_made", defArgs s_l_made, defBody s_l_made, defScope s_l_made, [], []⟩,
  ⟨("_law_due", none), "_law_due", "_law_due", defArgs s_l_due, defBody s_l_due, defScope s_l_due, [], []⟩,
  ⟨("_law_drawn", none), "_law_drawn", "_law_drawn", defArgs s_l_drawn, defBody s_l_drawn, defScope s_l_drawn, [], []⟩,
  ⟨("_law_bent", none), "_law_bent", "_law_bent", defArgs s_l_bent, defBody s_l_bent, defScope s_l_bent, [], []⟩,
  ⟨("law", none), "law", "law", defArgs s_law, defBody s_law, defScope s_law, [], []⟩,
  ⟨("Room", some "letters"), "letters", "Room.letters", defArgs s_Room_letters, defBody s_Room_letters, defScope s_Room_letters, [], []⟩,
  ⟨("Room", some "nothings"), "nothings", "Room.nothings", defArgs s_Room_nothings, defBody s_Room_nothings, defScope s_Room_nothings, [], []⟩,
  ⟨("Room", some "put"), "put", "Room.put", defArgs s_Room_put, defBody s_Room_put, defScope s_Room_put, [], []⟩,
  ⟨("Room", some "__init__"), "__init__", "Room.__init__", defArgs s_Room_init, defBody s_Room_init, defScope s_Room_init, [.non], []⟩]
def fa : List He.Fa := [.free "int", .free "bool", .free "list", .free "str", .free "tuple", .free "type", .free "len", .free "range", .free "enumerate", .free "zip", .free "isinstance", .free "all", .free "any", .free "sum", .free "ValueError", .glo "is_whole", .glo "is_row", .glo "is_near_row", .glo "are_near_rows", .glo "_law_mixed", .glo "_law_whole", .glo "_law_number", .glo "_law_nothing", .glo "_law_word", .glo "_law_is_told", .glo "_law_odd_sum", .glo "_law_made", .glo "_law_due", .glo "_law_drawn", .glo "_law_bent", .glo "law", .glo "SumError", .glo "BadLetters", .glo "BadSum", .glo "TooMany", .glo "NoNothing", .glo "BadSpot", .glo "NoWay", .glo "BadText", .glo "Room", .int "MOST_LETTERS" 6, .int "MOST_NOTHINGS" 16, .int "FURTHEST" 1000000000000, .cls "Room", .noat "Room" "_letters", .noat "Room" "_nothings", .noat "Room" "_plan", .meth "Room" "letters", .meth "Room" "nothings", .meth "Room" "put", .mkr "Room", .exc "BadLetters", .exm "BadLetters" "SumError" true, .exc "BadSum", .exm "BadSum" "SumError" true, .exc "TooMany", .exm "TooMany" "SumError" true]
def e3 : List Str := ["BadLetters", "BadSum", "TooMany"]
def e7 : List Str := ["BadLetters", "BadSum", "TooMany", "NoNothing", "BadSpot", "NoWay", "BadText"]
def exC (K : PySem.W.Frag) (x : Str) : Bool :=
  He.eqO (PySem.W.findIn K (.ref (He.ga K x)) "__getattribute__") (some (some (.builtin "BaseException.__getattribute__"))) &&
  (He.eqO (PySem.W.findIn K (.ref (He.ga K x)) "__getattr__") (some none) &&
  (decide (PySem.W.subIn K (.ref (He.ga K x)) (.type "BaseException") = some true) &&
  (PySem.W.hasDictIn K (He.ga K x) &&
  (He.eqO (PySem.W.findIn K (.ref (He.ga K x)) "__class__") (some (some (.builtin "object.__class__"))) &&
  (He.eqO (PySem.W.specialIn K (.builtin "object.__class__") "__get__") (some (some (.builtin "getset_descriptor.__get__"))) &&
  (decide (PySem.W.takesIn K (.builtin "object.__class__") = some true) &&
  decide (PySem.W.mroIn K (He.ga K x) (.type "object") = some true)))))))
theorem exC_ok {K : PySem.W.Frag} {x : Str} (h : exC K x = true) : ExcC K (He.ga K x) := by
  obtain ⟨h1, h⟩ := He.ba h
  obtain ⟨h2, h⟩ := He.ba h
  obtain ⟨h3, h⟩ := He.ba h
  obtain ⟨h4, h⟩ := He.ba h
  obtain ⟨h5, h⟩ := He.ba h
  obtain ⟨h6, h⟩ := He.ba h
  obtain ⟨h7, h8⟩ := He.ba h
  exact ⟨He.eqO_ok h1, He.eqO_ok h2, of_decide_eq_true h3, h4, He.eqO_ok h5, He.eqO_ok h6, of_decide_eq_true h7, of_decide_eq_true h8⟩
def wdB (K : PySem.W.Frag) (x : Str) (k : Nat) : Bool :=
  exC K x && ((List.range 7).all (fun j => decide (PySem.W.kitOne K (.ref (He.ga K x)) (.ref (He.ga K (e7.getD j ""))) = some (decide (j = k)))) &&
  (decide (PySem.W.kitOne K (.ref (He.ga K x)) (.ref (He.ga K "SumError")) = some true) && decide (PySem.W.kitOne K (.ref (He.ga K x)) (.type "ValueError") = some true)))
theorem wdB_ok {K : PySem.W.Frag} {x : Str} {k : Nat} (h : wdB K x k = true) : Wd K (He.ga K "SumError") [He.ga K "BadLetters", He.ga K "BadSum", He.ga K "TooMany", He.ga K "NoNothing", He.ga K "BadSpot", He.ga K "NoWay", He.ga K "BadText"] (He.ga K x) k := by
  obtain ⟨h1, h⟩ := He.ba h
  obtain ⟨h2, h⟩ := He.ba h
  obtain ⟨h3, h4⟩ := He.ba h
  refine ⟨exC_ok h1, fun j C hj => ?_, of_decide_eq_true h3, of_decide_eq_true h4⟩
  have hj7 : j < 7 := (List.getElem?_eq_some_iff.mp hj).1
  have z := of_decide_eq_true (List.all_eq_true.mp h2 j (List.mem_range.mpr hj7))
  match j, hj, hj7, z with
  | 0, hj, _, z => cases hj; exact z
  | 1, hj, _, z => cases hj; exact z
  | 2, hj, _, z => cases hj; exact z
  | 3, hj, _, z => cases hj; exact z
  | 4, hj, _, z => cases hj; exact z
  | 5, hj, _, z => cases hj; exact z
  | 6, hj, _, z => cases hj; exact z
  | n + 7, _, h7, _ => exact absurd h7 (by omega)
def riB (K : PySem.W.Frag) : Bool :=
  He.eqO (PySem.W.findIn K (.ref (He.ga K "Room")) "__class__") (some (some (.builtin "object.__class__"))) &&
  (He.eqO (PySem.W.specialIn K (.builtin "object.__class__") "__get__") (some (some (.builtin "getset_descriptor.__get__"))) &&
  (decide (PySem.W.takesIn K (.builtin "object.__class__") = some true) &&
  (decide (PySem.W.mroIn K (He.ga K "Room") (.type "object") = some true) &&
  decide (PySem.W.kitOne K (.ref (He.ga K "Room")) (.type "str") = some false))))
theorem riB_ok {K : PySem.W.Frag} (h : riB K = true) : RoomIs K (He.ga K "Room") := by
  obtain ⟨h1, h⟩ := He.ba h
  obtain ⟨h2, h⟩ := He.ba h
  obtain ⟨h3, h⟩ := He.ba h
  obtain ⟨h4, h5⟩ := He.ba h
  exact ⟨He.eqO_ok h1, He.eqO_ok h2, of_decide_eq_true h3, of_decide_eq_true h4, of_decide_eq_true h5⟩
def exB (K : PySem.W.Frag) : Bool := wdB K "BadLetters" 0 && (wdB K "BadSum" 1 && (wdB K "TooMany" 2 && riB K))
theorem facts {P : Program} {w : World} {K : PySem.W.Frag} {h : Heap} {mg : Str → Option Value} {f : Addr} (X : K.In h) (G : h.Ns mainGlobals mg) (hfa : mg ("law" : Str) = some (.ref f)) (c : He.SaysD fa fn K) (ex : exB K = true) :
    ∃ fd : FuncData, (∀ (s : Shared) (v : Value), BindsTo s fd ⟨[v], []⟩ [("_law_script", v)]) ∧ ∀ base : Heap, K.In base → base.Ns mainGlobals mg → FnOk P w K mg base CX0 8 f fd ["_law_script"] (spLaw K) := by
  obtain ⟨x1, ex⟩ := He.ba ex
  obtain ⟨x2, ex⟩ := He.ba ex
  obtain ⟨x3, x4⟩ := He.ba ex
  have B : Bi mg := ⟨He.free_ok X G (c.fact 0 (f := .free "int") rfl), He.free_ok X G (c.fact 1 (f := .free "bool") rfl), He.free_ok X G (c.fact 2 (f := .free "list") rfl), He.free_ok X G (c.fact 3 (f := .free "str") rfl), He.free_ok X G (c.fact 4 (f := .free "tuple") rfl), He.free_ok X G (c.fact 5 (f := .free "type") rfl), He.free_ok X G (c.fact 6 (f := .free "len") rfl), He.free_ok X G (c.fact 7 (f := .free "range") rfl), He.free_ok X G (c.fact 8 (f := .free "enumerate") rfl), He.free_ok X G (c.fact 9 (f := .free "zip") rfl), He.free_ok X G (c.fact 10 (f := .free "isinstance") rfl), He.free_ok X G (c.fact 11 (f := .free "all") rfl), He.free_ok X G (c.fact 12 (f := .free "any") rfl), He.free_ok X G (c.fact 13 (f := .free "sum") rfl)⟩
  have B_ValueError := He.free_ok X G (c.fact 14 (f := .free "ValueError") rfl)
  have T_MOST_LETTERS : Ci mg "MOST_LETTERS" 6 := He.int_ok X G (c.fact 40 (f := .int "MOST_LETTERS" 6) rfl)
  have T_MOST_NOTHINGS : Ci mg "MOST_NOTHINGS" 16 := He.int_ok X G (c.fact 41 (f := .int "MOST_NOTHINGS" 16) rfl)
  have T_FURTHEST : Ci mg "FURTHEST" 1000000000000 := He.int_ok X G (c.fact 42 (f := .int "FURTHEST" 1000000000000) rfl)
  have g_SumError := (He.glo_ok X G (c.fact 31 (f := .glo "SumError") rfl))
  have g_BadLetters := (He.glo_ok X G (c.fact 32 (f := .glo "BadLetters") rfl))
  have g_BadSum := (He.glo_ok X G (c.fact 33 (f := .glo "BadSum") rfl))
  have g_TooMany := (He.glo_ok X G (c.fact 34 (f := .glo "TooMany") rfl))
  have g_NoNothing := (He.glo_ok X G (c.fact 35 (f := .glo "NoNothing") rfl))
  have g_BadSpot := (He.glo_ok X G (c.fact 36 (f := .glo "BadSpot") rfl))
  have g_NoWay := (He.glo_ok X G (c.fact 37 (f := .glo "NoWay") rfl))
  have g_BadText := (He.glo_ok X G (c.fact 38 (f := .glo "BadText") rfl))
  have g_Room := (He.glo_ok X G (c.fact 39 (f := .glo "Room") rfl))
  have z_BadLetters := He.exc_ok (c.fact 51 (f := .exc "BadLetters") rfl)
  have X_BadLetters : Xc K mg "BadLetters" (He.ga K "BadLetters") := ⟨g_BadLetters, z_BadLetters.1, z_BadLetters.2.1, z_BadLetters.2.2.1, z_BadLetters.2.2.2⟩
  have z_BadSum := He.exc_ok (c.fact 53 (f := .exc "BadSum") rfl)
  have X_BadSum : Xc K mg "BadSum" (He.ga K "BadSum") := ⟨g_BadSum, z_BadSum.1, z_BadSum.2.1, z_BadSum.2.2.1, z_BadSum.2.2.2⟩
  have z_TooMany := He.exc_ok (c.fact 55 (f := .exc "TooMany") rfl)
  have X_TooMany : Xc K mg "TooMany" (He.ga K "TooMany") := ⟨g_TooMany, z_TooMany.1, z_TooMany.2.1, z_TooMany.2.2.1, z_TooMany.2.2.2⟩
  have R : Rc K (He.ga K "Room") := ⟨He.cls_ok (c.fact 43 (f := .cls "Room") rfl), He.noat_ok (c.fact 44 (f := .noat "Room" "_letters") rfl), He.noat_ok (c.fact 45 (f := .noat "Room" "_nothings") rfl), He.noat_ok (c.fact 46 (f := .noat "Room" "_plan") rfl)⟩
  obtain ⟨fd_is_whole, F_is_whole⟩ := c.def_ 0 (d := ⟨("is_whole", none), "is_whole", "is_whole", defArgs s_is_whole, defBody s_is_whole, defScope s_is_whole, [], []⟩) rfl
  have D_is_whole : ∀ base : Heap, Df P w K mg base CX0 1 "is_whole" ["thing"] spIsWhole := fun base =>
    have F := F_is_whole
    ⟨_, _, ok_is_whole F B, (He.glo_ok X G (c.fact 15 (f := .glo "is_whole") rfl)), F.kp, F.bindsN fun _ _ _ _ _ _ us hl => match us, hl with | [_], _ => rfl⟩
  obtain ⟨fd_is_row, F_is_row⟩ := c.def_ 1 (d := ⟨("is_row", none), "is_row", "is_row", defArgs s_is_row, defBody s_is_row, defScope s_is_row, [], []⟩) rfl
  have D_is_row : ∀ base : Heap, Df P w K mg base CX0 2 "is_row" ["thing", "many"] spIsRow := fun base =>
    have F := F_is_row
    ⟨_, _, ok_is_row F B (D_is_whole base), (He.glo_ok X G (c.fact 16 (f := .glo "is_row") rfl)), F.kp, F.bindsN fun _ _ _ _ _ _ us hl => match us, hl with | [_, _], _ => rfl⟩
  obtain ⟨fd_is_near_row, F_is_near_row⟩ := c.def_ 2 (d := ⟨("is_near_row", none), "is_near_row", "is_near_row", defArgs s_is_near_row, defBody s_is_near_row, defScope s_is_near_row, [], []⟩) rfl
  have D_is_near_row : ∀ base : Heap, Df P w K mg base CX0 3 "is_near_row" ["thing", "many"] spNearRow := fun base =>
    have F := F_is_near_row
    ⟨_, _, ok_is_near_row F B T_FURTHEST (D_is_row base), (He.glo_ok X G (c.fact 17 (f := .glo "is_near_row") rfl)), F.kp, F.bindsN fun _ _ _ _ _ _ us hl => match us, hl with | [_, _], _ => rfl⟩
  obtain ⟨fd_are_near_rows, F_are_near_rows⟩ := c.def_ 3 (d := ⟨("are_near_rows", none), "are_near_rows", "are_near_rows", defArgs s_are_near_rows, defBody s_are_near_rows, defScope s_are_near_rows, [], []⟩) rfl
  have D_are_near_rows : ∀ base : Heap, Df P w K mg base CX0 4 "are_near_rows" ["thing", "many"] spNearRows := fun base =>
    have F := F_are_near_rows
    ⟨_, _, ok_are_near_rows F B (D_is_near_row base), (He.glo_ok X G (c.fact 18 (f := .glo "are_near_rows") rfl)), F.kp, F.bindsN fun _ _ _ _ _ _ us hl => match us, hl with | [_, _], _ => rfl⟩
  obtain ⟨fd_l_mixed, F_l_mixed⟩ := c.def_ 4 (d := ⟨("_law_mixed", none), "_law_mixed", "_law_mixed", defArgs s_l_mixed, defBody s_l_mixed, defScope s_l_mixed, [], []⟩) rfl
  have D_l_mixed : ∀ base : Heap, Df P w K mg base CX0 1 "_law_mixed" ["_law_cell", "_law_k"] spMixed := fun base =>
    have F := F_l_mixed
    ⟨_, _, ok_l_mixed F, (He.glo_ok X G (c.fact 19 (f := .glo "_law_mixed") rfl)), F.kp, F.bindsN fun _ _ _ _ _ _ us hl => match us, hl with | [_, _], _ => rfl⟩
  obtain ⟨fd_l_whole, F_l_whole⟩ := c.def_ 5 (d := ⟨("_law_whole", none), "_law_whole", "_law_whole", defArgs s_l_whole, defBody s_l_whole, defScope s_l_whole, [], []⟩) rfl
  have D_l_whole : ∀ base : Heap, Df P w K mg base CX0 1 "_law_whole" ["_law_found"] spIsWhole := fun base =>
    have F := F_l_whole
    ⟨_, _, ok_l_whole F B, (He.glo_ok X G (c.fact 20 (f := .glo "_law_whole") rfl)), F.kp, F.bindsN fun _ _ _ _ _ _ us hl => match us, hl with | [_], _ => rfl⟩
  obtain ⟨fd_l_number, F_l_number⟩ := c.def_ 6 (d := ⟨("_law_number", none), "_law_number", "_law_number", defArgs s_l_number, defBody s_l_number, defScope s_l_number, [], []⟩) rfl
  have D_l_number : ∀ base : Heap, Df P w K mg base CX0 2 "_law_number" ["_law_cell", "_law_k"] spNumber := fun base =>
    have F := F_l_number
    ⟨_, _, ok_l_number F B (D_l_mixed base), (He.glo_ok X G (c.fact 21 (f := .glo "_law_number") rfl)), F.kp, F.bindsN fun _ _ _ _ _ _ us hl => match us, hl with | [_, _], _ => rfl⟩
  obtain ⟨fd_l_nothing, F_l_nothing⟩ := c.def_ 7 (d := ⟨("_law_nothing", none), "_law_nothing", "_law_nothing", defArgs s_l_nothing, defBody s_l_nothing, defScope s_l_nothing, [], []⟩) rfl
  have D_l_nothing : ∀ base : Heap, Df P w K mg base CX0 3 "_law_nothing" ["_law_cell", "_law_letters", "_law_told"] spNothing := fun base =>
    have F := F_l_nothing
    ⟨_, _, ok_l_nothing F B (D_l_mixed base) (D_l_number base), (He.glo_ok X G (c.fact 22 (f := .glo "_law_nothing") rfl)), F.kp, F.bindsN fun _ _ _ _ _ _ us hl => match us, hl with | [_, _, _], _ => rfl⟩
  obtain ⟨fd_l_is_told, F_l_is_told⟩ := c.def_ 9 (d := ⟨("_law_is_told", none), "_law_is_told", "_law_is_told", defArgs s_l_is_told, defBody s_l_is_told, defScope s_l_is_told, [], []⟩) rfl
  have D_l_is_told : ∀ base : Heap, Df P w K mg base CX0 2 "_law_is_told" ["_law_thing", "_law_letters"] spNearRow := fun base =>
    have F := F_l_is_told
    ⟨_, _, ok_l_is_told F B (D_l_whole base), (He.glo_ok X G (c.fact 24 (f := .glo "_law_is_told") rfl)), F.kp, F.bindsN fun _ _ _ _ _ _ us hl => match us, hl with | [_, _], _ => rfl⟩
  obtain ⟨fd_l_odd_sum, F_l_odd_sum⟩ := c.def_ 10 (d := ⟨("_law_odd_sum", none), "_law_odd_sum", "_law_odd_sum", defArgs s_l_odd_sum, defBody s_l_odd_sum, defScope s_l_odd_sum, [], []⟩) rfl
  have D_l_odd_sum : ∀ base : Heap, Df P w K mg base CX0 2 "_law_odd_sum" ["_law_cell", "_law_one"] spOdd := fun base =>
    have F := F_l_odd_sum
    ⟨_, _, ok_l_odd_sum F B (D_l_mixed base), (He.glo_ok X G (c.fact 25 (f := .glo "_law_odd_sum") rfl)), F.kp, F.bindsN fun _ _ _ _ _ _ us hl => match us, hl with | [_, _], _ => rfl⟩
  obtain ⟨fd_l_due, F_l_due⟩ := c.def_ 12 (d := ⟨("_law_due", none), "_law_due", "_law_due", defArgs s_l_due, defBody s_l_due, defScope s_l_due, [], []⟩) rfl
  have D_l_due : ∀ base : Heap, Df P w K mg base CX0 3 "_law_due" ["_law_letters", "_law_nothings"] spDue := fun base =>
    have F := F_l_due
    ⟨_, _, ok_l_due F B (D_l_whole base) (D_l_is_told base), (He.glo_ok X G (c.fact 27 (f := .glo "_law_due") rfl)), F.kp, F.bindsN fun _ _ _ _ _ _ us hl => match us, hl with | [_, _], _ => rfl⟩
  obtain ⟨fd_l_drawn, F_l_drawn⟩ := c.def_ 13 (d := ⟨("_law_drawn", none), "_law_drawn", "_law_drawn", defArgs s_l_drawn, defBody s_l_drawn, defScope s_l_drawn, [], []⟩) rfl
  have D_l_drawn : ∀ base : Heap, Df P w K mg base CX0 4 "_law_drawn" ["_law_cell"] spDrawn := fun base =>
    have F := F_l_drawn
    ⟨_, _, ok_l_drawn F B (D_l_mixed base) (D_l_nothing base), (He.glo_ok X G (c.fact 28 (f := .glo "_law_drawn") rfl)), F.kp, F.bindsN fun _ _ _ _ _ _ us hl => match us, hl with | [_], _ => rfl⟩
  obtain ⟨fd_l_bent, F_l_bent⟩ := c.def_ 14 (d := ⟨("_law_bent", none), "_law_bent", "_law_bent", defArgs s_l_bent, defBody s_l_bent, defScope s_l_bent, [], []⟩) rfl
  have D_l_bent : ∀ base : Heap, Df P w K mg base CX0 3 "_law_bent" ["_law_cell", "_law_letters", "_law_nothings"] spBentA := fun base =>
    have F := F_l_bent
    ⟨_, _, ok_l_bent F B (D_l_mixed base) (D_l_odd_sum base), (He.glo_ok X G (c.fact 29 (f := .glo "_law_bent") rfl)), F.kp, F.bindsN fun _ _ _ _ _ _ us hl => match us, hl with | [_, _, _], _ => rfl⟩
  obtain ⟨fd_l_word, F_l_word⟩ := c.def_ 8 (d := ⟨("_law_word", none), "_law_word", "_law_word", defArgs s_l_word, defBody s_l_word, defScope s_l_word, [], []⟩) rfl
  have D_l_word : ∀ base : Heap, Df P w K mg base CX0 1 "_law_word" ["_law_e"] (spWord K (He.ga K "SumError") [He.ga K "BadLetters", He.ga K "BadSum", He.ga K "TooMany", He.ga K "NoNothing", He.ga K "BadSpot", He.ga K "NoWay", He.ga K "BadText"]) := fun base =>
    have F := F_l_word
    ⟨_, _, ok_l_word F B B_ValueError g_SumError g_BadLetters g_BadSum g_TooMany g_NoNothing g_BadSpot g_NoWay g_BadText, (He.glo_ok X G (c.fact 23 (f := .glo "_law_word") rfl)), F.kp, F.bindsN fun _ _ _ _ _ _ us hl => match us, hl with | [_], _ => rfl⟩
  have ER : Errs K mg (He.ga K "SumError") [He.ga K "BadLetters", He.ga K "BadSum", He.ga K "TooMany", He.ga K "NoNothing", He.ga K "BadSpot", He.ga K "NoWay", He.ga K "BadText"] (He.ga K "BadLetters") (He.ga K "BadSum") (He.ga K "TooMany") := ⟨g_SumError, wdB_ok x1, wdB_ok x2, wdB_ok x3, He.exm_ok (c.fact 52 (f := .exm "BadLetters" "SumError" true) rfl), He.exm_ok (c.fact 54 (f := .exm "BadSum" "SumError" true) rfl), He.exm_ok (c.fact 56 (f := .exm "TooMany" "SumError" true) rfl)⟩
  obtain ⟨fd_init, F_init⟩ := c.def_ 19 (d := ⟨("Room", some "__init__"), "__init__", "Room.__init__", defArgs s_Room_init, defBody s_Room_init, defScope s_Room_init, [.non], []⟩) rfl
  obtain ⟨ds1, dv1, b1⟩ := F_init.binds1 (ps := ["self", "letters", "nothings"]) 2 0 (fun z => nomatch z) rfl fun T kV doc pm an cdv ct us its hu hi => match us, its, hu, hi with | [_, _], [_], _, _ => ⟨_, rfl, rfl⟩
  obtain ⟨ds3, dv3, b3a⟩ := F_init.binds1 (ps := ["self", "letters", "nothings"]) 3 1 (fun z => nomatch z) rfl fun T kV doc pm an cdv ct us its hu hi => match us, its, hu, hi with | [_, _, _], [_], _, _ => ⟨_, rfl, rfl⟩
  have b3 : Binds K fd_init ["self", "letters", "nothings"] [] := by
    cases dv3
    exact b3a
  have RM : ∀ base : Heap, RoomMk P w K mg base (He.ga K "Room") (He.ga K "BadLetters") (He.ga K "BadSum") (He.ga K "TooMany") := fun base =>
    ⟨⟨_, fd_init, ds1, He.mkr_ok (c.fact 50 (f := .mkr "Room") rfl), ok_Room_init F_init B R X_BadLetters X_BadSum X_TooMany T_MOST_LETTERS T_MOST_NOTHINGS (D_is_whole base) (D_are_near_rows base), b3, dv1, b1⟩, g_Room⟩
  obtain ⟨fd_l_made, F_l_made⟩ := c.def_ 11 (d := ⟨("_law_made", none), "_law_made", "_law_made", defArgs s_l_made, defBody s_l_made, defScope s_l_made, [], []⟩) rfl
  have D_l_made : ∀ base : Heap, Df P w K mg base CX0 7 "_law_made" ["_law_letters", "_law_nothings"] (spMade (He.ga K "Room")) := fun base =>
    have F := F_l_made
    ⟨_, _, ok_l_made F (RM base) ER (D_l_word base), (He.glo_ok X G (c.fact 26 (f := .glo "_law_made") rfl)), F.kp, F.bindsN fun _ _ _ _ _ _ us hl => match us, hl with | [_, _], _ => rfl⟩
  obtain ⟨fd_letters, F_letters⟩ := c.def_ 16 (d := ⟨("Room", some "letters"), "letters", "Room.letters", defArgs s_Room_letters, defBody s_Room_letters, defScope s_Room_letters, [], []⟩) rfl
  have M_letters : ∀ base : Heap, Mt P w K mg base CX0 1 (He.ga K "Room") "letters" ["self"] (spLetters (He.ga K "Room")) := fun base =>
    have F := F_letters
    ⟨_, _, ok_Room_letters F R, He.meth_ok (c.fact 47 (f := .meth "Room" "letters") rfl), F.bindsN fun _ _ _ _ _ _ us hl => match us, hl with | [_], _ => rfl⟩
  obtain ⟨fd_nothings, F_nothings⟩ := c.def_ 17 (d := ⟨("Room", some "nothings"), "nothings", "Room.nothings", defArgs s_Room_nothings, defBody s_Room_nothings, defScope s_Room_nothings, [], []⟩) rfl
  have M_nothings : ∀ base : Heap, Mt P w K mg base CX0 1 (He.ga K "Room") "nothings" ["self"] (spNothings (He.ga K "Room")) := fun base =>
    have F := F_nothings
    ⟨_, _, ok_Room_nothings F B R, He.meth_ok (c.fact 48 (f := .meth "Room" "nothings") rfl), F.bindsN fun _ _ _ _ _ _ us hl => match us, hl with | [_], _ => rfl⟩
  obtain ⟨fd_put, F_put⟩ := c.def_ 18 (d := ⟨("Room", some "put"), "put", "Room.put", defArgs s_Room_put, defBody s_Room_put, defScope s_Room_put, [], []⟩) rfl
  have M_put : ∀ base : Heap, Mt P w K mg base (L2.CX P w) 4 (He.ga K "Room") "put" ["self", "one"] (spPut (He.ga K "Room")) := fun base =>
    have F := F_put
    ⟨_, _, ok_Room_put F B R X_BadSum X_TooMany T_MOST_NOTHINGS (D_is_near_row base), He.meth_ok (c.fact 49 (f := .meth "Room" "put") rfl), F.bindsN fun _ _ _ _ _ _ us hl => match us, hl with | [_, _], _ => rfl⟩
  obtain ⟨fd, F⟩ := c.def_ 15 (d := ⟨("law", none), "law", "law", defArgs s_law, defBody s_law, defScope s_law, [], []⟩) rfl
  have e := hfa.symm.trans (He.glo_ok X G (c.fact 30 (f := .glo "law") rfl))
  cases e
  have b := FunD.bindsA (ps := ["_law_script"]) F fun _ _ _ _ _ _ us hl => match us, hl with | [_], _ => rfl
  exact ⟨fd, fun s v => b s [v] rfl, fun base _ _ => ok_law F B R (RM base) (riB_ok x4) (D_l_mixed base) (D_l_drawn base) (D_l_bent base) (D_l_due base) (D_l_made base) (D_l_whole base) (M_letters base) (M_nothings base) (M_put base)⟩
end Sr
namespace Sr
open PySem PySem.Spec PyProof.Rows L2
theorem walk {l : PySem.W.OpenLaw} {q : Program} {loose : List Str} {XP : (Str → Option Value) → Heap → Prop} {YP : World → Heap → Prop} {d : DefRec} {K : Params → PySem.W.Frag} (hn : l.most = some 63) (hdf : d.params.defaults = [])
    (hY : ∀ (w : World) (h : Heap), YP w h → (K w.params).In h) (hname : d.name = "law")
    (hs : ∀ w : World, He.SaysD fa fn (K w.params)) (hx : ∀ w : World, exB (K w.params) = true) :
    PySem.W.WalkO q loose XP YP l.row.toRowW d [] (fun f vs => PySem.call f vs) :=
  L2.walk_of (n := 63) (k := 8) (x := "_law_script") (CX := fun _ => CX0) (sp := fun w => spLaw (K w.params)) hn (by decide) hdf ⟨rfl, by decide, by decide⟩ hY
    (fun w mg f h KX G hmg => facts (P := l.prog) (w := w) KX G (by rw [hname] at hmg; exact hmg) (hs w) (hx w))
    (fun _ _ a ns hl _ hS => ⟨a, ns, rfl, hS, Nat.le_trans hl (by decide), fun _ => rfl⟩) fun _ _ _ _ _ z => z
end Sr
open PySem PySem.W PyProof.Rows
theorem PySem.Challenge.cw_sumroom_k01_rooms_made_holds : PySem.Challenge.rw_sumroom_k01_rooms_made.Holds := by
  w_on; o_law; k_head; (case hw => w_witness2)
  k_fill
  refine Sr.walk (l := PySem.Challenge.rw_sumroom_k01_rooms_made) rfl rfl (fun w h Y => PySem.W.kIn_of Y) rfl ?hs ?hx
  case hs =>
    intro w
    show He.obsD Sr.fa Sr.fn _ = He.valD Sr.fn
    kernel_rfl
  case hx =>
    intro w
    kernel_rfl
