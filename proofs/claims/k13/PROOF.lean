import PyProof.Rows.All
import Wide.All
import OpenK.AllK
import Wide.FinOn
import HandS.ForMost
import HandS.IsInst
import HandS.Style
import HandS.Codes
import HandS.Walk
import HandS.RaiseMore
import HandS.More
import HandS.Exc
import HandS.TupAny
import HandS.StrMore
import HandS.Star
import HandS.ListItems
import HandS.DictComp
import HandS.Conv
import PySem.Challenge.RW_freshcells_k13_faults_end
set_option Elab.async false
set_option linter.all false
set_option maxRecDepth 100000
set_option maxHeartbeats 4000000
/-! Fc0: own words over the hand layer: a def by its name, heaps, list(text). -/
namespace Fc
open PySem PySem.Spec PyProof.Rows L2 TL

/-! ### a def of the text, found by its name -/
structure Src (K : PySem.W.Frag) (mg : Str → Option Value) (x : Str) (st : Stmt) (ps : List Str) : Prop where
  ex : ∃ f fd, mg x = some (.ref f) ∧ Fun K x x st f fd ∧ Binds K fd ps []
structure Dn (P : Program) (w : World) (K : PySem.W.Frag) (mg : Str → Option Value) (base : Heap) (x : Str) (k : Nat) (ps : List Str) (sp : Sp) : Prop where
  ex : ∃ f fd, mg x = some (.ref f) ∧ PySem.W.keepIn K (.ref f) = true ∧ Binds K fd ps [] ∧ FnOk P w K mg base CX0 k f fd ps sp
section
variable {P : Program} {w : World} {K : PySem.W.Frag} {mg : Str → Option Value} {base : Heap} {x : Str} {st : Stmt} {N ps : List Str} {k : Nat} {sp sp' : Sp}
theorem Src.ok (S : Src K mg x st ps) (sc : FnScope N ps (defScope st)) (len : ∀ vs H Q E, sp vs H Q E → vs.length = ps.length)
    (hbody : ∀ (f : Addr) (cdv : Value) (A : Around) (outer : List Env) (s : Shared) (H : Hp) (vs : List V) (Q : VK) (E : XK), Room k (A.deeper (envOfC x (defScope st) s.heap.objs.size f cdv)) → sp vs H Q E →
      ∃ t, PSs (cxOf CX0 P w K mg base N x (defScope st) f cdv A outer s H E).nox (defBody st) t ∧ t { nx := fun _ H' => Q .non H', rt := Q } (start N vs) H) : Dn P w K mg base x (k + 1) ps sp := by
  obtain ⟨f, fd, m, F, b⟩ := S.ex
  exact ⟨f, fd, m, F.kp, b, F.ok sc len (hbody f)⟩
theorem Dn.imp (D : Dn P w K mg base x k ps sp) (h : ∀ vs H Q E, sp' vs H Q E → sp vs H Q E) : Dn P w K mg base x k ps sp' := by
  obtain ⟨f, fd, m, kp, b, F⟩ := D.ex
  exact ⟨f, fd, m, kp, b, F.imp h⟩
end
section
variable {X : Cx} {x : Str} {ps : List Str} {sp : Sp} {k : Nat} {p pos : Pos} {e : Expr} {es : List Expr} {t : TA}
theorem pe_fn (D : Dn X.prog X.w X.K X.mg X.base x k ps sp) (hr : Room k X.A) (hg : Gl X x)
    (ha : PA X (e :: es) t) (hdb : (x == ("__debug__" : Str)) = false := by decide) (he : starEach (e :: es) X.env = (false, eval e X.env) :: starEach es X.env := by rfl) (hpl : (backTo pos (starEach es X.env)).any (·.1) = false := by rfl) :
    PE X (.Call (.Name x p) (e :: es) [] pos) (tCall sp [] E0 t) := by
  obtain ⟨f, fd, m, kp, b, F⟩ := D.ex
  exact pe_call F hr hg m kp b .nil pass0 ha hdb he hpl
theorem pe_fn0 (D : Dn X.prog X.w X.K X.mg X.base x k ps sp) (hr : Room k X.A) (hg : Gl X x) (hdb : (x == ("__debug__" : Str)) = false := by decide) :
    PE X (.Call (.Name x p) [] [] pos) (tCall sp [] E0 tNil) := by
  obtain ⟨f, fd, m, kp, b, F⟩ := D.ex
  exact pe_call0 F hr hg m kp b .nil pass0 hdb
end

/-! ### list(text) -/
def sgn (c : Nat) : V := .str ⟨#[c]⟩
def sgns (z : Str) : List V := z.cps.toList.map sgn
theorem vals_signs : ∀ (cs : List Nat) (us : List Value), us.length = cs.length → (∀ (j : Nat) (v : Value), us[j]? = some v → ∃ (c : Nat) (u : Tok), cs[j]? = some c ∧ v = Value.str ⟨#[c]⟩ u) → Vals (cs.map sgn) us
  | [], [], _, _ => .nil
  | [], _ :: _, h, _ => by simp at h
  | _ :: _, [], h, _ => by simp at h
  | c :: cs, u :: us, h, q => by
    obtain ⟨c', t, e1, e2⟩ := q 0 u rfl
    have e1' : c = c' := Option.some.inj e1
    subst e1'
    exact .cons ⟨t, e2⟩ (vals_signs cs us (by simpa using h) fun j v e => q (j + 1) v e)
theorem call_list_txt {X : Cx} (hc : X.calm = true) : CallR X (.type "list") (fun xs H Q => ∃ z : Str, xs = [.str z] ∧ z.length ≤ sizeLine ∧ ∀ l, H l = none → Q (.ref l) (upd H l (.lst (sgns z)))) := by
  intro pins s σ H xs us Q I r h
  obtain ⟨z, rfl, hz, q⟩ := h
  obtain ⟨u, rfl, rx⟩ := vals1 r
  obtain ⟨t, rfl⟩ := rx
  refine PySem.call_list_str (I.ok.hd hc) z t (fun h' tk acc' c' kp e it => ?_) hz
  obtain ⟨hsz, hit⟩ := it
  refine ⟨.ref s.heap.objs.size, _, I.laid (t' := tk) kp (Nat.le_refl _) (show ObjOk X.prog X.w _ h' _ (.lst (sgns z)) from ⟨?_, acc'.toList, c', ?_, e⟩), rfl, q _ (I.hok.fresh (Nat.le_refl _))⟩
  · unfold sgns
    rw [List.length_map, Array.length_toList]
    exact hz
  · refine vals_signs _ _ ?_ fun j v ej => ?_
    · rw [Array.length_toList, Array.length_toList]; exact hsz
    · rw [Array.getElem?_toList] at ej
      obtain ⟨c, u, e1, e2⟩ := hit j v ej
      refine ⟨c, u, ?_, e2⟩
      rw [Array.getElem?_toList]
      exact e1

/-! ### heaps -/
theorem same_upd {H : Hp} {p : Addr} {o : HO} (h : H p = none) : Same H (upd H p o) := fun b x e => by
  rw [upd_ne (ne_of_none e h)]
  exact e
/-- the draws' bag at b: a great number's rest, a number mixed -/
def Bag (H : Hp) (b : Addr) : Prop := ∃ g m : Int, H b = some (.lst [.int g, .int m]) ∧ 0 ≤ g ∧ 0 ≤ m ∧ m < 2147483648
/-- all but the bag is kept -/
structure Kp (b : Addr) (H H' : Hp) : Prop where
  keep : ∀ a o, a ≠ b → H a = some o → H' a = some o
  bag : Bag H' b
theorem Kp.refl {b : Addr} {H : Hp} (h : Bag H b) : Kp b H H := ⟨fun _ _ _ e => e, h⟩
theorem Kp.trans {b : Addr} {H H1 H2 : Hp} (a : Kp b H H1) (c : Kp b H1 H2) : Kp b H H2 := ⟨fun x o n e => c.keep x o n (a.keep x o n e), c.bag⟩
theorem Bag.same {b : Addr} {H H' : Hp} (h : Bag H b) (s : Same H H') : Bag H' b := by
  obtain ⟨g, m, e, r⟩ := h
  exact ⟨g, m, s _ _ e, r⟩
theorem Kp.same {b : Addr} {H H1 H2 : Hp} (a : Kp b H H1) (s : Same H1 H2) : Kp b H H2 := ⟨fun x o n e => s x o (a.keep x o n e), a.bag.same s⟩
theorem Kp.of {b : Addr} {H H' : Hp} (h : Bag H b) (s : Same H H') : Kp b H H' := (Kp.refl h).same s
/-- a bag is no new object -/
theorem Bag.ne {b p : Addr} {H : Hp} (h : Bag H b) (n : H p = none) : p ≠ b := by
  obtain ⟨g, m, e, _⟩ := h
  exact (ne_of_none e n).symm
theorem Kp.none {b p : Addr} {H H' : Hp} (k : Kp b H H') (h : Bag H b) (n : H' p = Option.none) : H p = Option.none := by
  cases e : H p with
  | none => rfl
  | some o =>
    by_cases hp : p = b
    · rw [hp] at n
      obtain ⟨g, m, e2, _⟩ := k.bag
      rw [e2] at n
      cases n
    · rw [k.keep p o hp e] at n
      cases n
theorem same_put {H H' : Hp} {p : Addr} {o : HO} (s : Same H H') (h : H p = Option.none) : Same H (L2.upd H' p o) := fun b x e => by
  rw [upd_ne (ne_of_none e h)]
  exact s b x e
theorem upd_keep {H : Hp} {p q : Addr} {o u : HO} (h : H q = some u) (n : H p = none) : L2.upd H p o q = some u := by
  rw [upd_ne (ne_of_none h n)]
  exact h
theorem wipe1 (σ : L2.St) (i : Nat) (v : Option V) : wipe ((wipe σ [i]).set i v) [i] = wipe σ [i] := by
  show ((σ.set i none).set i v).set i none = σ.set i none
  rw [List.set_set, List.set_set]
theorem tyes {A B : Hp → Prop} {σ : L2.St} {H : Hp} (h : A H) : tYes σ H (fun b H3 => if b = true then A H3 else B H3) := by
  show (if true = true then A H else B H)
  rw [if_pos rfl]
  exact h
/-- a comprehension whose items hang on the walked item alone; the heap may grow meanwhile (kept: what stood at its start) -/
theorem lc_map {J : It} {n : Nat} {G : Hp → Prop} {te : TE} {i : Nat} {σ : L2.St} {H1 : Hp} {D : Addr} {Qd : Hp → Prop} (xs ys : List V)
    (w : Walk J n G fun j H x H' => H' = H ∧ xs[j]? = some x) (hn : xs.length = n) (hl : ys.length = n) (hz : n < sizeLine) (nD : H1 D = none) (hG : ∀ H, Same H1 H → G H)
    (hs : ∀ (j : Nat) (x y : V) (H : Hp) (Q : VK), Same H1 H → xs[j]? = some x → ys[j]? = some y → (∀ H', (∀ a o, a ≠ D → H a = some o → H' a = some o) → (∀ acc, H D = some (.lst acc) → H' D = some (.lst acc)) → Q y H') → te ((wipe σ [i]).set i (some x)) H Q)
    (hd : ∀ H, Same H1 H → H D = some (.lst ys) → Qd H) :
    ∃ W : Nat → Nat → Hp → Prop, (∃ m, W 0 m (upd H1 D (.lst []))) ∧ ∀ k m H, W k m H →
      (J.stop k H ∧ Qd H) ∨ (J.go k H ∧ ∃ Nx : Hp → Prop, (∀ H', Nx H' → ∃ m', m' < m ∧ W (k + 1) m' H') ∧ ∀ x H', J.yld k H x H' → gName i x (wipe σ [i]) H' fun σ2 H2 => wipe σ2 [i] = wipe σ [i] ∧ tYes σ2 H2 fun b H3 =>
        if b = true then te σ2 H3 fun y H4 => ∃ acc, H4 D = some (.lst acc) ∧ acc.length < sizeLine ∧ Nx (upd H4 D (.lst (acc ++ [y]))) else Nx H3) := by
  refine lc_it w (fun k H => Same H1 H ∧ H D = some (.lst (ys.take k))) ⟨same_upd nD, by rw [upd_same]; rfl⟩ (fun k H _ p => hG H p.1) ?_ (fun H p => hd H p.1 (by rw [p.2, ← hl, List.take_length]))
  rintro k x H H2 hk ⟨s, e⟩ ⟨eh, hx⟩
  subst eh
  refine ⟨wipe1 σ i _, ?_⟩
  refine tyes ?_
  have hy : ys[k]? = some ys[k] := List.getElem?_eq_getElem (by omega)
  refine hs k x _ _ _ s hx hy fun H' kp kD => ?_
  refine ⟨_, kD _ e, by rw [List.length_take]; omega, fun a o ea => ?_, ?_⟩
  · have na : a ≠ D := ne_of_none ea nD
    rw [upd_ne na]
    exact kp a o na (s a o ea)
  · rw [upd_same, List.take_add_one, hy]
    rfl
theorem walk_sgn {z : Str} : Walk (Its z) (sgns z).length (fun _ => True) (fun j H x H' => H' = H ∧ (sgns z)[j]? = some x) := by
  have e : (sgns z).length = z.cps.size := by
    unfold sgns
    rw [List.length_map, Array.length_toList]
  rw [e]
  refine walk_str.mono (fun _ h => h) fun i H v H' hi _ y => ?_
  obtain ⟨h, c, e1, e2⟩ := y
  refine ⟨h, ?_⟩
  unfold sgns
  rw [List.getElem?_map, Array.getElem?_toList, e1, e2]
  rfl
theorem sgns_length (z : Str) : (sgns z).length = z.length := by
  unfold sgns
  rw [List.length_map, Array.length_toList]
  rfl
/-- of what is no object's text: the kind -/
inductive Thg (K : PySem.W.Frag) (H : Hp) : V → Option Str → Prop
  | str (z : Str) (h : z.length ≤ 2000) : Thg K H (.str z) (some z)
  | oth (v : V) (T : String) (t : TyX K H v (.type T)) (e : kitB T "str" = some false) : Thg K H v none
theorem Thg.isi {K : PySem.W.Frag} {H : Hp} {v : V} {o : Option Str} (t : Thg K H v o) : ∃ u, TyX K H v u ∧ PySem.W.kitOne K u (.type "str") = some o.isSome := by
  cases t with
  | str z h => exact ⟨_, .base (.str z), kit_ty (r := true) (by decide +kernel)⟩
  | oth v T t e => exact ⟨_, t, kit_ty e⟩
theorem TyX.mono {K : PySem.W.Frag} {H H' : Hp} {v : V} {t : Value} (h : TyX K H v t) (s : ∀ a o, v = .ref a → H a = some o → H' a = some o) : TyX K H' v t := by
  cases h with
  | base b =>
    cases b with
    | non => exact .base .non
    | bl y => exact .base (.bl y)
    | int i => exact .base (.int i)
    | str y => exact .base (.str y)
    | flt y => exact .base (.flt y)
    | lst e => exact .base (.lst (s _ _ rfl e))
    | frz e => exact .base (.frz (s _ _ rfl e))
    | tup e => exact .base (.tup (s _ _ rfl e))
    | dK e => exact .base (.dK (s _ _ rfl e))
    | dT e => exact .base (.dT (s _ _ rfl e))
    | ins e cl ha hn htk hm => exact .base (.ins (s _ _ rfl e) cl ha hn htk hm)
  | byt b => exact .byt b
  | set e => exact .set (s _ _ rfl e)
  | kList e c => exact .kList e c
  | kTuple e c => exact .kTuple e c
  | kDict e c => exact .kDict e c
  | fTuple e => exact .fTuple (s _ _ rfl e)
  | fDict e => exact .fDict (s _ _ rfl e)
theorem Thg.mono {K : PySem.W.Frag} {H H' : Hp} {v : V} {o : Option Str} (h : Thg K H v o) (s : ∀ a u, v = .ref a → H a = some u → H' a = some u) : Thg K H' v o := by
  cases h with
  | str z h => exact .str z h
  | oth v T t e => exact .oth v T (TyX.mono t s) e
/-! ### names -/
def letS : Str := "abcdefghijklmnopqrstuvwxyz"
def words3 : List V := [.str "show", .str "drop", .str "if"]
def isLet (c : Nat) : Bool := decide (c ∈ letS.cps.toList)
def isNm (z : Str) : Bool := (decide ((1 : Int) ≤ z.length) && decide ((z.length : Int) ≤ 4)) && (!inV (.str z) words3 && z.cps.toList.all isLet)
def nmO : Option Str → Bool
  | some z => isNm z
  | none => false
theorem all_id (cs : List Nat) (f : Nat → Bool) : (cs.map f).all id = cs.all f := by
  rw [List.all_map]
  rfl
theorem inV_sgns (c : Nat) (z : Str) : inV (sgn c) (sgns z) = decide (c ∈ z.cps.toList) := by
  unfold inV sgns
  rw [List.any_map]
  rw [Bool.eq_iff_iff, List.any_eq_true, decide_eq_true_eq]
  constructor
  · rintro ⟨x, hx, e⟩
    have e' : ((⟨#[x]⟩ : Str) == ⟨#[c]⟩) = true := e
    have e2 : (⟨#[x]⟩ : Str) = ⟨#[c]⟩ := by simpa using e'
    have e3 : x = c := by
      injection e2 with e3
      simpa using e3
    exact e3 ▸ hx
  · intro h
    refine ⟨c, h, ?_⟩
    show ((⟨#[c]⟩ : Str) == ⟨#[c]⟩) = true
    simp
/-! ### rules by a named K (within a comprehension's block the K is the def's) -/
section
variable {X : Cx} {K : PySem.W.Frag}
theorem ixK_list (h : X.K = K) : IxR X (rIxL K) := h ▸ ix_list
theorem ixK_tup (h : X.K = K) : IxR X (rIxT K) := h ▸ ix_tup
theorem inK_seq (h : X.K = K) : OpR X (compareOp .In) (rIn K false) := h ▸ op_in_seq
theorem notinK_seq (h : X.K = K) : OpR X (compareOp .NotIn) (rIn K true) := h ▸ op_notIn_seq
def rLen (K : PySem.W.Frag) : List V → Hp → VK → Prop := fun xs H Q => ∃ p ys, xs = [.ref p] ∧ (SqL K H p ys ∨ SqT K H p ys) ∧ Q (.int ys.length) H
theorem lenK (h : X.K = K) : CallR X (.builtin "len") (rLen K) := h ▸ call_len_seq
def rLst (K : PySem.W.Frag) : List V → Hp → VK → Prop := fun xs H Q => ∃ p ys, xs = [.ref p] ∧ (SqL K H p ys ∨ SqT K H p ys) ∧ ∀ l, H l = none → Q (.ref l) (upd H l (.lst ys))
theorem listK (h : X.K = K) : CallR X (.type "list") (rLst K) := h ▸ call_list_of
def rTpl (K : PySem.W.Frag) : List V → Hp → VK → Prop := fun xs H Q => ∃ p ys, xs = [.ref p] ∧ ((SqL K H p ys ∧ ∀ l, H l = none → Q (.ref l) (upd H l (.tup ys))) ∨ (SqT K H p ys ∧ Q (.ref p) H))
theorem tupleK (h : X.K = K) : CallR X (.type "tuple") (rTpl K) := h ▸ call_tuple_of
theorem allK (h : X.K = K) (hc : X.calm = true) : CallR X (.builtin "all") (rAll K) := h ▸ cr_all hc
theorem anyK (h : X.K = K) (hc : X.calm = true) : CallR X (.builtin "any") (rAny K) := h ▸ cr_any hc
theorem sumK (h : X.K = K) (hc : X.calm = true) : CallR X (.builtin "sum") (rSum K) := h ▸ cr_sum hc
theorem sortedSK (h : X.K = K) : CallR X (.builtin "sorted") (rSortedS K) := h ▸ cr_sortedS
theorem eqK_D (h : X.K = K) (hu : X.A.units + 64 < cLine) : OpR X (compareOp .Eq) (rEqD K) := h ▸ op_eqD hu
theorem neK_D (h : X.K = K) (hu : X.A.units + 64 < cLine) : OpR X (compareOp .NotEq) (rNeD K) := h ▸ op_neD hu
theorem isiK (h : X.K = K) : CallR X (.builtin "isinstance") (rIsi K) := h ▸ call_isi
theorem slK_list (h : X.K = K) : SlR X (rSlL K) := h ▸ sl_list
theorem slK_tup (h : X.K = K) : SlR X (rSlT K) := h ▸ sl_tup
theorem catK_T (h : X.K = K) : OpR X (binaryOp .Add) (rCatT K) := h ▸ op_catT
theorem piK_list {tg l : Expr} {tl : TE} (h : X.K = K) (hl : PE X l tl) : PI X tg l (iList K tl) := h ▸ pi_list hl
theorem piK_tup {tg l : Expr} {tl : TE} (h : X.K = K) (hl : PE X l tl) : PI X tg l (iTup K tl) := h ▸ pi_tup hl
def rJoin (K : PySem.W.Frag) : V → List V → Hp → VK → Prop := fun x xs H Q => ∃ a p, ∃ ys : List Str, x = .str a ∧ xs = [.ref p] ∧ (SqL K H p (ys.map V.str) ∨ SqT K H p (ys.map V.str)) ∧
    (ys.map (·.length)).sum + ys.length * a.length ≤ 16777216 ∧ Q (.str (Txt.join a ys)) H
theorem pe_joinK {o e : Expr} {to te : TE} {apos pos : Pos} (h : X.K = K) (ho : PE X o to) (he : PE X e te) (hs : starEach [e] X.env = [(false, eval e X.env)] := by rfl) (hbase : attributeBase o "join" X.env (eval o X.env) = eval o X.env := by rfl) (hline : (apos.endLine == pos.line) = true := by rfl) :
    PE X (.Call (.Attribute o "join" apos) [e] [] pos) (tM1 (rJoin K) to te) := h ▸ pe_join ho he hs hbase hline
theorem pe_revLK {e : Expr} {te : TE} {k : Nat} {p1 p2 p3 pos : Pos} (h : X.K = K) (he : PE X e te) : PE X (.Subscript e (.Slice none none (some (.UnaryOp .USub (.Constant (.int 1) k p1) p2)) p3) pos) (tRevL K te) := h ▸ pe_revL he
end
theorem Kp.upd {b D : Addr} {H H' : Hp} {o : HO} (k : Kp b H H') (h : H D = Option.none) (n : D ≠ b) : Kp b H (L2.upd H' D o) := by
  refine ⟨fun a u ha e => ?_, ?_⟩
  · rw [upd_ne (ne_of_none e h)]
    exact k.keep a u ha e
  · obtain ⟨g, m, e, r⟩ := k.bag
    exact ⟨g, m, by rw [upd_ne n.symm]; exact e, r⟩
/-- a comprehension over a range whose items are drawn from the bag -/
theorem lc_bag {te : TE} {i n : Nat} {lo : Int} {σ : L2.St} {H1 : Hp} {D b : Addr} {Qd : Hp → Prop} (F : Hp → V → Prop) (hz : n < sizeLine) (nD : H1 D = none) (hB : Bag H1 b)
    (hk : ∀ H H' y, F H y → (∀ a o, y = .ref a → H a = some o → H' a = some o) → F H' y)
    (hs : ∀ (k : Nat) (H : Hp) (Q : VK), k < n → Kp b H1 H → (∀ y H', F H' y → (∀ a, y = .ref a → H a = none) → Kp b H H' → Q y H') → te ((wipe σ [i]).set i (some (.int (lo + k)))) H Q)
    (hd : ∀ H ys, Kp b H1 H → H D = some (.lst ys) → ys.length = n → (∀ y ∈ ys, y ≠ .ref b ∧ y ≠ .ref D ∧ F H y) → Qd H) :
    ∃ W : Nat → Nat → Hp → Prop, (∃ m, W 0 m (upd H1 D (.lst []))) ∧ ∀ k m H, W k m H →
      ((Itr lo n).stop k H ∧ Qd H) ∨ ((Itr lo n).go k H ∧ ∃ Nx : Hp → Prop, (∀ H', Nx H' → ∃ m', m' < m ∧ W (k + 1) m' H') ∧ ∀ x H', (Itr lo n).yld k H x H' → gName i x (wipe σ [i]) H' fun σ2 H2 => wipe σ2 [i] = wipe σ [i] ∧ tYes σ2 H2 fun b H3 =>
        if b = true then te σ2 H3 fun y H4 => ∃ acc, H4 D = some (.lst acc) ∧ acc.length < sizeLine ∧ Nx (upd H4 D (.lst (acc ++ [y]))) else Nx H3) := by
  have nb : D ≠ b := hB.ne nD
  refine lc_range (fun k H => Kp b H1 H ∧ ∃ ys, H D = some (.lst ys) ∧ ys.length = k ∧ ∀ y ∈ ys, y ≠ .ref b ∧ y ≠ .ref D ∧ F H y) ⟨(Kp.refl hB).upd nD nb, [], upd_same, rfl, fun y h => by cases h⟩ ?_ (fun H p => by
    obtain ⟨k, ys, e, l, f⟩ := p
    exact hd H ys k e l f)
  rintro k H hkn ⟨kp, ys, e, l, f⟩
  refine ⟨wipe1 σ i _, tyes ?_⟩
  refine hs k H _ hkn kp fun y H' fy fr kp' => ?_
  have e' : H' D = some (.lst ys) := kp'.keep D _ nb e
  refine ⟨ys, e', by omega, (kp.trans kp').upd nD nb, ys ++ [y], upd_same, by rw [List.length_append, l]; rfl, fun x hx => ?_⟩
  have yb : y ≠ .ref b := fun q => by
    have h := fr b q
    obtain ⟨g, m, e2, _⟩ := kp.bag
    rw [h] at e2
    cases e2
  have yD : y ≠ .ref D := fun q => by
    have h := fr D q
    rw [h] at e
    cases e
  rcases List.mem_append.mp hx with hx | hx
  · obtain ⟨x1, x2, x3⟩ := f x hx
    refine ⟨x1, x2, hk _ _ _ x3 fun a o ea h => ?_⟩
    have na : a ≠ D := fun q => x2 (by rw [ea, q])
    rw [upd_ne na]
    exact kp'.keep a o (fun q => x1 (by rw [ea, q])) h
  · obtain rfl : x = y := by simpa using hx
    refine ⟨yb, yD, hk _ _ _ fy fun a o ea h => ?_⟩
    rw [upd_ne (fun q => yD (by rw [ea, q]))]
    exact h
/-! ### texts by their signs -/
def mkS (cs : List Nat) : Str := ⟨cs.toArray⟩
theorem tl_mkS (cs : List Nat) : tl (mkS cs) = cs := rfl
theorem len_mkS (cs : List Nat) : (mkS cs).length = cs.length := by
  show cs.toArray.size = cs.length
  exact List.size_toArray
theorem ext_tl {x y : Str} (h : tl x = tl y) : x = y := by
  cases x with
  | mk a =>
    cases y with
    | mk b =>
      have : a.toList = b.toList := h
      rw [Array.toList_inj.mp this]
theorem joinL_nil : ∀ cs : List Nat, joinL [] (cs.map fun c => [c]) = cs
  | [] => rfl
  | [c] => rfl
  | c :: d :: r => by
    show [c] ++ ([] ++ joinL [] ((d :: r).map fun c => [c])) = c :: d :: r
    rw [joinL_nil (d :: r)]
    rfl
theorem join_signs (cs : List Nat) : Txt.join "" (cs.map fun c => (⟨#[c]⟩ : Str)) = mkS cs := by
  refine ext_tl ?_
  rw [join_eq, tl_join, List.map_map, tl_mkS]
  exact joinL_nil cs
theorem signs_sum : ∀ cs : List Nat, ((cs.map fun c => (⟨#[c]⟩ : Str)).map (·.length)).sum = cs.length
  | [] => rfl
  | c :: r => by
    have h := signs_sum r
    rw [List.map_cons, List.map_cons, List.sum_cons, h, List.length_cons]
    show 1 + r.length = r.length + 1
    omega
theorem at_in {α : Type} {xs : List α} {z : Int} (h0 : 0 ≤ z) (h : z.toNat < xs.length) : atI xs z = some xs[z.toNat] := by
  have e : z = ((z.toNat : Nat) : Int) := by omega
  have q : atI xs ((z.toNat : Nat) : Int) = some xs[z.toNat] := atI_nat (List.getElem?_eq_getElem h)
  rw [← e] at q
  exact q
theorem Kp.out {b : Addr} {H0 H1 H2 : Hp} (k : Kp b H1 H2) (s : Same H0 H1) (n : H0 b = Option.none) : Same H0 H2 := fun a o e =>
  k.keep a o (ne_of_none e n) (s a o e)
def spLaw (K : PySem.W.Frag) : Sp := fun vs H Q _ => ∃ (a : Addr) (ns : List Int), vs = [.ref a] ∧ SqL K H a (ns.map V.int) ∧ ns.length ≤ 63 ∧ ∀ H', Q (.bl true) H'
end Fc

set_option Elab.async false
set_option linter.all false
set_option maxRecDepth 100000
set_option maxHeartbeats 4000000
/-! Fc1: sums as plain data, their tuples and their texts. -/
namespace Fc
open PySem PySem.Spec PyProof.Rows L2 TL

/-! ### tuples stay -/
def TK (K : PySem.W.Frag) (H H' : Hp) : Prop := ∀ a xs, SqT K H a xs → SqT K H' a xs
theorem TK.refl {K : PySem.W.Frag} (H : Hp) : TK K H H := fun _ _ h => h
theorem TK.trans {K : PySem.W.Frag} {H H1 H2 : Hp} (a : TK K H H1) (b : TK K H1 H2) : TK K H H2 := fun x xs h => b x xs (a x xs h)
theorem SqT.keep {K : PySem.W.Frag} {H H' : Hp} {a : Addr} {xs : List V} (h : SqT K H a xs) (k : ∀ o, H a = some o → (∃ u, o = .tup u) ∨ (∃ ob u, o = .frz ob u) → H' a = some o) : SqT K H' a xs := by
  rcases h with (h | ⟨o, h⟩) | h
  · exact .inl (.inl (k _ h (.inl ⟨_, rfl⟩)))
  · exact .inl (.inr ⟨o, k _ h (.inr ⟨_, _, rfl⟩)⟩)
  · exact .inr h
theorem Same.tk {K : PySem.W.Frag} {H H' : Hp} (s : Same H H') : TK K H H' := fun a xs h => SqT.keep h fun o e _ => s a o e
/-- all but one object, which is no tuple, is kept -/
theorem tk_but {K : PySem.W.Frag} {H H' : Hp} {b : Addr} {u : HO} (hb : H b = some u) (hu : (∀ x, u ≠ .tup x) ∧ ∀ o x, u ≠ .frz o x) (k : ∀ a o, a ≠ b → H a = some o → H' a = some o) : TK K H H' := fun a xs h => SqT.keep h fun o e t => by
  refine k a o (fun q => ?_) e
  rw [q, hb] at e
  have e' : u = o := Option.some.inj e
  rcases t with ⟨x, rfl⟩ | ⟨ob, x, rfl⟩
  · exact hu.1 _ e'
  · exact hu.2 _ _ e'
theorem Kp.tk {K : PySem.W.Frag} {H H' : Hp} {b : Addr} (k : Kp b H H') (h : Bag H b) : TK K H H' := by
  obtain ⟨g, m, e, _⟩ := h
  exact tk_but e ⟨fun _ q => (by cases q), fun _ _ q => (by cases q)⟩ k.keep
theorem tk_put {K : PySem.W.Frag} {H : Hp} {p : Addr} {o : HO} (n : H p = none) : TK K H (upd H p o) := Same.tk (same_upd n)
theorem tk_lst {K : PySem.W.Frag} {H : Hp} {p : Addr} {xs ys : List V} (h : H p = some (.lst xs)) : TK K H (upd H p (.lst ys)) :=
  tk_but h ⟨fun _ q => (by cases q), fun _ _ q => (by cases q)⟩ fun a o n e => by rw [upd_ne n]; exact e
theorem tk_dK {K : PySem.W.Frag} {H : Hp} {p : Addr} {xs ys : List (Key × V)} (h : H p = some (.dK xs)) : TK K H (upd H p (.dK ys)) :=
  tk_but h ⟨fun _ q => (by cases q), fun _ _ q => (by cases q)⟩ fun a o n e => by rw [upd_ne n]; exact e

/-! ### data without lists -/
mutual
def noL : PyData → Bool
  | .list _ => false
  | .dict _ => false
  | .tuple ds => noLs ds
  | _ => true
def noLs : List PyData → Bool
  | [] => true
  | d :: ds => noL d && noLs ds
end
section
variable {K : PySem.W.Frag} {H H' : Hp}
mutual
theorem Dp.tk (t : TK K H H') : ∀ (d : PyData) (v : V), noL d = true → Dp K H v d → Dp K H' v d
  | .none, _, _, h => by cases h; exact .non
  | .bool b, _, _, h => by cases h; exact .bl b
  | .int i, _, _, h => by cases h; exact .int i
  | .str x, _, _, h => by cases h; exact .str x
  | .list ds, _, n, _ => by simp [noL] at n
  | .dict ds, _, n, _ => by simp [noL] at n
  | .tuple ds, _, n, h => by
    cases h with
    | tup s a => exact .tup (t _ _ s) (DpAll.tk t ds _ (by simpa [noL] using n) a)
theorem DpAll.tk (t : TK K H H') : ∀ (ds : List PyData) (vs : List V), noLs ds = true → DpAll K H vs ds → DpAll K H' vs ds
  | [], _, _, h => by cases h; exact .nil
  | d :: ds, _, n, h => by
    have n' : noL d = true ∧ noLs ds = true := by simpa [noLs] using n
    cases h with
    | cons a b => exact .cons (Dp.tk t d _ n'.1 a) (DpAll.tk t ds _ n'.2 b)
end
theorem DpAll.length : ∀ {vs : List V} {ds : List PyData}, DpAll K H vs ds → vs.length = ds.length
  | _, _, .nil => rfl
  | _, _, .cons _ t => by rw [List.length_cons, List.length_cons, DpAll.length t]
theorem DpAll.append : ∀ {vs ws : List V} {ds es : List PyData}, DpAll K H vs ds → DpAll K H ws es → DpAll K H (vs ++ ws) (ds ++ es)
  | _, _, _, _, .nil, h => h
  | _, _, _, _, .cons a t, h => .cons a (DpAll.append t h)
theorem DpAll.get : ∀ {vs : List V} {ds : List PyData} {i : Nat} {d : PyData}, DpAll K H vs ds → ds[i]? = some d → ∃ v, vs[i]? = some v ∧ Dp K H v d
  | _, _, _, _, .nil, e => by simp at e
  | _, _, 0, _, .cons a _, e => ⟨_, rfl, by simpa using (Option.some.inj e) ▸ a⟩
  | _, _, i + 1, d, .cons _ t, e => by
    obtain ⟨v, h1, h2⟩ := DpAll.get (i := i) (d := d) t (by simpa using e)
    exact ⟨v, by simpa using h1, h2⟩
theorem DpAll.getV : ∀ {vs : List V} {ds : List PyData} {i : Nat} {v : V}, DpAll K H vs ds → vs[i]? = some v → ∃ d, ds[i]? = some d ∧ Dp K H v d
  | _, _, _, _, .nil, e => by simp at e
  | _, _, 0, _, .cons a _, e => ⟨_, rfl, by simpa using (Option.some.inj e) ▸ a⟩
  | _, _, i + 1, v, .cons _ t, e => by
    obtain ⟨d, h1, h2⟩ := DpAll.getV (i := i) (v := v) t (by simpa using e)
    exact ⟨d, by simpa using h1, h2⟩
theorem DpAll.take : ∀ {vs : List V} {ds : List PyData} (n : Nat), DpAll K H vs ds → DpAll K H (vs.take n) (ds.take n)
  | _, _, 0, _ => .nil
  | _, _, _ + 1, .nil => .nil
  | _, _, n + 1, .cons a t => .cons a (DpAll.take n t)
theorem DpAll.drop : ∀ {vs : List V} {ds : List PyData} (n : Nat), DpAll K H vs ds → DpAll K H (vs.drop n) (ds.drop n)
  | _, _, 0, h => h
  | _, _, _ + 1, .nil => .nil
  | _, _, n + 1, .cons _ t => DpAll.drop n t
end

/-! ### sums -/
inductive Atm
  | nm (z : Str)
  | num (n : Nat)
  deriving DecidableEq
structure Prd where
  neg : Bool
  fst : Atm
  prs : List (Bool × Atm)
  deriving DecidableEq
abbrev Sm := List Prd
def atmV : Atm → V
  | .nm z => .str z
  | .num n => .int n
def atmD : Atm → PyData
  | .nm z => .str z
  | .num n => .int n
def jS (b : Bool) : Str := if b then "*" else "//"
def prD (p : Bool × Atm) : PyData := .tuple [.str (jS p.1), atmD p.2]
def sgI (b : Bool) : Int := if b then -1 else 1
def prdD (p : Prd) : PyData := .tuple [.int (sgI p.neg), atmD p.fst, .tuple (p.prs.map prD)]
def smD (s : Sm) : PyData := .tuple (s.map prdD)
def atmOk : Atm → Bool
  | .nm z => isNm z
  | .num n => decide (n < 1000)
def prdOk (p : Prd) : Bool := atmOk p.fst && p.prs.all fun q => atmOk q.2
def prdN (p : Prd) : Nat := 1 + p.prs.length
def smN (s : Sm) : Nat := (s.map prdN).sum
structure SmOk (s : Sm) : Prop where
  ne : s ≠ []
  n : smN s ≤ 8
  ok : ∀ p ∈ s, prdOk p = true
theorem atmD_dp {K : PySem.W.Frag} {H : Hp} (a : Atm) : Dp K H (atmV a) (atmD a) := by
  cases a with
  | nm z => exact .str z
  | num n => exact .int n
theorem noLs_map {α : Type} (f : α → PyData) (h : ∀ a, noL (f a) = true) : ∀ xs : List α, noLs (xs.map f) = true
  | [] => rfl
  | x :: xs => by
    show (noL (f x) && noLs (xs.map f)) = true
    rw [h x, noLs_map f h xs]
    rfl
theorem noL_atm (a : Atm) : noL (atmD a) = true := by cases a <;> rfl
theorem noL_pr (p : Bool × Atm) : noL (prD p) = true := by
  simp [prD, noL, noLs, noL_atm]
theorem noL_prd (p : Prd) : noL (prdD p) = true := by
  simp [prdD, noL, noLs, noL_atm, noLs_map prD noL_pr]
theorem noL_sm (s : Sm) : noL (smD s) = true := noLs_map prdD noL_prd s
/-! texts -/
def numT (n : Nat) : Str := toString ((n : Nat) : Int)
def atmT : Atm → Str
  | .nm z => z
  | .num n => numT n
def sgT (b : Bool) : Str := if b then "-" else "+"
inductive Mk2
  | sg (neg : Bool)
  | jn (mul : Bool)
def mkT : Mk2 → Str
  | .sg b => sgT b
  | .jn b => jS b
/-- a product as marks and atoms, a sum so -/
def prdM (p : Prd) : List (Mk2 × Atm) := (.sg p.neg, p.fst) :: p.prs.map fun q => (.jn q.1, q.2)
def smM (s : Sm) : List (Mk2 × Atm) := s.flatMap prdM
def flatM : List (Mk2 × Atm) → List Str
  | [] => []
  | (m, a) :: r => mkT m :: atmT a :: flatM r
def headNeg : Sm → Bool
  | [] => false
  | p :: _ => p.neg
/-- the words of a sum's text -/
def wordsS (s : Sm) : List Str := if headNeg s then flatM (smM s) else (flatM (smM s)).tail
def sumT (s : Sm) : Str := Txt.join " " (wordsS s)
theorem noLs_take : ∀ (ds : List PyData) (k : Nat), noLs ds = true → noLs (ds.take k) = true
  | [], k, _ => by simp [noLs]
  | d :: r, 0, _ => rfl
  | d :: r, k + 1, n => by
    have n' : noL d = true ∧ noLs r = true := by simpa [noLs] using n
    show (noL d && noLs (r.take k)) = true
    rw [n'.1, noLs_take r k n'.2]
    rfl
theorem noLs_get : ∀ (l : List PyData) (j : Nat) (hj : j < l.length), noLs l = true → noL l[j] = true
  | d :: r, 0, _, n => by
    have n' : noL d = true ∧ noLs r = true := by simpa [noLs] using n
    exact n'.1
  | d :: r, j + 1, hj, n => by
    have n' : noL d = true ∧ noLs r = true := by simpa [noLs] using n
    exact noLs_get r j (by simpa using hj) n'.2
/-! ### comprehensions that make data -/
theorem lc_gen {K : PySem.W.Frag} {J : It} {n : Nat} {G : Hp → Prop} {Y : Nat → Hp → V → Hp → Prop} (w : Walk J n G Y) {g : TG} {te : TE} {vs : List Nat} {σ : L2.St} {H1 : Hp} {D : Addr} {Qd : Hp → Prop}
    (ds : List PyData) (hl : ds.length = n) (nl : noLs ds = true) (hz : n < sizeLine) (S : Hp → Hp → Prop) (R : Hp → Prop) (h0 : R (upd H1 D (.lst []))) (hG : ∀ H, R H → G H)
    (hS : ∀ H H4, R H → S H H4 → (∀ o, H D = some o → H4 D = some o) ∧ TK K H H4 ∧ ∀ ys, R (upd H4 D (.lst ys)))
    (hs : ∀ (j : Nat) (x : V) (d : PyData) (H H' : Hp) (C : V → Hp → Prop), j < n → R H → (∃ ys, H D = some (.lst ys)) → Y j H x H' → ds[j]? = some d → (∀ y H4, Dp K H4 y d → S H H4 → C y H4) →
      g x (wipe σ vs) H' fun σ2 H2 => wipe σ2 vs = wipe σ vs ∧ te σ2 H2 C)
    (mono : ∀ (x : V) (H' : Hp) (C C' : L2.St → Hp → Prop), (∀ s h, C s h → C' s h) → g x (wipe σ vs) H' C → g x (wipe σ vs) H' C')
    (hd : ∀ H rs, R H → H D = some (.lst rs) → DpAll K H rs ds → Qd H) :
    ∃ W : Nat → Nat → Hp → Prop, (∃ m, W 0 m (upd H1 D (.lst []))) ∧ ∀ k m H, W k m H →
      (J.stop k H ∧ Qd H) ∨ (J.go k H ∧ ∃ Nx : Hp → Prop, (∀ H', Nx H' → ∃ m', m' < m ∧ W (k + 1) m' H') ∧ ∀ x H', J.yld k H x H' → g x (wipe σ vs) H' fun σ2 H2 => wipe σ2 vs = wipe σ vs ∧ tYes σ2 H2 fun b H3 =>
        if b = true then te σ2 H3 fun y H4 => ∃ acc, H4 D = some (.lst acc) ∧ acc.length < sizeLine ∧ Nx (upd H4 D (.lst (acc ++ [y]))) else Nx H3) := by
  refine lc_it w (fun k H => R H ∧ ∃ rs, H D = some (.lst rs) ∧ DpAll K H rs (ds.take k)) ⟨h0, [], upd_same, .nil⟩ (fun k H _ p => hG H p.1) ?_ (fun H p => by
    obtain ⟨r, rs, e, a⟩ := p
    rw [← hl, List.take_length] at a
    exact hd H rs r e a)
  rintro k x H H' hk ⟨r, rs, e, a⟩ y
  have hd' : ds[k]? = some ds[k] := List.getElem?_eq_getElem (by omega)
  refine mono x H' _ _ ?_ (hs k x _ H H' (fun y H4 => ∃ acc, H4 D = some (.lst acc) ∧ acc.length < sizeLine ∧ (R (upd H4 D (.lst (acc ++ [y]))) ∧ ∃ rs, (upd H4 D (.lst (acc ++ [y]))) D = some (.lst rs) ∧ DpAll K (upd H4 D (.lst (acc ++ [y]))) rs (ds.take (k + 1)))) hk r ⟨rs, e⟩ y hd' fun y H4 dp s => ?_)
  · intro σ2 H2 h
    exact ⟨h.1, tyes h.2⟩
  · obtain ⟨k1, k2, k3⟩ := hS H H4 r s
    have e4 := k1 _ e
    have ll := DpAll.length a
    refine ⟨rs, e4, by rw [ll, List.length_take]; omega, k3 _, rs ++ [y], upd_same, ?_⟩
    rw [List.take_add_one, hd']
    have t4 : TK K H4 (upd H4 D (.lst (rs ++ [y]))) := tk_lst e4
    have nlk := noLs_take ds k nl
    have nld := noLs_get ds k (by omega) nl
    exact DpAll.append (DpAll.tk (TK.trans k2 t4) _ _ nlk a) (.cons (Dp.tk t4 _ _ nld dp) .nil)
theorem gName_mono {i : Nat} (x : V) (σ : L2.St) (H' : Hp) (C C' : L2.St → Hp → Prop) (h : ∀ s h, C s h → C' s h) (q : gName i x σ H' C) : gName i x σ H' C' := h _ _ q
/-- .. nothing else is changed -/
theorem lc_dp {K : PySem.W.Frag} {J : It} {n : Nat} {G : Hp → Prop} {Y : Nat → Hp → V → Hp → Prop} (w : Walk J n G Y) {te : TE} {i : Nat} {σ : L2.St} {H1 : Hp} {D : Addr} {Qd : Hp → Prop}
    (ds : List PyData) (hl : ds.length = n) (nl : noLs ds = true) (hz : n < sizeLine) (nD : H1 D = none) (hG : ∀ H, Same H1 H → G H)
    (hs : ∀ (j : Nat) (x : V) (d : PyData) (H H' : Hp) (C : V → Hp → Prop), j < n → Same H1 H → Y j H x H' → ds[j]? = some d → (∀ y H4, Dp K H4 y d → Same H H4 → C y H4) → te ((wipe σ [i]).set i (some x)) H' C)
    (hd : ∀ H rs, Same H1 H → H D = some (.lst rs) → DpAll K H rs ds → Qd H) :
    ∃ W : Nat → Nat → Hp → Prop, (∃ m, W 0 m (upd H1 D (.lst []))) ∧ ∀ k m H, W k m H →
      (J.stop k H ∧ Qd H) ∨ (J.go k H ∧ ∃ Nx : Hp → Prop, (∀ H', Nx H' → ∃ m', m' < m ∧ W (k + 1) m' H') ∧ ∀ x H', J.yld k H x H' → gName i x (wipe σ [i]) H' fun σ2 H2 => wipe σ2 [i] = wipe σ [i] ∧ tYes σ2 H2 fun b H3 =>
        if b = true then te σ2 H3 fun y H4 => ∃ acc, H4 D = some (.lst acc) ∧ acc.length < sizeLine ∧ Nx (upd H4 D (.lst (acc ++ [y]))) else Nx H3) :=
  lc_gen w ds hl nl hz Same (Same H1) (same_upd nD) hG (fun H H4 r s => ⟨fun o e => s _ _ e, Same.tk s, fun ys => same_put (r.trans s) nD⟩)
    (fun j x d H H' C hj r _ y e k => ⟨wipe1 σ i _, hs j x d H H' C hj r y e k⟩) (fun x H' C C' h q => gName_mono x _ H' C C' h q) hd
/-- a comprehension over a range, its items drawn from the bag: data of a kind -/
theorem lc_bagD {K : PySem.W.Frag} {te : TE} {i n : Nat} {lo : Int} {σ : L2.St} {H1 : Hp} {D b : Addr} {Qd : Hp → Prop} (F : Hp → V → Prop) (hz : n < sizeLine) (nD : H1 D = none) (hB : Bag H1 b)
    (hk : ∀ H H' y, TK K H H' → F H y → F H' y)
    (hs : ∀ (k : Nat) (H : Hp) (Q : VK), k < n → Kp b H1 H → (∀ y H', F H' y → Kp b H H' → Q y H') → te ((wipe σ [i]).set i (some (.int (lo + k)))) H Q)
    (hd : ∀ H ys, Kp b H1 H → H D = some (.lst ys) → ys.length = n → (∀ y ∈ ys, F H y) → Qd H) :
    ∃ W : Nat → Nat → Hp → Prop, (∃ m, W 0 m (upd H1 D (.lst []))) ∧ ∀ k m H, W k m H →
      ((Itr lo n).stop k H ∧ Qd H) ∨ ((Itr lo n).go k H ∧ ∃ Nx : Hp → Prop, (∀ H', Nx H' → ∃ m', m' < m ∧ W (k + 1) m' H') ∧ ∀ x H', (Itr lo n).yld k H x H' → gName i x (wipe σ [i]) H' fun σ2 H2 => wipe σ2 [i] = wipe σ [i] ∧ tYes σ2 H2 fun b H3 =>
        if b = true then te σ2 H3 fun y H4 => ∃ acc, H4 D = some (.lst acc) ∧ acc.length < sizeLine ∧ Nx (upd H4 D (.lst (acc ++ [y]))) else Nx H3) := by
  have nb : D ≠ b := hB.ne nD
  refine lc_range (fun k H => Kp b H1 H ∧ ∃ ys, H D = some (.lst ys) ∧ ys.length = k ∧ ∀ y ∈ ys, F H y) ⟨(Kp.refl hB).upd nD nb, [], upd_same, rfl, fun y h => by cases h⟩ ?_ (fun H p => by
    obtain ⟨k, ys, e, l, f⟩ := p
    exact hd H ys k e l f)
  rintro k H hkn ⟨kp, ys, e, l, f⟩
  refine ⟨wipe1 σ i _, tyes ?_⟩
  refine hs k H _ hkn kp fun y H' fy kp' => ?_
  have e' : H' D = some (.lst ys) := kp'.keep D _ nb e
  have t' : TK K H' (upd H' D (.lst (ys ++ [y]))) := tk_lst e'
  refine ⟨ys, e', by omega, (kp.trans kp').upd nD nb, ys ++ [y], upd_same, by rw [List.length_append, l]; rfl, fun x hx => ?_⟩
  rcases List.mem_append.mp hx with hx | hx
  · exact hk _ _ _ (TK.trans (Kp.tk kp' kp.bag) t') (f x hx)
  · obtain rfl : x = y := by simpa using hx
    exact hk _ _ _ t' fy
theorem ixK_kd {X : Cx} {K : PySem.W.Frag} {w : World} (h : X.K = K) (h' : X.w = w) : IxR X (rIxD K w) := h ▸ h' ▸ ix_kdict
theorem pgK_tup {X : Cx} {K : PySem.W.Frag} {es : List Expr} {k : Nat} {t : TGs} {n : Nat} {pos : Pos} (h : X.K = K) (hc : X.calm = true) (hh : PGs X es t)
    (hn : (assignEach es X.env).length = n := by rfl) (hst : (assignEach es X.env).findIdx? (·.1) = none := by rfl) : PG X (.Tuple es k pos) (gTup K n t) := h ▸ pg_tup hc hh hn hst
end Fc

set_option Elab.async false
set_option linter.all false
set_option maxRecDepth 100000
set_option maxHeartbeats 4000000
/-! Fc2: the words of a sum's text. -/
namespace Fc
open PySem PySem.Spec PyProof.Rows L2 TL

def digS : Str := "0123456789"
def isDig (c : Nat) : Bool := decide (c ∈ digS.cps.toList)
def isNW (z : Str) : Bool := (decide ((1 : Int) ≤ z.length) && decide ((z.length : Int) ≤ 3)) && z.cps.toList.all isDig && (decide (V.str z = V.str "0") || !decide (V.str ⟨#[z.cps.toList.headD 0]⟩ = V.str "0"))
theorem num_facts : ∀ n, n < 1000 → isNm (numT n) = false ∧ isNW (numT n) = true ∧ PySem.intText? (numT n) = some ((n : Nat) : Int) ∧ (numT n).length ≤ 3 ∧ 32 ∉ tl (numT n) ∧ tl (numT n) ≠ [45] := by decide +kernel
theorem let_facts : ∀ c ∈ letS.cps.toList, 97 ≤ c ∧ c ≤ 122 := by decide +kernel
theorem isLet_lt {c : Nat} (h : isLet c = true) : 97 ≤ c ∧ c ≤ 122 := let_facts c (of_decide_eq_true h)
theorem isNm_and {z : Str} (h : isNm z = true) : 1 ≤ z.length ∧ z.length ≤ 4 ∧ inV (.str z) words3 = false ∧ ∀ c ∈ tl z, isLet c = true := by
  have h' : ((decide ((1 : Int) ≤ z.length) && decide ((z.length : Int) ≤ 4)) && (!inV (.str z) words3 && z.cps.toList.all isLet)) = true := h
  simp only [Bool.and_eq_true, decide_eq_true_eq, Bool.not_eq_true', List.all_eq_true] at h'
  obtain ⟨⟨h1, h2⟩, h3, h4⟩ := h'
  exact ⟨by omega, by omega, h3, h4⟩
theorem nm_free {z : Str} {c : Nat} (h : isNm z = true) (hc : c < 97 ∨ 122 < c) : c ∉ tl z := fun m => by
  have := isLet_lt ((isNm_and h).2.2.2 c m)
  omega
theorem atm_len {a : Atm} (h : atmOk a = true) : (atmT a).length ≤ 4 := by
  cases a with
  | nm z => exact (isNm_and h).2.1
  | num n => exact Nat.le_trans (num_facts n (of_decide_eq_true h)).2.2.2.1 (by decide)
theorem atm_free {a : Atm} (h : atmOk a = true) : 32 ∉ tl (atmT a) := by
  cases a with
  | nm z => exact nm_free h (.inl (by decide))
  | num n => exact (num_facts n (of_decide_eq_true h)).2.2.2.2.1
theorem atm_no45 {a : Atm} (h : atmOk a = true) : tl (atmT a) ≠ [45] := by
  cases a with
  | nm z => exact fun e => nm_free h (c := 45) (.inl (by decide)) (by show 45 ∈ tl z; rw [show tl z = [45] from e]; exact List.mem_singleton.mpr rfl)
  | num n => exact (num_facts n (of_decide_eq_true h)).2.2.2.2.2
theorem mk_free (m : Mk2) : 32 ∉ tl (mkT m) := by
  cases m with
  | sg b => cases b <;> decide +kernel
  | jn b => cases b <;> decide +kernel
theorem mk_len (m : Mk2) : (mkT m).length ≤ 4 := by
  cases m with
  | sg b => cases b <;> decide +kernel
  | jn b => cases b <;> decide +kernel
def okM (ms : List (Mk2 × Atm)) : Prop := ∀ q ∈ ms, atmOk q.2 = true
theorem okM_of {s : Sm} (h : ∀ p ∈ s, prdOk p = true) : okM (smM s) := by
  intro q hq
  obtain ⟨p, hp, hq⟩ := List.mem_flatMap.mp hq
  have h' := h p hp
  unfold prdOk at h'
  simp only [Bool.and_eq_true, List.all_eq_true] at h'
  rcases List.mem_cons.mp hq with rfl | hq
  · exact h'.1
  · obtain ⟨x, hx, rfl⟩ := List.mem_map.mp hq
    exact h'.2 x hx
theorem flatM_mem : ∀ {ms : List (Mk2 × Atm)} {w : Str}, w ∈ flatM ms → ∃ q ∈ ms, w = mkT q.1 ∨ w = atmT q.2
  | [], _, h => by cases h
  | (m, a) :: r, w, h => by
    rcases List.mem_cons.mp h with rfl | h
    · exact ⟨_, List.mem_cons_self, .inl rfl⟩
    · rcases List.mem_cons.mp h with rfl | h
      · exact ⟨_, List.mem_cons_self, .inr rfl⟩
      · obtain ⟨q, hq, e⟩ := flatM_mem h
        exact ⟨q, List.mem_cons_of_mem _ hq, e⟩
theorem flatM_length : ∀ ms : List (Mk2 × Atm), (flatM ms).length = 2 * ms.length
  | [] => rfl
  | (m, a) :: r => by
    show (flatM r).length + 1 + 1 = 2 * (r.length + 1)
    rw [flatM_length r]
    omega
theorem flatM_at : ∀ (ms : List (Mk2 × Atm)) (k : Nat) (q : Mk2 × Atm), ms[k]? = some q → (flatM ms)[2 * k]? = some (mkT q.1) ∧ (flatM ms)[2 * k + 1]? = some (atmT q.2)
  | [], _, _, h => by simp at h
  | (m, a) :: r, 0, q, h => by
    have e : (m, a) = q := Option.some.inj h
    subst e
    exact ⟨rfl, rfl⟩
  | (m, a) :: r, k + 1, q, h => by
    have h' := flatM_at r k q h
    exact h'
theorem smM_length : ∀ s : Sm, (smM s).length = smN s
  | [] => rfl
  | p :: r => by
    show (prdM p ++ smM r).length = prdN p + smN r
    rw [List.length_append, smM_length r]
    show (p.prs.map _).length + 1 + _ = 1 + p.prs.length + _
    rw [List.length_map]
    omega
theorem flatM_free {ms : List (Mk2 × Atm)} (h : okM ms) : ∀ w ∈ flatM ms, 32 ∉ tl w ∧ w.length ≤ 4 := by
  intro w hw
  obtain ⟨q, hq, e⟩ := flatM_mem hw
  rcases e with rfl | rfl
  · exact ⟨mk_free _, mk_len _⟩
  · exact ⟨atm_free (h q hq), atm_len (h q hq)⟩
theorem wordsS_sub (s : Sm) : ∀ w ∈ wordsS s, w ∈ flatM (smM s) := by
  intro w hw
  unfold wordsS at hw
  split at hw
  · exact hw
  · exact List.mem_of_mem_tail hw
theorem wordsS_free {s : Sm} (h : SmOk s) : ∀ w ∈ wordsS s, 32 ∉ tl w ∧ w.length ≤ 4 := fun w hw => flatM_free (okM_of h.ok) w (wordsS_sub s w hw)
theorem wordsS_ne {s : Sm} (h : SmOk s) : wordsS s ≠ [] := by
  cases s with
  | nil => exact absurd rfl h.ne
  | cons p r =>
    unfold wordsS
    show (if p.neg = true then _ else _) ≠ []
    split
    · exact fun e => by cases e
    · exact fun e => by cases e
theorem split_sumT {s : Sm} (h : SmOk s) : Txt.split (sumT s) " " = wordsS s :=
  split_join (s := 32) (S := []) (by decide +kernel) (by decide +kernel) (wordsS_ne h) fun p hp => (wordsS_free h p hp).1
theorem len_joinL (S : List Nat) : ∀ parts : List (List Nat), (joinL S parts).length ≤ (parts.map fun p => p.length + S.length).sum
  | [] => Nat.zero_le _
  | [p] => by
    show p.length ≤ p.length + S.length + 0
    omega
  | p :: q :: r => by
    show (p ++ (S ++ joinL S (q :: r))).length ≤ (p.length + S.length) + ((q :: r).map fun p => p.length + S.length).sum
    have h := len_joinL S (q :: r)
    rw [List.length_append, List.length_append]
    omega
theorem sum_le {l : List Nat} {c : Nat} (h : ∀ x ∈ l, x ≤ c) : l.sum ≤ l.length * c := by
  induction l with
  | nil => exact Nat.zero_le _
  | cons x r ih =>
    have h1 := h x List.mem_cons_self
    have h2 := ih fun y hy => h y (List.mem_cons_of_mem _ hy)
    rw [List.sum_cons, List.length_cons, Nat.succ_mul]
    omega
theorem sumT_len {s : Sm} (h : SmOk s) : (sumT s).length ≤ 80 := by
  unfold sumT
  rw [len_tl, join_eq, tl_join]
  refine Nat.le_trans (len_joinL _ _) ?_
  rw [List.map_map]
  have e1 : (wordsS s).length ≤ 16 := by
    have h1 := flatM_length (smM s)
    rw [smM_length] at h1
    have h2 := h.n
    unfold wordsS
    split
    · omega
    · rw [List.length_tail]
      omega
  refine Nat.le_trans (sum_le (c := 5) fun x hx => ?_) ?_
  · obtain ⟨w, hw, rfl⟩ := List.mem_map.mp hx
    have := (wordsS_free h w hw).2
    rw [len_tl] at this
    show (tl w).length + (tl (Str.ofString " ")).length ≤ 5
    have e : (tl (Str.ofString " ")).length = 1 := by decide +kernel
    omega
  · rw [List.length_map]
    omega
/-! ### the products that marks and atoms make -/
def stepP (acc : Sm) (q : Mk2 × Atm) : Sm :=
  match q.1 with
  | .sg b => acc ++ [⟨b, q.2, []⟩]
  | .jn b => match acc.reverse with
    | [] => []
    | p :: r => r.reverse ++ [⟨p.neg, p.fst, p.prs ++ [(b, q.2)]⟩]
theorem stepP_jn (acc : Sm) (p : Prd) (b : Bool) (a : Atm) : stepP (acc ++ [p]) (.jn b, a) = acc ++ [⟨p.neg, p.fst, p.prs ++ [(b, a)]⟩] := by
  unfold stepP
  simp
theorem fold_jn : ∀ (l : List (Bool × Atm)) (acc : Sm) (p : Prd), (l.map fun q => (Mk2.jn q.1, q.2)).foldl stepP (acc ++ [p]) = acc ++ [⟨p.neg, p.fst, p.prs ++ l⟩]
  | [], acc, p => by rw [List.append_nil]; rfl
  | (b, a) :: r, acc, p => by
    show (r.map fun q => (Mk2.jn q.1, q.2)).foldl stepP (stepP (acc ++ [p]) (.jn b, a)) = _
    rw [stepP_jn, fold_jn r acc]
    rw [List.append_assoc]
    rfl
theorem fold_prd (p : Prd) (acc : Sm) : (prdM p).foldl stepP acc = acc ++ [p] := by
  show (p.prs.map fun q => (Mk2.jn q.1, q.2)).foldl stepP (acc ++ [⟨p.neg, p.fst, []⟩]) = _
  rw [fold_jn]
  rfl
theorem fold_sm : ∀ (s acc : Sm), (smM s).foldl stepP acc = acc ++ s
  | [], acc => by rw [List.append_nil]; rfl
  | p :: r, acc => by
    show (prdM p ++ smM r).foldl stepP acc = _
    rw [List.foldl_append, fold_prd, fold_sm r, List.append_assoc]
    rfl
end Fc

set_option Elab.async false
set_option linter.all false
set_option maxRecDepth 100000
set_option maxHeartbeats 4000000
/-! Fc3: rows as plain data, their tuples and their texts. -/
namespace Fc
open PySem PySem.Spec PyProof.Rows L2 TL

theorem subAt0 (x y : Str) : Builtin.Str.subAt x y 0 = pre (tl y) (tl x) := by
  unfold Builtin.Str.subAt pre
  have e : x.cps.extract 0 (0 + y.length) = ((tl x).take (tl y).length).toArray := by
    apply Array.toList_inj.mp
    rw [Array.toList_extract, Nat.zero_add]
    show List.extract (tl x) 0 y.length = (tl x).take (tl y).length
    rw [List.extract_eq_drop_take, len_tl]
    simp
  rw [e]
  rw [Bool.eq_iff_iff, beq_iff_eq, beq_iff_eq]
  constructor
  · intro h
    have := congrArg Array.toList h
    simpa using this
  · intro h
    apply Array.toList_inj.mp
    simpa using h
theorem sw_pre (x y : Str) : Txt.startswith x y = pre (tl y) (tl x) := by
  unfold Txt.startswith
  rw [subAt0]
  cases h : pre (tl y) (tl x) with
  | false => rw [Bool.and_false]
  | true =>
    rw [Bool.and_true]
    have h' : (tl x).take (tl y).length = tl y := by
      unfold pre at h
      exact beq_iff_eq.mp h
    have h2 := congrArg List.length h'
    rw [List.length_take] at h2
    rw [len_tl x, len_tl y]
    exact decide_eq_true (by omega)
theorem pre_cons (s c : Nat) (S r : List Nat) : pre (s :: S) (c :: r) = (c == s && pre S r) := rfl
theorem pre_word : ∀ (A B r : List Nat), 32 ∉ A → 32 ∉ B → pre (A ++ [32]) (B ++ 32 :: r) = decide (A = B)
  | [], [], r, _, _ => by
    show pre [32] (32 :: r) = _
    rw [pre_cons]
    rfl
  | [], b :: B, r, _, hb => by
    show pre [32] (b :: (B ++ 32 :: r)) = _
    rw [pre_cons]
    have : b ≠ 32 := fun e => hb (by rw [e]; exact List.mem_cons_self)
    rw [beq_false_of_ne this]
    rfl
  | a :: A, [], r, ha, _ => by
    show pre (a :: (A ++ [32])) (32 :: r) = _
    rw [pre_cons]
    have : 32 ≠ a := fun e => ha (by rw [e]; exact List.mem_cons_self)
    rw [beq_false_of_ne this]
    rfl
  | a :: A, b :: B, r, ha, hb => by
    show pre (a :: (A ++ [32])) (b :: (B ++ 32 :: r)) = _
    rw [pre_cons, pre_word A B r (fun h => ha (List.mem_cons_of_mem _ h)) (fun h => hb (List.mem_cons_of_mem _ h))]
    rw [Bool.eq_iff_iff]
    simp only [Bool.and_eq_true, beq_iff_eq, decide_eq_true_eq, List.cons.injEq]
    constructor
    · rintro ⟨h1, h2⟩
      exact ⟨h1.symm, h2⟩
    · rintro ⟨h1, h2⟩
      exact ⟨h1.symm, h2⟩
theorem removeprefix_app (y z : Str) (h : 0 < y.length) : Txt.removeprefix (y ++ z) y = z := by
  unfold Txt.removeprefix
  rw [subAt0, tl_append, pre_self, if_pos rfl]
  have hl : (y ++ z).length = y.length + z.length := by rw [len_tl, len_tl y, len_tl z, tl_append, List.length_append]
  unfold Txt.affix
  show (if ((y ++ z).length - y.length == (y ++ z).length) = true then _ else _) = z
  rw [if_neg (by rw [beq_iff_eq]; omega)]
  apply ext_tl
  show (Array.extract _ _ _).toList = tl z
  rw [Array.toList_extract]
  show List.extract (tl (y ++ z)) y.length (y ++ z).length = tl z
  rw [List.extract_eq_drop_take, tl_append, hl, len_tl y, List.drop_left, len_tl z, Nat.add_sub_cancel_left, List.take_length]

/-! ### rows -/
inductive Row0
  | set (n : Str) (s : Sm)
  | drop (n : Str)
  | shw (s : Sm)
  deriving DecidableEq
inductive Row
  | pl (r : Row0)
  | cond (t : Sm) (r : Row0)
  deriving DecidableEq
def row0D : Row0 → PyData
  | .set n s => .tuple [.str "set", .str n, smD s]
  | .drop n => .tuple [.str "drop", .str n]
  | .shw s => .tuple [.str "show", smD s]
def rowD : Row → PyData
  | .pl r => row0D r
  | .cond t r => .tuple [.str "if", smD t, row0D r]
def rowsD (rs : List Row) : PyData := .tuple (rs.map rowD)
theorem noL_row0 (r : Row0) : noL (row0D r) = true := by
  cases r <;> simp [row0D, noL, noLs, noL_sm]
theorem noL_row (r : Row) : noL (rowD r) = true := by
  cases r <;> simp [rowD, noL, noLs, noL_sm, noL_row0]
theorem noL_rows (rs : List Row) : noL (rowsD rs) = true := noLs_map rowD noL_row rs
def Row0Ok : Row0 → Prop
  | .set n s => isNm n = true ∧ SmOk s
  | .drop n => isNm n = true
  | .shw s => SmOk s
def RowOk : Row → Prop
  | .pl r => Row0Ok r
  | .cond t r => SmOk t ∧ Row0Ok r
def row0T : Row0 → Str
  | .set n s => n ++ " = " ++ sumT s
  | .drop n => "drop " ++ n
  | .shw s => "show " ++ sumT s
def rowT : Row → Str
  | .pl r => row0T r
  | .cond t r => "if " ++ sumT t ++ ": " ++ row0T r
def rowsT (rs : List Row) : Str := Txt.join "\n" (rs.map rowT)
/-! what a row's text begins with, and where it is cut -/
theorem words_signs {s : Sm} (h : SmOk s) {c : Nat} (hc : c = 58 ∨ c = 10 ∨ c = 61) : c ∉ tl (sumT s) := by
  unfold sumT
  rw [join_eq, tl_join]
  have one : ∀ w ∈ wordsS s, c ∉ tl w := by
    intro w hw
    obtain ⟨q, hq, e⟩ := flatM_mem (wordsS_sub s w hw)
    have ok := okM_of h.ok q hq
    rcases e with rfl | rfl
    · cases q.1 with
      | sg b => cases b <;> rcases hc with rfl | rfl | rfl <;> decide +kernel
      | jn b => cases b <;> rcases hc with rfl | rfl | rfl <;> decide +kernel
    · cases hq2 : q.2 with
      | nm z =>
        rw [hq2] at ok
        exact nm_free ok (by omega)
      | num n =>
        show c ∉ tl (Str.ofString (toString ((n : Nat) : Int)))
        rw [tl_num]
        exact numL_free (by omega)
  have : ∀ parts : List (List Nat), (∀ p ∈ parts, c ∉ p) → c ∉ joinL (tl (Str.ofString " ")) parts := by
    intro parts
    induction parts with
    | nil => intro _ hm; cases hm
    | cons p r ih =>
      intro hp hm
      cases r with
      | nil => exact hp p List.mem_cons_self hm
      | cons q r =>
        have hm' : c ∈ p ++ (tl (Str.ofString " ") ++ joinL (tl (Str.ofString " ")) (q :: r)) := hm
        rcases List.mem_append.mp hm' with hm | hm
        · exact hp p List.mem_cons_self hm
        · rcases List.mem_append.mp hm with hm | hm
          · have : c = 32 := by
              have e : tl (Str.ofString " ") = [32] := by decide +kernel
              rw [e] at hm
              exact List.mem_singleton.mp hm
            omega
          · exact ih (fun x hx => hp x (List.mem_cons_of_mem _ hx)) hm
  exact this _ fun p hp => by
    obtain ⟨w, hw, rfl⟩ := List.mem_map.mp hp
    exact one w hw
theorem eq_of_tl {x y : Str} : tl x = tl y ↔ x = y := ⟨ext_tl, fun h => by rw [h]⟩
/-- a text that is a word, a blank and the rest, begins with another word and a blank just where they are the same -/
theorem sw_word (x y r : Str) (a : List Nat) (hx : 32 ∉ tl x) (hy : 32 ∉ tl y) (e : tl r = 32 :: a) : Txt.startswith (x ++ r) (y ++ " ") = decide (y = x) := by
  rw [sw_pre, tl_append, tl_append, e, show tl (Str.ofString " ") = [32] by decide +kernel, pre_word _ _ _ hy hx]
  rw [Bool.eq_iff_iff, decide_eq_true_eq, decide_eq_true_eq]
  exact eq_of_tl
theorem nm_no {z w : Str} (h : isNm z = true) (hw : inV (.str w) words3 = true) : ¬ w = z := fun e => by
  have := (isNm_and h).2.2.1
  rw [← e, hw] at this
  cases this
theorem tlS (s : String) : tl (Str.ofString s) = s.toList.map Char.toNat := tl_ofString s
def isDrop : Row0 → Bool
  | .drop _ => true
  | _ => false
def isShw : Row0 → Bool
  | .shw _ => true
  | _ => false
/-- the first word of a row's text, as told by startswith -/
theorem sw_row0 (r : Row0) (h : Row0Ok r) :
    Txt.startswith (row0T r) "drop " = isDrop r ∧ Txt.startswith (row0T r) "show " = isShw r ∧ Txt.startswith (row0T r) "if " = false := by
  have ed : (Str.ofString "drop " : Str) = Str.ofString "drop" ++ Str.ofString " " := by decide +kernel
  have es : (Str.ofString "show " : Str) = Str.ofString "show" ++ Str.ofString " " := by decide +kernel
  have ei : (Str.ofString "if " : Str) = Str.ofString "if" ++ Str.ofString " " := by decide +kernel
  have fd : 32 ∉ tl (Str.ofString "drop") := by decide +kernel
  have fs : 32 ∉ tl (Str.ofString "show") := by decide +kernel
  have fi : 32 ∉ tl (Str.ofString "if") := by decide +kernel
  have t1 : tl (Str.ofString " ") = [32] := by decide +kernel
  have asc : ∀ a b c : Str, a ++ b ++ c = a ++ (b ++ c) := fun a b c => ext_tl (by rw [tl_append, tl_append, tl_append, tl_append, List.append_assoc])
  cases r with
  | set n s =>
    have hn : isNm n = true := h.1
    have e : row0T (.set n s) = n ++ (Str.ofString " = " ++ sumT s) := asc _ _ _
    have er : tl (Str.ofString " = " ++ sumT s) = 32 :: ([61, 32] ++ tl (sumT s)) := by rw [tl_append, show tl (Str.ofString " = ") = [32, 61, 32] by decide +kernel]; rfl
    have f := nm_free hn (c := 32) (.inl (by decide))
    rw [e, ed, es, ei, sw_word _ _ _ _ f fd er, sw_word _ _ _ _ f fs er, sw_word _ _ _ _ f fi er]
    exact ⟨decide_eq_false (nm_no hn (by decide +kernel)), decide_eq_false (nm_no hn (by decide +kernel)), decide_eq_false (nm_no hn (by decide +kernel))⟩
  | drop n =>
    have e : row0T (.drop n) = Str.ofString "drop" ++ (Str.ofString " " ++ n) := by show Str.ofString "drop " ++ n = _; rw [ed, asc]
    have er : tl (Str.ofString " " ++ n) = 32 :: tl n := by rw [tl_append, t1]; rfl
    rw [e, ed, es, ei, sw_word _ _ _ _ fd fd er, sw_word _ _ _ _ fd fs er, sw_word _ _ _ _ fd fi er]
    exact ⟨decide_eq_true rfl, decide_eq_false (by decide +kernel), decide_eq_false (by decide +kernel)⟩
  | shw s =>
    have e : row0T (.shw s) = Str.ofString "show" ++ (Str.ofString " " ++ sumT s) := by show Str.ofString "show " ++ sumT s = _; rw [es, asc]
    have er : tl (Str.ofString " " ++ sumT s) = 32 :: tl (sumT s) := by rw [tl_append, t1]; rfl
    rw [e, ed, es, ei, sw_word _ _ _ _ fs fd er, sw_word _ _ _ _ fs fs er, sw_word _ _ _ _ fs fi er]
    exact ⟨decide_eq_false (by decide +kernel), decide_eq_true rfl, decide_eq_false (by decide +kernel)⟩
theorem len_app (x y : Str) : (x ++ y).length = x.length + y.length := by rw [len_tl, len_tl x, len_tl y, tl_append, List.length_append]
theorem row0T_len {r : Row0} (h : Row0Ok r) : (row0T r).length ≤ 100 := by
  cases r with
  | set n s =>
    have h1 := (isNm_and h.1).2.1
    have h2 := sumT_len h.2
    show (n ++ Str.ofString " = " ++ sumT s).length ≤ 100
    rw [len_app, len_app, show (Str.ofString " = ").length = 3 by decide +kernel]
    omega
  | drop n =>
    have h1 := (isNm_and h).2.1
    show (Str.ofString "drop " ++ n).length ≤ 100
    rw [len_app, show (Str.ofString "drop ").length = 5 by decide +kernel]
    omega
  | shw s =>
    have h2 := sumT_len h
    show (Str.ofString "show " ++ sumT s).length ≤ 100
    rw [len_app, show (Str.ofString "show ").length = 5 by decide +kernel]
    omega
theorem rowT_len {r : Row} (h : RowOk r) : (rowT r).length ≤ 200 := by
  cases r with
  | pl r => exact Nat.le_trans (row0T_len h) (by decide)
  | cond t r =>
    have h1 := sumT_len h.1
    have h2 := row0T_len h.2
    show (Str.ofString "if " ++ sumT t ++ Str.ofString ": " ++ row0T r).length ≤ 200
    rw [len_app, len_app, len_app, show (Str.ofString "if ").length = 3 by decide +kernel, show (Str.ofString ": ").length = 2 by decide +kernel]
    omega
theorem row0T_nl {r : Row0} (h : Row0Ok r) : 10 ∉ tl (row0T r) := by
  cases r with
  | set n s =>
    show 10 ∉ tl (n ++ Str.ofString " = " ++ sumT s)
    rw [tl_append, tl_append, List.mem_append, List.mem_append]
    rintro ((h1 | h1) | h1)
    · exact nm_free h.1 (.inl (by decide)) h1
    · revert h1; decide +kernel
    · exact words_signs h.2 (.inr (.inl rfl)) h1
  | drop n =>
    show 10 ∉ tl (Str.ofString "drop " ++ n)
    rw [tl_append, List.mem_append]
    rintro (h1 | h1)
    · revert h1; decide +kernel
    · exact nm_free h (.inl (by decide)) h1
  | shw s =>
    show 10 ∉ tl (Str.ofString "show " ++ sumT s)
    rw [tl_append, List.mem_append]
    rintro (h1 | h1)
    · revert h1; decide +kernel
    · exact words_signs h (.inr (.inl rfl)) h1
theorem rowT_nl {r : Row} (h : RowOk r) : 10 ∉ tl (rowT r) := by
  cases r with
  | pl r => exact row0T_nl h
  | cond t r =>
    show 10 ∉ tl (Str.ofString "if " ++ sumT t ++ Str.ofString ": " ++ row0T r)
    rw [tl_append, tl_append, tl_append, List.mem_append, List.mem_append, List.mem_append]
    rintro (((h1 | h1) | h1) | h1)
    · revert h1; decide +kernel
    · exact words_signs h.1 (.inr (.inl rfl)) h1
    · revert h1; decide +kernel
    · exact row0T_nl h.2 h1
structure RowsOk (rs : List Row) : Prop where
  ne : rs ≠ []
  n : rs.length ≤ 6
  ok : ∀ r ∈ rs, RowOk r
theorem split_rowsT {rs : List Row} (h : RowsOk rs) : Txt.split (rowsT rs) "\n" = rs.map rowT :=
  split_join (s := 10) (S := []) (by decide +kernel) (by decide +kernel) (fun e => h.ne (List.map_eq_nil_iff.mp e)) fun p hp => by
    obtain ⟨r, hr, rfl⟩ := List.mem_map.mp hp
    exact rowT_nl (h.ok r hr)
theorem rowsT_len {rs : List Row} (h : RowsOk rs) : (rowsT rs).length ≤ 2000 := by
  unfold rowsT
  rw [len_tl, join_eq, tl_join]
  refine Nat.le_trans (len_joinL _ _) ?_
  rw [List.map_map]
  refine Nat.le_trans (sum_le (c := 201) fun x hx => ?_) ?_
  · obtain ⟨w, hw, rfl⟩ := List.mem_map.mp hx
    obtain ⟨r, hr, rfl⟩ := List.mem_map.mp hw
    have := rowT_len (h.ok r hr)
    rw [len_tl] at this
    show (tl (rowT r)).length + (tl (Str.ofString "\n")).length ≤ 201
    have e : (tl (Str.ofString "\n")).length = 1 := by decide +kernel
    omega
  · rw [List.length_map, List.length_map]
    have := h.n
    omega
end Fc

set_option Elab.async false
set_option linter.all false
set_option maxRecDepth 100000
set_option maxHeartbeats 4000000
/-! Fc4: classes by their names; rooms, values, runs as plain data. -/
namespace Fc
open PySem PySem.Spec PyProof.Rows L2 TL

/-! ### classes -/
theorem PE.imp {X : Cx} {e : Expr} {t t' : TE} (p : PE X e t) (h : ∀ σ H Q, t' σ H Q → t σ H Q) : PE X e t' :=
  ⟨fun pins s σ H Q I q => p.run pins s σ H Q I (h σ H Q q)⟩
structure SrcM (K : PySem.W.Frag) (mg : Str → Option Value) (cls m qual : Str) (st : Stmt) (ps : List Str) : Prop where
  ex : ∃ C f fd, mg cls = some (.ref C) ∧ Cls K C ∧ Meth K C m f ∧ Fun K m qual st f fd ∧ Binds K fd ps []
structure SrcI (K : PySem.W.Frag) (mg : Str → Option Value) (cls qual : Str) (st : Stmt) (ps : List Str) : Prop where
  ex : ∃ C f fd, mg cls = some (.ref C) ∧ Mk K C f ∧ Fun K "__init__" qual st f fd ∧ Binds K fd ps []
structure DnM (P : Program) (w : World) (K : PySem.W.Frag) (mg : Str → Option Value) (base : Heap) (cls m : Str) (k : Nat) (ps : List Str) (sp : Sp) : Prop where
  ex : ∃ C f fd, mg cls = some (.ref C) ∧ Cls K C ∧ Meth K C m f ∧ Binds K fd ps [] ∧ FnOk P w K mg base CX0 k f fd ps sp
/-- C(..): the promise of the making, without the instance -/
structure DnC (P : Program) (w : World) (K : PySem.W.Frag) (mg : Str → Option Value) (base : Heap) (cls : Str) (k : Nat) (sp : Sp) : Prop where
  ex : ∃ C f fd ps spI, mg cls = some (.ref C) ∧ Mk K C f ∧ Binds K fd ps [] ∧ FnOk P w K mg base CX0 k f fd ps spI ∧
    ∀ vs H Q E, sp vs H Q E → ∀ x dx, H x = none → H dx = none → dx ≠ x → spI (.ref x :: vs) (upd (upd H dx (.own x)) x (.ins C dx [])) (fun v H2 => v = .non ∧ Q (.ref x) H2) E
section
variable {P : Program} {w : World} {K : PySem.W.Frag} {mg : Str → Option Value} {base : Heap} {cls m qual : Str} {st : Stmt} {N ps : List Str} {k : Nat} {sp sp' : Sp}
theorem SrcM.ok (S : SrcM K mg cls m qual st ps) (sc : FnScope N ps (defScope st)) (len : ∀ vs H Q E, sp vs H Q E → vs.length = ps.length)
    (hbody : ∀ (f : Addr) (cdv : Value) (A : Around) (outer : List Env) (s : Shared) (H : Hp) (vs : List V) (Q : VK) (E : XK), Room k (A.deeper (envOfC qual (defScope st) s.heap.objs.size f cdv)) → sp vs H Q E →
      ∃ t, PSs (cxOf CX0 P w K mg base N qual (defScope st) f cdv A outer s H E).nox (defBody st) t ∧ t { nx := fun _ H' => Q .non H', rt := Q } (start N vs) H) : DnM P w K mg base cls m (k + 1) ps sp := by
  obtain ⟨C, f, fd, hm, c, mt, F, b⟩ := S.ex
  exact ⟨C, f, fd, hm, c, mt, b, F.ok sc len (hbody f)⟩
theorem SrcI.ok (S : SrcI K mg cls qual st ps) (sc : FnScope N ps (defScope st)) (spI : Addr → Sp) (len : ∀ C vs H Q E, spI C vs H Q E → vs.length = ps.length)
    (hbody : ∀ (C f : Addr) (cdv : Value) (A : Around) (outer : List Env) (s : Shared) (H : Hp) (vs : List V) (Q : VK) (E : XK), mg cls = some (.ref C) → Room k (A.deeper (envOfC qual (defScope st) s.heap.objs.size f cdv)) → spI C vs H Q E →
      ∃ t, PSs (cxOf CX0 P w K mg base N qual (defScope st) f cdv A outer s H E).nox (defBody st) t ∧ t { nx := fun _ H' => Q .non H', rt := Q } (start N vs) H)
    (imp : ∀ C, mg cls = some (.ref C) → ∀ vs H Q E, sp vs H Q E → ∀ x dx, H x = none → H dx = none → dx ≠ x → spI C (.ref x :: vs) (upd (upd H dx (.own x)) x (.ins C dx [])) (fun v H2 => v = .non ∧ Q (.ref x) H2) E) :
    DnC P w K mg base cls (k + 1) sp := by
  obtain ⟨C, f, fd, hm, M, F, b⟩ := S.ex
  exact ⟨C, f, fd, ps, spI C, hm, M, b, F.ok sc (len C) (fun cdv A outer s H vs Q E hr h => hbody C f cdv A outer s H vs Q E hm hr h), imp C hm⟩
end
theorem pe_fldK {X : Cx} {K : PySem.W.Frag} {e : Expr} {f : Str} {ta : TE} {pos : Pos} (h : X.K = K) (he : PE X e ta) (hb : attributeBase e f X.env (eval e X.env) = eval e X.env) : PE X (.Attribute e f pos) (tFld K ta f) := h ▸ pe_fld he hb
theorem make_q {spI : Sp} {vs : List V} {H : Hp} {C' : Addr → Hp → Prop} {E : XK} {x : Addr} (h : spI vs H (fun v H2 => v = .non ∧ ∃ y, V.ref x = .ref y ∧ C' y H2) E) : spI vs H (fun v H2 => v = .non ∧ C' x H2) E := by
  have e : (fun (v : V) (H2 : Hp) => v = .non ∧ ∃ y, V.ref x = .ref y ∧ C' y H2) = fun v H2 => v = .non ∧ C' x H2 := by
    funext v H2
    apply propext
    constructor
    · rintro ⟨h1, y, h2, h3⟩
      cases h2
      exact ⟨h1, h3⟩
    · rintro ⟨h1, h2⟩
      exact ⟨h1, x, rfl, h2⟩
  rw [← e]
  exact h
theorem make_at {sp spI : Sp} {C : Addr} (imp : ∀ vs H Q E, sp vs H Q E → ∀ x dx, H x = none → H dx = none → dx ≠ x → spI (.ref x :: vs) (upd (upd H dx (.own x)) x (.ins C dx [])) (fun v H2 => v = .non ∧ Q (.ref x) H2) E) {vs : List V} {H : Hp} {E : XK} (C' : Addr → Hp → Prop)
    (h : sp vs H (fun v H2 => ∃ y, v = .ref y ∧ C' y H2) E) : ∀ x dx, H x = none → H dx = none → dx ≠ x → spI (.ref x :: vs) (upd (upd H dx (.own x)) x (.ins C dx [])) (fun v H2 => v = .non ∧ C' x H2) E :=
  fun x dx nx nd ne => make_q (imp _ _ _ _ h x dx nx nd ne)
/-! ### cells -/
def cellFs (t : Str) (rv : V) : List (Str × V) := [("text", .str t), ("rows", rv)]
theorem cellFs_put (t : Str) (rv : V) : putF "rows" rv (putF "text" (.str t) []) = cellFs t rv := by
  show (if ("text" : Str) = "rows" then _ else (("text" : Str), V.str t) :: putF "rows" rv []) = _
  rw [if_neg (by decide +kernel)]
  rfl
theorem cellFs_text (t : Str) (rv : V) : (cellFs t rv).lookup ("text" : Str) = some (.str t) := by
  rw [← cellFs_put, lookup_putF, if_neg (by decide +kernel), lookup_putF, if_pos rfl]
theorem cellFs_rows (t : Str) (rv : V) : (cellFs t rv).lookup ("rows" : Str) = some rv := by
  rw [← cellFs_put, lookup_putF, if_pos rfl]
def CellV (K : PySem.W.Frag) (mg : Str → Option Value) (H : Hp) (v : V) (rs : List Row) : Prop :=
  ∃ a C dx rv, v = .ref a ∧ mg "Cell" = some (.ref C) ∧ H a = some (.ins C dx (cellFs (rowsT rs) rv)) ∧ Dp K H rv (rowsD rs)

/-! ### values -/
abbrev Room_ := List (Key × V)
inductive Flt
  | lack (z : Str)
  | nought
  | great
  deriving DecidableEq
def fltD : Flt → PyData
  | .lack z => .tuple [.str "lack", .str z]
  | .nought => .tuple [.str "nought"]
  | .great => .tuple [.str "great"]
def ofltD : Option Flt → PyData
  | none => .none
  | some f => fltD f
abbrev Res := Except Flt Int
def resD : Res → PyData
  | .ok i => .tuple [.int i, .none]
  | .error f => .tuple [.none, fltD f]
theorem noL_flt (f : Flt) : noL (fltD f) = true := by cases f <;> rfl
theorem noL_oflt (f : Option Flt) : noL (ofltD f) = true := by
  cases f with
  | none => rfl
  | some f => exact noL_flt f
theorem noL_res (r : Res) : noL (resD r) = true := by
  cases r with
  | ok i => rfl
  | error f => simp [resD, noL, noLs, noL_flt]
def lim (i : Int) : Res := if -1000000000 ≤ i ∧ i ≤ 1000000000 then .ok i else .error .great
theorem lim_ok {i j : Int} (h : lim i = .ok j) : j = i ∧ -1000000000 ≤ i ∧ i ≤ 1000000000 := by
  unfold lim at h
  split at h
  · rename_i hc
    cases h
    exact ⟨rfl, hc⟩
  · cases h
def numAt (room : Room_) (z : Str) : Option Int :=
  match valV room (.inr z) with
  | some (.int i) => some i
  | _ => none
def atomN (room : Room_) : Atm → Res
  | .num n => .ok n
  | .nm z => match numAt room z with
    | some i => .ok i
    | none => .error (.lack z)
def atomS : Atm → List Str
  | .num _ => []
  | .nm z => [z]
def join2 (p : Int) (mul : Bool) (x : Int) : Res :=
  if mul then lim (p * x) else if x = 0 then .error .nought else lim (p.fdiv x)
/-- a product's rest from p on: what it is worth, and the names read -/
def prodE (room : Room_) : Int → List (Bool × Atm) → Res × List Str
  | p, [] => (.ok p, [])
  | p, (m, a) :: r => match atomN room a with
    | .error f => (.error f, atomS a)
    | .ok x => match join2 p m x with
      | .error f => (.error f, atomS a)
      | .ok q => ((prodE room q r).1, atomS a ++ (prodE room q r).2)
def sumE (room : Room_) : Int → Sm → Res × List Str
  | t, [] => (.ok t, [])
  | t, p :: r => match (prodE room 1 ((true, p.fst) :: p.prs)).1 with
    | .error f => (.error f, (prodE room 1 ((true, p.fst) :: p.prs)).2)
    | .ok v => match lim (t + sgI p.neg * v) with
      | .error f => (.error f, (prodE room 1 ((true, p.fst) :: p.prs)).2)
      | .ok t' => ((sumE room t' r).1, (prodE room 1 ((true, p.fst) :: p.prs)).2 ++ (sumE room t' r).2)
/-- a room of whole numbers by names, none above the bound -/
def RoomOk (room : Room_) : Prop := ∀ p ∈ room, ∃ z i, p = ((Sum.inr z : Key), V.int i) ∧ i.natAbs ≤ 1000000000
theorem room_at {room : Room_} (h : RoomOk room) (z : Str) : (valV room (.inr z) = none ∧ numAt room z = none) ∨ ∃ i, valV room (.inr z) = some (.int i) ∧ numAt room z = some i ∧ i.natAbs ≤ 1000000000 := by
  cases e : valV room (.inr z) with
  | none => exact .inl ⟨rfl, by unfold numAt; rw [e]⟩
  | some v =>
    unfold valV at e
    cases e2 : room.find? fun kv => decide (kv.1 = (Sum.inr z : Key)) with
    | none => rw [e2] at e; cases e
    | some p =>
      rw [e2] at e
      obtain ⟨z', i, rfl, hb⟩ := h p (List.mem_of_find?_eq_some e2)
      have ev : V.int i = v := Option.some.inj e
      subst ev
      refine .inr ⟨i, rfl, ?_, hb⟩
      unfold numAt valV
      rw [e2]
      rfl
/-! ### runs -/
structure RS where
  room : Room_
  shown : List Int
  reads : Room_
  chg : Room_
def workE (st : RS) (s : Sm) : Res × RS :=
  ((sumE st.room 0 s).1, { st with reads := (sumE st.room 0 s).2.foldl (fun rd n => if (valV st.chg (.inr n)).isSome then rd else putK rd (.inr n) ((valV st.room (.inr n)).getD .non)) st.reads })
def changeE (st : RS) (n : Str) (v : Option Int) : RS :=
  { st with chg := putK st.chg (.inr n) (.bl true), room := match v with
    | none => dropK st.room (.inr n)
    | some i => putK st.room (.inr n) (.int i) }
def follow0 (st : RS) : Row0 → Option Flt × RS
  | .drop n => (none, changeE st n none)
  | .set n s => match (workE st s).1 with
    | .error f => (some f, (workE st s).2)
    | .ok v => (none, changeE (workE st s).2 n (some v))
  | .shw s => match (workE st s).1 with
    | .error f => (some f, (workE st s).2)
    | .ok v => (none, { (workE st s).2 with shown := (workE st s).2.shown ++ [v] })
def followE (st : RS) : Row → Option Flt × RS
  | .pl r => follow0 st r
  | .cond t r => match (workE st t).1 with
    | .error f => (some f, (workE st t).2)
    | .ok v => if v = 0 then (none, (workE st t).2) else follow0 (workE st t).2 r
def runE : RS → List Row → Option Flt × RS
  | st, [] => (none, st)
  | st, r :: rs => match (followE st r).1 with
    | some f => (some f, (followE st r).2)
    | none => runE (followE st r).2 rs
/-! ### str(an atom); displays of data -/
theorem strAny {X : Cx} : CallR X (.type "str") (fun xs H Q => ∃ a : Atm, xs = [atmV a] ∧ atmOk a = true ∧ Q (.str (atmT a)) H) := by
  intro pins s σ H xs us Q I r h
  obtain ⟨a, rfl, ok, q⟩ := h
  cases a with
  | nm z => exact SkE.call_str_str pins s σ H _ us Q I r ⟨z, rfl, q⟩
  | num n =>
    refine call_str_int pins s σ H _ us Q I r ⟨((n : Nat) : Int), rfl, ?_, q⟩
    have h : n < 1000 := of_decide_eq_true ok
    show n.log2 < 1920
    exact Nat.lt_of_lt_of_le (Nat.lt_of_le_of_lt (Nat.log2_le_self n) h) (by decide)
section
variable {K : PySem.W.Frag} {σ : L2.St} {H : Hp} {te : TE} {ta : TA} {d : PyData} {ds : List PyData}
/-- an expression that makes data and changes nothing -/
def EvD (K : PySem.W.Frag) (te : TE) (σ : L2.St) (H : Hp) (d : PyData) : Prop := ∀ H1, Same H H1 → ∀ Q : VK, (∀ v H2, Same H1 H2 → Dp K H2 v d → Q v H2) → te σ H1 Q
def EvDs (K : PySem.W.Frag) (ta : TA) (σ : L2.St) (H : Hp) (ds : List PyData) : Prop := ∀ H1, Same H H1 → ∀ Q : List V → Hp → Prop, (∀ vs H2, Same H1 H2 → DpAll K H2 vs ds → Q vs H2) → ta σ H1 Q
theorem evd_int {i : Int} : EvD K (tC (.int i)) σ H (.int i) := fun H1 _ Q q => q _ _ (Same.refl H1) (.int i)
theorem evd_str {z : Str} : EvD K (tC (.str z)) σ H (.str z) := fun H1 _ Q q => q _ _ (Same.refl H1) (.str z)
theorem evd_non : EvD K (tC .non) σ H .none := fun H1 _ Q q => q _ _ (Same.refl H1) .non
theorem evd_neg {i : Int} : EvD K (tUn (rU fun i => .int (-i)) (tC (.int i))) σ H (.int (-i)) := fun H1 _ Q q => ⟨i, rfl, q _ _ (Same.refl H1) (.int (-i))⟩
theorem evd_var {i : Nat} {v : V} (h : σ[i]? = some (some v)) (n : noL d = true) (dp : Dp K H v d) : EvD K (tVar i) σ H d := fun H1 s Q q => ⟨v, h, q _ _ (Same.refl H1) (Dp.tk (Same.tk s) _ _ n dp)⟩
theorem evds_nil : EvDs K tNil σ H [] := fun H1 _ Q q => q _ _ (Same.refl H1) .nil
theorem evds_cons {tr : TA} (n : noL d = true) (h : EvD K te σ H d) (hr : EvDs K tr σ H ds) : EvDs K (tCons te tr) σ H (d :: ds) := fun H1 s Q q =>
  h H1 s _ fun v H2 s2 dp => hr H2 (s.trans s2) _ fun vs H3 s3 dps => q _ _ (s2.trans s3) (.cons (Dp.tk (Same.tk s3) _ _ n dp) dps)
theorem evd_tup (h : EvDs K ta σ H ds) (nl : noLs ds = true) (hl : ds.length ≤ 1000) : EvD K (tTup ta) σ H (.tuple ds) := fun H1 s Q q =>
  h H1 s _ fun vs H2 s2 dps => ⟨by rw [DpAll.length dps]; exact Nat.le_trans hl (by decide), fun p np => q _ _ (s2.trans (same_upd np)) (.tup (SqT.of upd_same) (DpAll.tk (tk_put np) _ _ nl dps))⟩
theorem evl_lst (h : EvDs K ta σ H ds) (nl : noLs ds = true) (hl : ds.length ≤ 1000) (Q : VK) (q : ∀ p vs H2, H p = none → Same H H2 → H2 p = some (.lst vs) → DpAll K H2 vs ds → Q (.ref p) H2) : tLst ta σ H Q :=
  h H (Same.refl H) _ fun vs H2 s2 dps => ⟨by rw [DpAll.length dps]; exact Nat.le_trans hl (by decide), fun p np => q p vs _ (s2.free np) (s2.trans (same_upd np)) upd_same (DpAll.tk (tk_put np) _ _ nl dps)⟩
end
theorem catK_A {X : Cx} {K : PySem.W.Frag} (h : X.K = K) : OpR X (binaryOp .Add) (rCatA K) := h ▸ op_catA
theorem slK_tupA {X : Cx} {K : PySem.W.Frag} (h : X.K = K) : SlR X (rSlA K) := h ▸ sl_tupA
theorem evd_ixL {K : PySem.W.Frag} {σ : L2.St} {H : Hp} {i j k : Nat} {L : Addr} {vs : List V} {ds : List PyData} {d : PyData} (hi : σ[i]? = some (some (.ref L))) (hj : σ[j]? = some (some (.int (k : Nat)))) (hL : H L = some (.lst vs)) (dp : DpAll K H vs ds) (n : noL d = true) (hd : ds[k]? = some d) :
    EvD K (tOp (rIxL K) (tVar i) (tVar j)) σ H d := fun H1 s Q q => by
  obtain ⟨v, h1, h2⟩ := DpAll.get dp hd
  exact ⟨_, hi, _, hj, L, vs, (k : Nat), v, rfl, rfl, SqL.of (s _ _ hL), atI_nat h1, q _ _ (Same.refl H1) (Dp.tk (Same.tk s) _ _ n h2)⟩
theorem cut_drop (xs : List V) (k : Nat) (h : k ≤ xs.length) : cutV xs (some (k : Int)) none = xs.drop k := by
  unfold cutV
  rw [HT.sIx_nat, HT.sIx_none, Nat.min_eq_left h]
  rw [List.take_of_length_le]
  rw [List.length_drop]
  omega
theorem cut_take (xs : List V) (k : Nat) : cutV xs none (some (k : Int)) = xs.take k := by
  unfold cutV
  rw [HT.sIx_nat, HT.sIx_none, List.drop_zero, Nat.sub_zero]
  rw [Nat.min_def]
  split
  · rfl
  · rw [List.take_of_length_le (Nat.le_refl _), List.take_of_length_le (by omega)]
theorem evd_imp {K : PySem.W.Frag} {te : TE} {σ : L2.St} {H : Hp} {d : PyData} {Q : VK} (h : EvD K te σ H d) (q : ∀ v H2, Same H H2 → Dp K H2 v d → Q v H2) : te σ H Q := h H (Same.refl H) Q q
end Fc

set_option Elab.async false
set_option linter.all false
set_option maxRecDepth 100000
set_option maxHeartbeats 4000000
/-! Fc5: a sum's text, product by product. -/
namespace Fc
open PySem PySem.Spec PyProof.Rows L2 TL
theorem snoc_ind {α : Type} {P : List α → Prop} (h0 : P []) (h1 : ∀ s p, P s → P (s ++ [p])) (s : List α) : P s := by
  have key : ∀ r : List α, P r.reverse := fun r => by
    induction r with
    | nil => exact h0
    | cons a r ih =>
      rw [List.reverse_cons]
      exact h1 _ _ ih
  have := key s.reverse
  rw [List.reverse_reverse] at this
  exact this
theorem joinL_app (S : List Nat) : ∀ (A B : List (List Nat)), A ≠ [] → B ≠ [] → joinL S (A ++ B) = joinL S A ++ S ++ joinL S B
  | [], _, h, _ => absurd rfl h
  | [a], [], _, h => absurd rfl h
  | [a], b :: B, _, _ => by
    show a ++ (S ++ joinL S (b :: B)) = a ++ S ++ joinL S (b :: B)
    rw [List.append_assoc]
  | a :: a2 :: A, B, _, h => by
    show a ++ (S ++ joinL S ((a2 :: A) ++ B)) = (a ++ (S ++ joinL S (a2 :: A))) ++ S ++ joinL S B
    rw [joinL_app S (a2 :: A) B (by simp) h]
    simp only [List.append_assoc]
def pairT (q : Bool × Atm) : Str := jS q.1 ++ " " ++ atmT q.2
def partT (p : Prd) : Str := Txt.join " " (atmT p.fst :: p.prs.map pairT)
def pairsM (l : List (Bool × Atm)) : List (Mk2 × Atm) := l.map fun q => (.jn q.1, q.2)
def wordsP (p : Prd) : List Str := atmT p.fst :: flatM (pairsM p.prs)
theorem flatM_app : ∀ a b : List (Mk2 × Atm), flatM (a ++ b) = flatM a ++ flatM b
  | [], b => rfl
  | (m, x) :: r, b => by
    show mkT m :: atmT x :: flatM (r ++ b) = mkT m :: atmT x :: (flatM r ++ flatM b)
    rw [flatM_app r b]
theorem flatM_prd (p : Prd) : flatM (prdM p) = sgT p.neg :: wordsP p := rfl
theorem tl_blank : tl (Str.ofString " ") = [32] := by decide +kernel
theorem join_pairs (x : List Nat) : ∀ l : List (Bool × Atm), joinL [32] (x :: (l.map pairT).map tl) = joinL [32] (x :: (flatM (pairsM l)).map tl)
  | [] => rfl
  | (m, a) :: r => by
    have ih := join_pairs (tl (atmT a)) r
    show x ++ ([32] ++ joinL [32] (tl (pairT (m, a)) :: (r.map pairT).map tl)) = x ++ ([32] ++ (tl (jS m) ++ ([32] ++ joinL [32] (tl (atmT a) :: (flatM (pairsM r)).map tl))))
    rw [← ih]
    have e : tl (pairT (m, a)) = tl (jS m) ++ [32] ++ tl (atmT a) := by
      show tl (jS m ++ Str.ofString " " ++ atmT a) = _
      rw [tl_append, tl_append, tl_blank]
    rw [e]
    cases r with
    | nil =>
      show x ++ ([32] ++ (tl (jS m) ++ [32] ++ tl (atmT a))) = x ++ ([32] ++ (tl (jS m) ++ ([32] ++ tl (atmT a))))
      simp only [List.append_assoc]
    | cons q r =>
      show x ++ ([32] ++ ((tl (jS m) ++ [32] ++ tl (atmT a)) ++ ([32] ++ joinL [32] (tl (pairT q) :: (r.map pairT).map tl)))) = x ++ ([32] ++ (tl (jS m) ++ ([32] ++ (tl (atmT a) ++ ([32] ++ joinL [32] (tl (pairT q) :: (r.map pairT).map tl))))))
      simp only [List.append_assoc]
theorem tl_partT (p : Prd) : tl (partT p) = joinL [32] ((wordsP p).map tl) := by
  unfold partT
  rw [join_eq, tl_join, tl_blank]
  exact join_pairs (tl (atmT p.fst)) p.prs
theorem tl_sumT (s : Sm) : tl (sumT s) = joinL [32] ((wordsS s).map tl) := by
  unfold sumT
  rw [join_eq, tl_join, tl_blank]
theorem sumT_one (p : Prd) : sumT [p] = if p.neg then Str.ofString "- " ++ partT p else partT p := by
  apply ext_tl
  rw [tl_sumT]
  have e : smM [p] = prdM p := by show prdM p ++ [] = prdM p; rw [List.append_nil]
  unfold wordsS
  rw [e, flatM_prd]
  show joinL [32] ((if p.neg = true then sgT p.neg :: wordsP p else wordsP p).map tl) = _
  by_cases h : p.neg = true
  · rw [if_pos h, if_pos h, h, tl_append, tl_partT, show tl (Str.ofString "- ") = [45, 32] by decide +kernel]
    show tl (sgT true) ++ ([32] ++ joinL [32] ((wordsP p).map tl)) = _
    rw [show tl (sgT true) = [45] by decide +kernel]
    rfl
  · rw [if_neg h, if_neg h, tl_partT]
theorem sumT_snoc {s : Sm} (hs : s ≠ []) (p : Prd) : sumT (s ++ [p]) = sumT s ++ (if p.neg then Str.ofString " - " else Str.ofString " + ") ++ partT p := by
  apply ext_tl
  have e1 : smM (s ++ [p]) = smM s ++ prdM p := by unfold smM; rw [List.flatMap_append]; show _ ++ (prdM p ++ []) = _; rw [List.append_nil]
  have e2 : wordsS (s ++ [p]) = wordsS s ++ (sgT p.neg :: wordsP p) := by
    cases s with
    | nil => exact absurd rfl hs
    | cons q r =>
      unfold wordsS
      rw [e1, flatM_app, flatM_prd]
      show (if q.neg = true then _ else _) = (if q.neg = true then _ else _) ++ _
      by_cases h : q.neg = true
      · rw [if_pos h, if_pos h]
      · rw [if_neg h, if_neg h]
        rfl
  have ne : (wordsS s).map tl ≠ [] := by
    cases s with
    | nil => exact absurd rfl hs
    | cons q r =>
      unfold wordsS
      show (if q.neg = true then flatM (smM (q :: r)) else (flatM (smM (q :: r))).tail).map tl ≠ []
      by_cases h : q.neg = true
      · rw [if_pos h]
        exact fun e => by cases e
      · rw [if_neg h]
        exact fun e => by cases e
  rw [tl_sumT, e2, List.map_append, joinL_app _ _ _ ne (by simp), tl_append, tl_append, tl_sumT, tl_partT]
  show _ ++ [32] ++ (tl (sgT p.neg) ++ ([32] ++ joinL [32] ((wordsP p).map tl))) = _
  cases p.neg with
  | true =>
    rw [if_pos rfl, show tl (sgT true) = [45] by decide +kernel, show tl (Str.ofString " - ") = [32, 45, 32] by decide +kernel]
    simp only [List.append_assoc]
    rfl
  | false =>
    rw [if_neg Bool.false_ne_true, show tl (sgT false) = [43] by decide +kernel, show tl (Str.ofString " + ") = [32, 43, 32] by decide +kernel]
    simp only [List.append_assoc]
    rfl
theorem partT_len {p : Prd} (h : prdOk p = true) : (partT p).length ≤ 12 * prdN p := by
  unfold prdOk at h
  simp only [Bool.and_eq_true, List.all_eq_true] at h
  unfold partT
  rw [len_tl, join_eq, tl_join, tl_blank]
  refine Nat.le_trans (len_joinL _ _) ?_
  rw [List.map_map]
  refine Nat.le_trans (sum_le (c := 12) fun x hx => ?_) ?_
  · obtain ⟨w, hw, rfl⟩ := List.mem_map.mp hx
    show (tl w).length + 1 ≤ 12
    rcases List.mem_cons.mp hw with rfl | hw
    · have := atm_len h.1
      rw [len_tl] at this
      omega
    · obtain ⟨q, hq, rfl⟩ := List.mem_map.mp hw
      have h1 := atm_len (h.2 q hq)
      have h2 : (jS q.1).length ≤ 2 := by cases q.1 <;> decide +kernel
      have : (pairT q).length ≤ 7 := by
        show (jS q.1 ++ Str.ofString " " ++ atmT q.2).length ≤ 7
        rw [len_app, len_app, show (Str.ofString " ").length = 1 by decide +kernel]
        omega
      rw [len_tl] at this
      omega
  · rw [List.length_map, List.length_cons, List.length_map]
    show (p.prs.length + 1) * 12 ≤ 12 * (1 + p.prs.length)
    omega
theorem sumT_len2 : ∀ (s : Sm), (∀ p ∈ s, prdOk p = true) → (sumT s).length ≤ 15 * smN s := by
  intro s
  refine snoc_ind (P := fun s => (∀ p ∈ s, prdOk p = true) → (sumT s).length ≤ 15 * smN s) ?_ ?_ s
  · intro _
    have e : (sumT []).length = 0 := by decide +kernel
    omega
  · intro s p ih h
    have h1 := ih fun q hq => h q (List.mem_append_left _ hq)
    have h2 := partT_len (h p (List.mem_append_right _ (List.mem_singleton.mpr rfl)))
    have e : smN (s ++ [p]) = smN s + prdN p := by unfold smN; rw [List.map_append, List.sum_append]; show _ + (prdN p + 0) = _; omega
    have hp : prdN p = 1 + p.prs.length := rfl
    by_cases hs : s = []
    · subst hs
      rw [List.nil_append, sumT_one]
      have e0 : smN [p] = prdN p := by show prdN p + 0 = _; omega
      rw [e0]
      split
      · rw [len_app, show (Str.ofString "- ").length = 2 by decide +kernel]
        omega
      · omega
    · rw [sumT_snoc hs, len_app, len_app, e]
      split
      · rw [show (Str.ofString " - ").length = 3 by decide +kernel]
        omega
      · rw [show (Str.ofString " + ").length = 3 by decide +kernel]
        omega
theorem atmT_ne {a : Atm} (h : atmOk a = true) : 1 ≤ (atmT a).length := by
  cases a with
  | nm z => exact (isNm_and h).1
  | num n =>
    have h1 : ∀ n, n < 1000 → 1 ≤ (numT n).length := by decide +kernel
    exact h1 n (of_decide_eq_true h)
theorem partT_ne {p : Prd} (h : prdOk p = true) : 1 ≤ (partT p).length := by
  unfold prdOk at h
  simp only [Bool.and_eq_true] at h
  have h1 := atmT_ne h.1
  rw [len_tl] at h1 ⊢
  rw [tl_partT]
  show 1 ≤ (joinL [32] (tl (atmT p.fst) :: (flatM (pairsM p.prs)).map tl)).length
  cases (flatM (pairsM p.prs)).map tl with
  | nil => exact h1
  | cons q r =>
    show 1 ≤ (tl (atmT p.fst) ++ ([32] ++ joinL [32] (q :: r))).length
    rw [List.length_append]
    omega
theorem sumT_ne {s : Sm} (hs : s ≠ []) (h : ∀ p ∈ s, prdOk p = true) : sumT s ≠ Str.ofString "" := by
  intro e
  have key : 1 ≤ (sumT s).length := by
    clear e
    revert h hs
    refine snoc_ind (P := fun s => s ≠ [] → (∀ p ∈ s, prdOk p = true) → 1 ≤ (sumT s).length) ?_ ?_ s
    · intro h; exact absurd rfl h
    · intro s p ih _ h
      have hp := partT_ne (h p (List.mem_append_right _ (List.mem_singleton.mpr rfl)))
      by_cases hs : s = []
      · subst hs
        rw [List.nil_append, sumT_one]
        split
        · rw [len_app]; omega
        · exact hp
      · rw [sumT_snoc hs, len_app, len_app]
        omega
  rw [e, show (Str.ofString "").length = 0 by decide +kernel] at key
  omega
structure SmOkB (s : Sm) : Prop where
  n : smN s ≤ 20
  ok : ∀ p ∈ s, prdOk p = true
theorem SmOk.b {s : Sm} (h : SmOk s) : SmOkB s := ⟨Nat.le_trans h.n (by decide), h.ok⟩
theorem smN_mem {s : Sm} {p : Prd} (h : p ∈ s) : prdN p ≤ smN s := by
  induction s with
  | nil => cases h
  | cons q r ih =>
    show prdN p ≤ prdN q + smN r
    rcases List.mem_cons.mp h with rfl | h
    · omega
    · have := ih h
      omega
end Fc

set_option Elab.async false
set_option linter.all false
set_option maxRecDepth 100000
set_option maxHeartbeats 400000
/-! Fc6: lists of data by evidence: displays, slices, sums of lists, tuples of them. -/
namespace Fc
open PySem PySem.Spec PyProof.Rows L2 TL

section
variable {K : PySem.W.Frag} {H H' : Hp} {σ : L2.St} {ta tb te : TE} {ds es : List PyData} {L : Addr}
theorem DpAll.takeN : ∀ (k : Nat) (vs : List V) (ds : List PyData), DpAll K H vs ds → DpAll K H (vs.take k) (ds.take k)
  | 0, _, _, _ => .nil
  | k + 1, _, _, .nil => .nil
  | k + 1, _, _, .cons h t => .cons h (DpAll.takeN k _ _ t)
theorem DpAll.dropN : ∀ (k : Nat) (vs : List V) (ds : List PyData), DpAll K H vs ds → DpAll K H (vs.drop k) (ds.drop k)
  | 0, _, _, h => h
  | k + 1, _, _, .nil => .nil
  | k + 1, _, _, .cons h t => DpAll.dropN k _ _ t
theorem DpAll.catN : ∀ (vs : List V) (ds : List PyData) (us : List V) (es : List PyData), DpAll K H vs ds → DpAll K H us es → DpAll K H (vs ++ us) (ds ++ es)
  | _, _, _, _, .nil, h => h
  | _, _, _, _, .cons h t, h2 => .cons h (DpAll.catN _ _ _ _ t h2)
theorem DpAll.ints : ∀ xs : List Int, DpAll K H (xs.map V.int) (xs.map PyData.int)
  | [] => .nil
  | x :: xs => .cons (.int x) (DpAll.ints xs)
theorem noLs_cat : ∀ (ds es : List PyData), noLs ds = true → noLs es = true → noLs (ds ++ es) = true
  | [], es, _, h => h
  | d :: ds, es, h1, h2 => by
    have h : (noL d && noLs ds) = true := h1
    rw [Bool.and_eq_true] at h
    show (noL d && noLs (ds ++ es)) = true
    rw [h.1, noLs_cat ds es h.2 h2]
    rfl
theorem noLs_dropN : ∀ (k : Nat) (ds : List PyData), noLs ds = true → noLs (ds.drop k) = true
  | 0, _, h => h
  | _ + 1, [], _ => rfl
  | k + 1, d :: ds, h1 => by
    have h : (noL d && noLs ds) = true := h1
    rw [Bool.and_eq_true] at h
    exact noLs_dropN k ds h.2
/-- a list of data stands at L -/
def LstAt (K : PySem.W.Frag) (H : Hp) (L : Addr) (ds : List PyData) : Prop := ∃ vs, H L = some (.lst vs) ∧ DpAll K H vs ds
theorem LstAt.same (s : Same H H') (n : noLs ds = true) (h : LstAt K H L ds) : LstAt K H' L ds := by
  obtain ⟨vs, h1, h2⟩ := h
  exact ⟨vs, s _ _ h1, DpAll.tk (Same.tk s) _ _ n h2⟩
theorem LstAt.kp {b : Addr} (k : Kp b H H') (B : Bag H b) (n : noLs ds = true) (ne : L ≠ b) (h : LstAt K H L ds) : LstAt K H' L ds := by
  obtain ⟨vs, h1, h2⟩ := h
  exact ⟨vs, k.keep _ _ ne h1, DpAll.tk (Kp.tk k B) _ _ n h2⟩
def EvL (K : PySem.W.Frag) (te : TE) (σ : L2.St) (H : Hp) (ds : List PyData) : Prop := ∀ H1, Same H H1 → ∀ Q : VK, (∀ p H2, Same H1 H2 → LstAt K H2 p ds → Q (.ref p) H2) → te σ H1 Q
def EvO (tp : TO) (σ : L2.St) (o : Option Int) : Prop := ∀ (H : Hp) (Q : Option Int → Hp → Prop), Q o H → tp σ H Q
theorem evO_none : EvO tNoPart σ none := fun _ _ q => q
theorem evO_var {i : Nat} {k : Int} (h : σ[i]? = some (some (.int k))) : EvO (tPart (tVar i)) σ (some k) := fun _ _ q => ⟨_, h, k, rfl, q⟩
theorem evO_int {k : Int} : EvO (tPart (tC (.int k))) σ (some k) := fun _ _ q => ⟨k, rfl, q⟩
theorem evL_var {i : Nat} (h : σ[i]? = some (some (.ref L))) (n : noLs ds = true) (l : LstAt K H L ds) : EvL K (tVar i) σ H ds := fun H1 s Q q => ⟨_, h, q _ _ (Same.refl H1) (l.same s n)⟩
theorem evL_lst {ta : TA} (h : EvDs K ta σ H ds) (nl : noLs ds = true) (hl : ds.length ≤ 1000) : EvL K (tLst ta) σ H ds := fun H1 s Q q =>
  evl_lst (fun H2 s2 => h H2 (s.trans s2)) nl hl Q fun p vs H2 _ s2 h2 dps => q p H2 s2 ⟨vs, h2, dps⟩
theorem evL_take {tp : TO} {k : Nat} (h : EvL K te σ H ds) (n : noLs ds = true) (hp : EvO tp σ (some (k : Int))) : EvL K (tSl (rSlL K) te tNoPart tp) σ H (ds.take k) := fun H1 s Q q =>
  h H1 s _ fun p H2 s2 l => hp _ _ (by
    obtain ⟨vs, h1, h2⟩ := l
    refine ⟨p, vs, rfl, SqL.of h1, fun a na => ?_⟩
    rw [cut_take]
    exact q a _ (s2.trans (same_upd na)) ⟨_, upd_same, DpAll.tk (tk_put na) _ _ (noLs_take ds k n) (DpAll.takeN k _ _ h2)⟩)
theorem evL_drop {tp : TO} {k : Nat} (h : EvL K te σ H ds) (n : noLs ds = true) (hk : k ≤ ds.length) (hp : EvO tp σ (some (k : Int))) : EvL K (tSl (rSlL K) te tp tNoPart) σ H (ds.drop k) := fun H1 s Q q =>
  h H1 s _ fun p H2 s2 l => hp _ _ (by
    obtain ⟨vs, h1, h2⟩ := l
    refine ⟨p, vs, rfl, SqL.of h1, fun a na => ?_⟩
    rw [cut_drop _ _ (by rw [DpAll.length h2]; exact hk)]
    exact q a _ (s2.trans (same_upd na)) ⟨_, upd_same, DpAll.tk (tk_put na) _ _ (noLs_dropN k ds n) (DpAll.dropN k _ _ h2)⟩)
theorem evL_cat (ha : EvL K ta σ H ds) (hb : EvL K tb σ H es) (n : noLs ds = true) (m : noLs es = true) (hl : ds.length + es.length ≤ 1000) : EvL K (tOp rCat ta tb) σ H (ds ++ es) := fun H1 s Q q =>
  ha H1 s _ fun p H2 s2 l => hb H2 (s.trans s2) _ fun p' H3 s3 l' => by
    obtain ⟨vs, h1, h2⟩ := l.same s3 n
    obtain ⟨us, g1, g2⟩ := l'
    refine ⟨p, p', vs, us, rfl, rfl, h1, g1, by rw [DpAll.length h2, DpAll.length g2]; exact Nat.le_trans hl (by decide), fun a na => ?_⟩
    exact q a _ (s2.trans (s3.trans (same_upd na))) ⟨_, upd_same, DpAll.tk (tk_put na) _ _ (noLs_cat _ _ n m) (DpAll.catN _ _ _ _ h2 g2)⟩
theorem evd_tpl (h : EvL K te σ H ds) (n : noLs ds = true) : EvD K (tCB (rTpl K) (tCons te tNil)) σ H (.tuple ds) := fun H1 s Q q =>
  h H1 s _ fun p H2 s2 l => by
    obtain ⟨vs, h1, h2⟩ := l
    exact ⟨p, vs, rfl, .inl ⟨SqL.of h1, fun a na => q _ _ (s2.trans (same_upd na)) (.tup (SqT.of upd_same) (DpAll.tk (tk_put na) _ _ n h2))⟩⟩
theorem noLs_ints (xs : List Int) : noLs (xs.map PyData.int) = true := noLs_map _ (fun _ => rfl) xs
def EvI (te : TE) (σ : L2.St) (i : Int) : Prop := ∀ (H : Hp) (Q : VK), Q (.int i) H → te σ H Q
theorem evI_var {i : Nat} {k : Int} (h : σ[i]? = some (some (.int k))) : EvI (tVar i) σ k := fun _ _ q => ⟨_, h, q⟩
theorem evI_int {k : Int} : EvI (tC (.int k)) σ k := fun _ _ q => q
theorem evI_d {k : Int} (h : EvI te σ k) : EvD K te σ H (.int k) := fun H1 s Q q => h _ _ (q _ _ (Same.refl H1) (.int k))
def rgI (n : Nat) : List Int := (List.range n).map fun i => ((i : Nat) : Int)
theorem rgV_nat (n : Nat) : rgV 0 (n : Int) = (rgI n).map V.int := by
  unfold rgV rgI
  rw [Int.sub_zero, Int.toNat_natCast, List.map_map]
  refine List.map_congr_left fun i _ => ?_
  show V.int (0 + (i : Int)) = V.int (i : Int)
  rw [Int.zero_add]
theorem evd_tupRg {n : Nat} (h : EvI te σ (n : Int)) (hn : n ≤ 1000) : EvD K (tTupRg (tRg1 te)) σ H (.tuple ((rgI n).map .int)) := fun H1 s Q q => h _ _ ⟨n, rfl, ⟨by decide, by decide, Int.le_trans (by decide) (Int.natCast_nonneg n), by omega, by omega⟩, fun p np => by
    rw [rgV_nat]
    exact q _ _ (same_upd np) (.tup (SqT.of upd_same) (DpAll.ints _))⟩
theorem evd_catT (ha : EvD K ta σ H (.tuple ds)) (hb : EvD K tb σ H (.tuple es)) (n : noLs ds = true) (m : noLs es = true) (hl : ds.length + es.length ≤ 1000) : EvD K (tOp (rCatA K) ta tb) σ H (.tuple (ds ++ es)) := fun H1 s Q q =>
  ha H1 s _ fun v H2 s2 d2 => hb H2 (s.trans s2) _ fun u H3 s3 d3 => by
    have d2' := Dp.tk (Same.tk s3) _ _ (show noL (.tuple ds) = true from n) d2
    cases d2' with
    | tup st da =>
    rename_i a xs
    cases d3 with
    | tup st' db =>
    rename_i b ys
    refine ⟨a, b, xs, ys, rfl, rfl, st, st', by rw [DpAll.length da, DpAll.length db]; exact Nat.le_trans hl (by decide), fun e => ?_, fun _ e => ?_, fun _ _ p np => ?_⟩
    · subst e
      cases da
      exact q _ _ (s2.trans s3) (.tup st' db)
    · subst e
      cases db
      rw [List.append_nil] at q
      exact q _ _ (s2.trans s3) (.tup st da)
    · exact q _ _ (s2.trans (s3.trans (same_upd np))) (.tup (SqT.of upd_same) (DpAll.tk (tk_put np) _ _ (noLs_cat _ _ n m) (DpAll.catN _ _ _ _ da db)))
theorem cons_ {te : TE} {tr : TA} {Q : List V → Hp → Prop} (h : te σ H fun x H1 => tr σ H1 fun xs H2 => Q (x :: xs) H2) : tCons te tr σ H Q := h
theorem tup_ {ta : TA} {Q : VK} (h : ta σ H fun xs H1 => xs.length ≤ sizeLine ∧ ∀ (p : Addr), H1 p = none → Q (V.ref p) (upd H1 p (HO.tup xs))) : tTup ta σ H Q := h
theorem ret_ {te : TE} {D : Ends} (h : te σ H D.rt) : tRet te D σ H := h
theorem drop_ {te : TE} {D : Ends} (h : te σ H fun _ H1 => D.nx σ H1) : tDrop te D σ H := h
theorem sq_asg {te : TE} {g : TG} {u : TS} {D : Ends} (h : te σ H fun x H1 => g x σ H1 (u D)) : tSeq (tAsg te g) u D σ H := h
theorem sq_drop {te : TE} {u : TS} {D : Ends} (h : te σ H fun _ H1 => u D σ H1) : tSeq (tDrop te) u D σ H := h
theorem dpAll_of {α : Type} {f : α → PyData} {P : α → Prop} : ∀ ys : List V, (∀ y ∈ ys, ∃ q, Dp K H y (f q) ∧ P q) → ∃ qs : List α, DpAll K H ys (qs.map f) ∧ qs.length = ys.length ∧ ∀ q ∈ qs, P q
  | [], _ => ⟨[], .nil, rfl, fun q h => by cases h⟩
  | y :: r, h => by
    obtain ⟨q, h1, h2⟩ := h y List.mem_cons_self
    obtain ⟨qs, g1, g2, g3⟩ := dpAll_of r fun z hz => h z (List.mem_cons_of_mem _ hz)
    refine ⟨q :: qs, .cons h1 g1, by rw [List.length_cons, List.length_cons, g2], fun x hx => ?_⟩
    rcases List.mem_cons.mp hx with rfl | hx
    · exact h2
    · exact g3 x hx
theorem smN_le {c : Nat} : ∀ s : Sm, (∀ p ∈ s, p.prs.length ≤ c) → smN s ≤ (c + 1) * s.length
  | [], _ => Nat.zero_le _
  | p :: r, h => by
    have h1 := h p List.mem_cons_self
    have h2 := smN_le r fun x hx => h x (List.mem_cons_of_mem _ hx)
    have e : smN (p :: r) = (1 + p.prs.length) + smN r := rfl
    rw [e, List.length_cons, Nat.mul_add]
    omega
end
end Fc

set_option Elab.async false
set_option linter.all false
set_option maxRecDepth 100000
set_option maxHeartbeats 4000000
namespace Fc
open PySem PySem.Spec PyProof.Rows L2 TL

def topS (i : Nat) : Stmt := PySem.Challenge.pw_freshcells_k13_faults_end.main.body.getD i (.Pass ⟨0, 0, 0, 0⟩)

structure Txt (K : PySem.W.Frag) (w : World) (mg : Str → Option Value) : Prop where
  n_len : mg "len" = none
  n_isinstance : mg "isinstance" = none
  n_range : mg "range" = none
  n_all : mg "all" = none
  n_list : mg "list" = none
  n_str : mg "str" = none
  n_int : mg "int" = none
  n_tuple : mg "tuple" = none
  n_dict : mg "dict" = none
  n_abs : mg "abs" = none
  n_min : mg "min" = none
  n_max : mg "max" = none
  n_sorted : mg "sorted" = none
  n_enumerate : mg "enumerate" = none
  g_LETTERS : ∃ t, mg "LETTERS" = some (.str "abcdefghijklmnopqrstuvwxyz" t)
  g_FIGURES : ∃ t, mg "FIGURES" = some (.str "0123456789" t)
  g_WORDS : ∃ a, mg "WORDS" = some (.ref a) ∧ ∀ H, SqT K H a [.str "show", .str "drop", .str "if"]
  g_MOST_SIGNS : ∃ t, mg "MOST_SIGNS" = some (.int 4 t)
  g_MOST_FIGURES : ∃ t, mg "MOST_FIGURES" = some (.int 3 t)
  g_MOST_ATOMS : ∃ t, mg "MOST_ATOMS" = some (.int 8 t)
  g_LIMIT : ∃ t, mg "LIMIT" = some (.int 1000000000 t)
  g_SIGNS : ∃ a es n, mg "SIGNS" = some (.ref a) ∧ KDict K w a es n ∧ (∃ t, PySem.W.nsIn K a "+" = some (some (.int (1) t))) ∧ (∃ t, PySem.W.nsIn K a "-" = some (some (.int (-1) t))) ∧ PySem.W.nsIn K a "*" = some none ∧ PySem.W.nsIn K a "//" = some none
  g_JOINTS : ∃ a, mg "JOINTS" = some (.ref a) ∧ ∀ H, SqT K H a [.str "*", .str "//"]
  g_MOST_ROWS : ∃ t, mg "MOST_ROWS" = some (.int 6 t)
  k_Run : ∃ C, mg "Run" = some (.ref C) ∧ Cls K C ∧ NoAttr K C "standing" ∧ NoAttr K C "shown" ∧ NoAttr K C "first_reads" ∧ NoAttr K C "changed"
  k_Cell : ∃ C, mg "Cell" = some (.ref C) ∧ Cls K C ∧ NoAttr K C "text" ∧ NoAttr K C "rows"
section
variable {P : Program} {w : World} {K : PySem.W.Frag} {mg : Str → Option Value} {base : Heap}
abbrev s_Ltake : Stmt := topS 35
abbrev n_Ltake : List Str := ["_law_bag_here", "_law_many", "_law_digit"]
abbrev p_Ltake : List Str := ["_law_bag_here", "_law_many"]
theorem sc_Ltake : FnScope n_Ltake p_Ltake (defScope s_Ltake) := ⟨rfl, rfl, rfl, by decide +kernel, rfl, by decide +kernel, by decide +kernel⟩
def spTake : Sp := fun vs H Q _ => ∃ (b : Addr) (m : Int), vs = [.ref b, .int m] ∧ Bag H b ∧ 0 < m ∧ m < 1073741824 ∧ ∀ (r : Int) (H' : Hp), 0 ≤ r → r < m → Kp b H H' → Q (.int r) H'
theorem d_Ltake (S : Src K mg "_law_take" s_Ltake p_Ltake) : Dn P w K mg base "_law_take" 1 p_Ltake spTake := by
  refine S.ok sc_Ltake (fun vs H Q E h => ?_) (fun f cdv A outer s H vs Q E hr h => ?_)
  · obtain ⟨b, m, rfl, _⟩ := h
    rfl
  · obtain ⟨b, m, rfl, hB, m0, m1, q⟩ := h
    obtain ⟨g, z, hb, g0, z0, z1⟩ := hB
    refine ⟨_, (pss_cons (ps_if (pt_cmpR op_gt (pe_ix (ixK_list (K := K) rfl) (pv 0) pe_int (fun _ _ => rfl)) pe_int (nomark _)) (pss_cons (ps_set (i := 2) sc_Ltake.nd rfl (Or.inl rfl) (pe_op op_modN (pe_ix (ixK_list (K := K) rfl) (pv 0) pe_int (fun _ _ => rfl)) (pv 1)))
    (pss_cons (ps_asg (pe_op op_fdivN (pe_ix (ixK_list (K := K) rfl) (pv 0) pe_int (fun _ _ => rfl)) (pv 1)) (pg_sub (pv 0) pe_int set_list))
    (pss_one (ps_ret (pv 2))))) pss_nil)
    (pss_cons (ps_asg (pe_op op_mod (pe_op op_add (pe_op op_mul (pe_ix (ixK_list (K := K) rfl) (pv 0) pe_int (fun _ _ => rfl)) pe_int) pe_int) pe_int) (pg_sub (pv 0) pe_int set_list))
    (pss_one (ps_ret (pe_op op_modN (pe_op op_fdivN (pe_op op_mod (pe_op op_pow (pe_ix (ixK_list (K := K) rfl) (pv 0) pe_int (fun _ _ => rfl)) pe_int) pe_int) pe_int) (pv 1)))))), ?_⟩
    refine ⟨_, rfl, b, _, 0, .int g, rfl, rfl, SqL.of hb, rfl, g, 0, rfl, rfl, _, rfl, ite2 (fun h => ?_) (fun h => ?_)⟩
    · refine ⟨_, rfl, b, _, 0, .int g, rfl, rfl, SqL.of hb, rfl, _, rfl, g, m, rfl, rfl, (show m ≠ 0 by omega), ?_⟩
      refine ⟨_, rfl, b, _, 0, .int g, rfl, rfl, SqL.of hb, rfl, _, rfl, g, m, rfl, rfl, ⟨(show m ≠ 0 by omega), (show m.natAbs < 1073741824 by omega)⟩, _, rfl, b, _, 0, 0, rfl, rfl, hb, rfl, _, rfl, ?_⟩
      refine q _ _ (Int.fmod_nonneg_of_pos g m0) (Int.fmod_lt_of_pos g m0) ⟨fun a o n e => ?_, _, z, upd_same, ?_, z0, z1⟩
      · rw [upd_ne n]
        exact e
      · rw [Int.fdiv_eq_ediv_of_nonneg g (by omega)]
        exact Int.ediv_nonneg g0 (by omega)
    · refine ⟨_, rfl, b, _, 1, .int z, rfl, rfl, SqL.of hb, rfl, z, 69621, rfl, rfl, .inl ⟨by omega, by omega⟩, _, _, rfl, rfl, _, _, rfl, rfl, (by show (0 : Int) < 2147483647; decide), _, rfl, b, _, 1, 1, rfl, rfl, hb, rfl, ?_⟩
      have y0 : 0 ≤ (z * 69621 + 1299709) % 2147483647 := Int.emod_nonneg _ (by decide)
      have y1 : (z * 69621 + 1299709) % 2147483647 < 2147483647 := Int.emod_lt_of_pos _ (by decide)
      refine ⟨_, rfl, b, _, 1, .int ((z * 69621 + 1299709) % 2147483647), rfl, rfl, SqL.of upd_same, rfl, _, 3, rfl, rfl, ⟨by decide, by decide, (show ((z * 69621 + 1299709) % 2147483647).natAbs < 2 ^ 64 by omega)⟩, _, _, rfl, rfl, (by show (0 : Int) < 2147483629; decide), _, _, rfl, rfl, ⟨by decide, by decide⟩, _, rfl, _, m, rfl, rfl, (show m ≠ 0 by omega), ?_⟩
      refine q _ _ (Int.fmod_nonneg_of_pos _ m0) (Int.fmod_lt_of_pos _ m0) ⟨fun a o n e => ?_, _, (z * 69621 + 1299709) % 2147483647, upd_same, g0, y0, by omega⟩
      rw [upd_ne n]
      exact e
theorem pick {σ : L2.St} {H : Hp} {i : Nat} {b : Addr} {m : Int} {ta : TA} {vs : List V} (hi : σ[i]? = some (some (.ref b))) (hB : Bag H b) (hta : ∀ (H : Hp) (Q : List V → Hp → Prop), Q vs H → ta σ H Q) (hl : m = (vs.length : Int)) (h0 : 0 < m) (h1 : m ≤ 1000) (Q : VK)
    (q : ∀ (r : Nat) (v : V) (H' : Hp), r < vs.length → vs[r]? = some v → Kp b H H' → Q v H') : tOp (rIxL K) (tLst ta) (tCall spTake [] E0 (tCons (tVar i) (tCons (tC (.int m)) tNil))) σ H Q := by
  refine hta _ _ ⟨?_, fun L nL => ?_⟩
  · have e : sizeLine = 1073741824 ∨ 1000 ≤ sizeLine := .inr (by decide)
    rcases e with e | e <;> omega
  · have s1 : Same H (upd H L (.lst vs)) := same_upd nL
    have k1 : Kp b H (upd H L (.lst vs)) := Kp.of hB s1
    refine ⟨_, hi, b, m, rfl, k1.bag, h0, by omega, fun r H2 r0 r1 k2 => ?_⟩
    obtain ⟨r, rfl⟩ := Int.eq_ofNat_of_zero_le r0
    have hr : r < vs.length := by omega
    exact ⟨L, vs, (r : Nat), vs[r], rfl, rfl, SqL.of (k2.keep _ _ (hB.ne nL) upd_same), atI_nat (List.getElem?_eq_getElem hr), q r _ _ hr (List.getElem?_eq_getElem hr) (k1.trans k2)⟩

abbrev s_Lbag : Stmt := topS 39
abbrev n_Lbag : List Str := ["_law_script", "_law_at", "_law_cell", "_law_great", "_law_primes", "_law_mixed"]
abbrev p_Lbag : List Str := ["_law_script", "_law_at"]
theorem sc_Lbag : FnScope n_Lbag p_Lbag (defScope s_Lbag) := ⟨rfl, rfl, rfl, by decide +kernel, rfl, by decide +kernel, by decide +kernel⟩
def spBag (K : PySem.W.Frag) : Sp := fun vs H Q _ => ∃ (a : Addr) (ns : List Int) (i : Nat), vs = [.ref a, .int i] ∧ SqL K H a (ns.map V.int) ∧ ns.length ≤ 63 ∧ i < 100 ∧ ∀ (b : Addr) (H' : Hp), H b = none → Same H H' → Bag H' b → Q (.ref b) H'
def primes8 : List Int := [2147483647, 2147483629, 2147483587, 2147483579, 2147483563, 2147483549, 2147483543, 2147483497]
theorem primes_at (j : Nat) (h : j < 8) : ∃ p : Int, (primes8.map V.int)[j]? = some (.int p) ∧ 0 < p ∧ p < 2147483648 := by
  match j, h with
  | 0, _ => exact ⟨_, rfl, by decide, by decide⟩
  | 1, _ => exact ⟨_, rfl, by decide, by decide⟩
  | 2, _ => exact ⟨_, rfl, by decide, by decide⟩
  | 3, _ => exact ⟨_, rfl, by decide, by decide⟩
  | 4, _ => exact ⟨_, rfl, by decide, by decide⟩
  | 5, _ => exact ⟨_, rfl, by decide, by decide⟩
  | 6, _ => exact ⟨_, rfl, by decide, by decide⟩
  | 7, _ => exact ⟨_, rfl, by decide, by decide⟩
theorem d_Lbag (S : Src K mg "_law_bag" s_Lbag p_Lbag) (T : Txt K w mg) : Dn P w K mg base "_law_bag" 1 p_Lbag (spBag K) := by
  refine S.ok sc_Lbag (fun vs H Q E h => ?_) (fun f cdv A outer s H vs Q E hr h => ?_)
  · obtain ⟨a, ns, i, rfl, _⟩ := h
    rfl
  · obtain ⟨a, ns, i, rfl, hS, hl, hi, q⟩ := h
    refine ⟨_, (pss_cons (ps_set (i := 2) sc_Lbag.nd rfl (Or.inl rfl) pe_int)
    (C8.pss_cut (ps_if (pt_cmpR op_lt (pv 1) (pe_callB (lenK (K := K) rfl) (by rfl) T.n_len (by decide +kernel) (pa_cons (pv 0) pa_nil)) (nomark _)) (pss_one (ps_set (i := 2) sc_Lbag.nd rfl (Or.inl rfl) (pe_ix (ixK_list (K := K) rfl) (pv 0) (pv 1) (fun _ _ => rfl)))) pss_nil)
    (pss_cons (ps_set (i := 3) sc_Lbag.nd rfl (Or.inl rfl) pe_int)
    (C8.pss_cut (ps_if (pt_cmpR op_ge (pe_callB call_abs (by rfl) T.n_abs (by decide +kernel) (pa_cons (pv 2) pa_nil)) (pe_op op_pow pe_int pe_int) (nomark _)) (pss_one (ps_set (i := 3) sc_Lbag.nd rfl (Or.inl rfl) (pe_callB call_abs (by rfl) T.n_abs (by decide +kernel) (pa_cons (pv 2) pa_nil)))) pss_nil)
    (pss_cons (ps_set (i := 4) sc_Lbag.nd rfl (Or.inl rfl) (pe_lst (pa_cons pe_int (pa_cons pe_int (pa_cons pe_int (pa_cons pe_int (pa_cons pe_int (pa_cons pe_int (pa_cons pe_int (pa_cons pe_int pa_nil))))))))))
    (pss_cons (ps_set (i := 5) sc_Lbag.nd rfl (Or.inl rfl) (pe_op op_add (pe_op op_add (pe_op op_add (pe_op op_mul (pe_op op_mod (pv 2) pe_int) pe_int) (pe_op op_mul (pe_op op_mul pe_int (pv 1)) (pv 1))) (pe_op op_mul pe_int (pv 1))) pe_int))
    (pss_one (ps_ret (pe_lst (pa_cons (pv 3) (pa_cons (pe_op op_modN (pv 5) (pe_ix (ixK_list (K := K) rfl) (pv 4) (pe_op op_mod (pv 1) pe_int) (fun _ _ => rfl))) pa_nil))))))))))), ?_⟩
    refine ⟨fun σ' H' => ∃ c : Int, H = H' ∧ σ' = [some (.ref a), some (.int i), some (.int c), none, none, none], ?_, ?_⟩
    · refine ⟨_, rfl, _, rfl, a, _, rfl, .inl hS, i, _, rfl, rfl, _, rfl, ite2 (fun h => ?_) (fun h => ⟨_, rfl, rfl⟩)⟩
      have h' : i < ns.length := by
        have q := of_decide_eq_true h
        rw [List.length_map] at q
        omega
      exact ⟨_, rfl, _, rfl, a, _, i, _, rfl, rfl, hS, atI_nat (by rw [List.getElem?_map, List.getElem?_eq_getElem h']; rfl), _, rfl, rfl⟩
    rintro _ _ ⟨c, rfl, rfl⟩
    refine ⟨fun σ' H1 => ∃ d : Int, 0 ≤ d ∧ H = H1 ∧ σ' = [some (.ref a), some (.int i), some (.int c), some (.int d), none, none], ?_, ?_⟩
    · refine ⟨_, rfl, c, rfl, 10, 18, rfl, rfl, ⟨by decide, by decide, by decide⟩, _, _, rfl, rfl, _, rfl, ite2 (fun h => ⟨_, rfl, c, rfl, _, ?_, rfl, rfl⟩) (fun h => ⟨0, by decide, rfl, rfl⟩)⟩
      split <;> omega
    rintro _ _ ⟨d, d0, rfl, rfl⟩
    obtain ⟨p, hp, p0, p1⟩ := primes_at (i % 8) (Nat.mod_lt _ (by decide))
    refine ⟨by show 8 ≤ sizeLine; decide, fun r hr' => ?_⟩
    have e1 : ((i : Int) % 8) = ((i % 8 : Nat) : Int) := by omega
    have c0 : 0 ≤ c % 2147483647 := Int.emod_nonneg _ (by decide)
    have c1 : c % 2147483647 < 2147483647 := Int.emod_lt_of_pos _ (by decide)
    refine ⟨_, rfl, c, 2147483647, rfl, rfl, (by show (0 : Int) < 2147483647; decide), c % 2147483647, 48611, rfl, rfl, .inl ⟨by omega, by omega⟩, _, rfl, 90007, i, rfl, rfl, .inl ⟨by decide, by decide⟩, _, rfl, _, i, rfl, rfl, .inr ⟨by omega, by omega⟩, _, _, rfl, rfl, _, rfl, 6133, i, rfl, rfl, .inl ⟨by decide, by decide⟩, _, _, rfl, rfl, _, _, rfl, rfl, ?_⟩
    refine ⟨_, rfl, _, rfl, _, rfl, _, rfl, i, 8, rfl, rfl, (by show (0 : Int) < 8; decide), r, primes8.map V.int, _, .int p, rfl, rfl, SqL.of upd_same, at_of e1 hp, _, p, rfl, rfl, (show p ≠ 0 by omega), by show 2 ≤ sizeLine; decide, fun b hb => ?_⟩
    have hb' : H b = none := (same_upd hr').free hb
    refine q b _ hb' ((same_upd hr').trans (same_upd hb)) ⟨d, _, upd_same, d0, Int.fmod_nonneg_of_pos _ p0, ?_⟩
    exact Int.lt_trans (Int.fmod_lt_of_pos _ p0) p1

abbrev s_is_name : Stmt := topS 14
abbrev n_is_name : List Str := ["thing", "sign"]
abbrev p_is_name : List Str := ["thing"]
theorem sc_is_name : FnScope n_is_name p_is_name (defScope s_is_name) := ⟨rfl, rfl, rfl, by decide +kernel, rfl, by decide +kernel, by decide +kernel⟩
def spIsName (K : PySem.W.Frag) : Sp := fun vs H Q _ => ∃ (v : V) (o : Option Str), vs = [v] ∧ Thg K H v o ∧ ∀ H', Same H H' → Q (.bl (nmO o)) H'
theorem d_is_name (S : Src K mg "is_name" s_is_name p_is_name) (T : Txt K w mg) : Dn P w K mg base "is_name" 1 p_is_name (spIsName K) := by
  refine S.ok sc_is_name (fun vs H Q E h => ?_) (fun f cdv A outer s H vs Q E hr h => ?_)
  · obtain ⟨v, o, rfl, _⟩ := h
    rfl
  · obtain ⟨v, o, rfl, ht, q⟩ := h
    obtain ⟨_, g_LETTERS⟩ := T.g_LETTERS
    obtain ⟨_, g_MOST_SIGNS⟩ := T.g_MOST_SIGNS
    obtain ⟨a_WORDS, g_WORDS, h_WORDS⟩ := T.g_WORDS
    refine ⟨_, (pss_cons (ps_if (PW.pt (pw_or (pt_not (pt_val (pe_callB (isiK (K := K) rfl) (by rfl) T.n_isinstance (by decide +kernel) (pa_cons (pv 0) (pa_cons (pe_bltn (v := .ty "str") (by rfl) T.n_str (by decide +kernel) rfl) pa_nil))))) (pw_or1 (pt_not (pt_chain op_le op_le pe_int (pe_callB call_len_str (by rfl) T.n_len (by decide +kernel) (pa_cons (pv 0) pa_nil)) (pe_glob (v := .int _) (by rfl) g_MOST_SIGNS ⟨_, rfl⟩)))))) (pss_one (ps_ret pe_bl)) pss_nil)
    (pss_one (ps_ret (pe_and (pe_cmpR (notinK_seq (K := K) rfl) (pv 0) (pe_glob (v := .ref _) (by rfl) g_WORDS rfl) (by rfl)) (pe_one (pe_callB (allK (K := K) rfl rfl) (by rfl) T.n_all (by decide +kernel) (pa_cons (pe_lc (own := [("sign", 1)]) (g := gName 1) (tt := tYes) rfl sc_is_name.nd (pi_str (pv 0)) (blkOk_by (own := [("sign", 1)]) (N := n_is_name) (sc := defScope s_is_name) (by decide +kernel)) (fun _ _ _ _ _ => pg_name (i := 1) sc_is_name.nd rfl (Or.inl rfl)) (fun _ _ _ _ _ => pts_nil) (fun _ _ _ _ _ => (pe_cmpR op_in_sign (pv 1) (pe_glob (v := .str _) (by rfl) g_LETTERS ⟨_, rfl⟩) (by rfl)))) pa_nil))))))), ?_⟩
    have q0 : nmO o = false → Q (.bl false) H := fun e => by
      have h := q H (Same.refl H)
      rw [e] at h
      exact h
    obtain ⟨u, tu, ku⟩ := ht.isi
    refine ⟨_, rfl, _, _, _, _, _, rfl, .ty _, tu, ku, _, rfl, ?_⟩
    cases ht with
    | oth v T' t e => exact iteT (iteT (q0 rfl))
    | str z hz =>
      refine iteF ⟨_, rfl, z, rfl, Nat.le_trans hz (by decide), 1, _, rfl, rfl, _, rfl, ite2 (fun h1 => ?_) (fun h1 => ?_)⟩
      · refine ⟨_, 4, rfl, rfl, _, rfl, ?_⟩
        by_cases h2 : ((z.length : Nat) : Int) ≤ 4
        · rw [decide_eq_true h2]
          refine iteF ⟨_, rfl, a_WORDS, words3, rfl, .inr (h_WORDS _), rfl, rfl, !inV (.str z) words3, rfl, ite2 (fun h3 => ?_) (fun h3 => ?_)⟩
          · refine ⟨_, rfl, z, rfl, fun D nD => ?_⟩
            refine lc_map (sgns z) (z.cps.toList.map fun c => V.bl (isLet c)) walk_sgn rfl (by rw [sgns_length, List.length_map, Array.length_toList]; rfl) (by rw [sgns_length]; exact Nat.lt_of_le_of_lt hz (by decide)) nD (fun _ _ => trivial) ?_ ?_
            · intro j x y H' Q' sm hx hy k
              unfold sgns at hx
              rw [List.getElem?_map] at hx hy
              cases hc : z.cps.toList[j]? with
              | none =>
                rw [hc] at hx
                cases hx
              | some c =>
                rw [hc] at hx hy
                have ex : sgn c = x := Option.some.inj hx
                have ey : V.bl (isLet c) = y := Option.some.inj hy
                rw [← ey] at k
                rw [← ex]
                exact ⟨_, rfl, c, letS, rfl, rfl, k _ (fun _ _ _ e => e) fun _ e => e⟩
            · intro H' sm e
              refine ⟨_, z.cps.toList.map isLet, rfl, SqL.of (by rw [e, List.map_map]; rfl), ?_⟩
              have h := q H' sm
              have e2 : nmO (some z) = (z.cps.toList.map isLet).all id := by
                rw [all_id]
                show ((decide ((1 : Int) ≤ z.length) && decide ((z.length : Int) ≤ 4)) && (!inV (.str z) words3 && z.cps.toList.all isLet)) = _
                rw [h1, h3, decide_eq_true h2]
                rfl
              rw [e2] at h
              exact h
          · refine q0 ?_
            show ((decide ((1 : Int) ≤ z.length) && decide ((z.length : Int) ≤ 4)) && (!inV (.str z) words3 && z.cps.toList.all isLet)) = false
            rw [Bool.eq_false_iff.mpr h3]
            simp
        · rw [decide_eq_false h2]
          refine iteT (q0 ?_)
          show ((decide ((1 : Int) ≤ z.length) && decide ((z.length : Int) ≤ 4)) && (!inV (.str z) words3 && z.cps.toList.all isLet)) = false
          rw [decide_eq_false h2]
          simp
      · refine ⟨_, rfl, iteT (q0 ?_)⟩
        show ((decide ((1 : Int) ≤ z.length) && decide ((z.length : Int) ≤ 4)) && (!inV (.str z) words3 && z.cps.toList.all isLet)) = false
        rw [Bool.eq_false_iff.mpr h1]
        simp

abbrev s_is_number_word : Stmt := topS 15
abbrev n_is_number_word : List Str := ["word", "sign"]
abbrev p_is_number_word : List Str := ["word"]
theorem sc_is_number_word : FnScope n_is_number_word p_is_number_word (defScope s_is_number_word) := ⟨rfl, rfl, rfl, by decide +kernel, rfl, by decide +kernel, by decide +kernel⟩
def spIsNW : Sp := fun vs H Q _ => ∃ (z : Str), vs = [.str z] ∧ z.length ≤ 2000 ∧ ∀ H', Same H H' → Q (.bl (isNW z)) H'
theorem isNW_eq (z : Str) : isNW z = ((decide ((1 : Int) ≤ z.length) && decide ((z.length : Int) ≤ 3)) && z.cps.toList.all isDig && (decide (V.str z = V.str "0") || !decide (V.str ⟨#[z.cps.toList.headD 0]⟩ = V.str "0"))) := rfl
theorem d_is_number_word (S : Src K mg "is_number_word" s_is_number_word p_is_number_word) (T : Txt K w mg) : Dn P w K mg base "is_number_word" 1 p_is_number_word spIsNW := by
  refine S.ok sc_is_number_word (fun vs H Q E h => ?_) (fun f cdv A outer s H vs Q E hr h => ?_)
  · obtain ⟨z, rfl, _⟩ := h
    rfl
  · obtain ⟨z, rfl, hz, q⟩ := h
    obtain ⟨_, g_FIGURES⟩ := T.g_FIGURES
    obtain ⟨_, g_MOST_FIGURES⟩ := T.g_MOST_FIGURES
    refine ⟨_, (pss_cons (ps_if (PW.pt (pw_or (pt_not (pt_chain op_le op_le pe_int (pe_callB call_len_str (by rfl) T.n_len (by decide +kernel) (pa_cons (pv 0) pa_nil)) (pe_glob (v := .int _) (by rfl) g_MOST_FIGURES ⟨_, rfl⟩))) (pw_or1 (pt_not (pt_val (pe_callB (allK (K := K) rfl rfl) (by rfl) T.n_all (by decide +kernel) (pa_cons (pe_lc (own := [("sign", 1)]) (g := gName 1) (tt := tYes) rfl sc_is_number_word.nd (pi_str (pv 0)) (blkOk_by (own := [("sign", 1)]) (N := n_is_number_word) (sc := defScope s_is_number_word) (by decide +kernel)) (fun _ _ _ _ _ => pg_name (i := 1) sc_is_number_word.nd rfl (Or.inl rfl)) (fun _ _ _ _ _ => pts_nil) (fun _ _ _ _ _ => (pe_cmpR op_in_sign (pv 1) (pe_glob (v := .str _) (by rfl) g_FIGURES ⟨_, rfl⟩) (by rfl)))) pa_nil))))))) (pss_one (ps_ret pe_bl)) pss_nil)
    (pss_one (ps_ret (pe_or (pe_cmpR op_eq (pv 0) pe_str (nomark _)) (pe_one (pe_cmpR op_ne (pe_ix ix_str (pv 0) pe_int (fun _ _ => rfl)) pe_str (nomark _))))))), ?_⟩
    have q0 : isNW z = false → ∀ H', Same H H' → Q (.bl false) H' := fun e H' sm => by
      have h := q H' sm
      rw [e] at h
      exact h
    refine ⟨_, rfl, z, rfl, Nat.le_trans hz (by decide), 1, _, rfl, rfl, _, rfl, ite2 (fun h1 => ?_) (fun h1 => ⟨_, rfl, iteT (iteT (q0 (by rw [isNW_eq, Bool.eq_false_iff.mpr h1]; rfl) _ (Same.refl H)))⟩)⟩
    refine ⟨_, 3, rfl, rfl, _, rfl, ?_⟩
    by_cases h2 : ((z.length : Nat) : Int) ≤ 3
    · rw [decide_eq_true h2]
      refine iteF ⟨_, rfl, z, rfl, fun D nD => ?_⟩
      refine lc_map (sgns z) (z.cps.toList.map fun c => V.bl (isDig c)) walk_sgn rfl (by rw [sgns_length, List.length_map, Array.length_toList]; rfl) (by rw [sgns_length]; exact Nat.lt_of_le_of_lt hz (by decide)) nD (fun _ _ => trivial) ?_ ?_
      · intro j x y H' Q' sm hx hy k
        unfold sgns at hx
        rw [List.getElem?_map] at hx hy
        cases hc : z.cps.toList[j]? with
        | none =>
          rw [hc] at hx
          cases hx
        | some c =>
          rw [hc] at hx hy
          have ex : sgn c = x := Option.some.inj hx
          have ey : V.bl (isDig c) = y := Option.some.inj hy
          rw [← ey] at k
          rw [← ex]
          exact ⟨_, rfl, c, digS, rfl, rfl, k _ (fun _ _ _ e => e) fun _ e => e⟩
      · intro H' sm e
        refine ⟨_, z.cps.toList.map isDig, rfl, SqL.of (by rw [e, List.map_map]; rfl), _, rfl, ?_⟩
        rw [all_id]
        by_cases h3 : z.cps.toList.all isDig = true
        · rw [h3]
          refine iteF ⟨_, rfl, rfl, _, rfl, ite2 (fun h4 => ?_) (fun h4 => ?_)⟩
          · have h := q H' sm
            rw [isNW_eq, h1, decide_eq_true h2, h3, h4] at h
            exact h
          · have hl : 0 < z.cps.toList.length := by
              have h := of_decide_eq_true h1
              have e : z.cps.toList.length = z.length := Array.length_toList
              omega
            refine ⟨_, rfl, z, 0, z.cps.toList.headD 0, rfl, rfl, Nat.le_trans hz (by decide), ?_, rfl, ?_⟩
            · cases hc : z.cps.toList with
              | nil => rw [hc] at hl; cases hl
              | cons c r => exact atI_nat (j := 0) rfl
            · have h := q H' sm
              rw [isNW_eq, h1, decide_eq_true h2, h3, Bool.eq_false_iff.mpr h4] at h
              exact h
        · rw [Bool.eq_false_iff.mpr h3]
          exact iteT (q0 (by rw [isNW_eq, Bool.eq_false_iff.mpr h3, Bool.and_false, Bool.false_and]) _ sm)
    · rw [decide_eq_false h2]
      exact iteT (iteT (q0 (by rw [isNW_eq, decide_eq_false h2, Bool.and_false, Bool.false_and, Bool.false_and]) _ (Same.refl H)))

abbrev s_read_atom : Stmt := topS 16
abbrev n_read_atom : List Str := ["word"]
abbrev p_read_atom : List Str := ["word"]
theorem sc_read_atom : FnScope n_read_atom p_read_atom (defScope s_read_atom) := ⟨rfl, rfl, rfl, by decide +kernel, rfl, by decide +kernel, by decide +kernel⟩
def spReadAtom : Sp := fun vs H Q _ => ∃ (a : Atm), vs = [.str (atmT a)] ∧ atmOk a = true ∧ ∀ H', Same H H' → Q (atmV a) H'
theorem d_read_atom (S : Src K mg "read_atom" s_read_atom p_read_atom) (T : Txt K w mg) (D_is_name : Dn P w K mg base "is_name" 1 p_is_name (spIsName K)) (D_is_number_word : Dn P w K mg base "is_number_word" 1 p_is_number_word spIsNW) : Dn P w K mg base "read_atom" 2 p_read_atom spReadAtom := by
  refine S.ok sc_read_atom (fun vs H Q E h => ?_) (fun f cdv A outer s H vs Q E hr h => ?_)
  · obtain ⟨a, rfl, _⟩ := h
    rfl
  · obtain ⟨a, rfl, ha, q⟩ := h
    refine ⟨_, (pss_cons (ps_if (pt_val (pe_fn D_is_name (hr.mono (by decide)) (by rfl) (pa_cons (pv 0) pa_nil))) (pss_one (ps_ret (pv 0))) pss_nil)
    (pss_cons (ps_if (pt_val (pe_fn D_is_number_word (hr.mono (by decide)) (by rfl) (pa_cons (pv 0) pa_nil))) (pss_one (ps_ret (pe_callTy call_int_str (by rfl) T.n_int (by decide +kernel) (pa_cons (pv 0) pa_nil)))) pss_nil)
    (pss_one ps_never))), ?_⟩
    have hl : (atmT a).length ≤ 2000 := Nat.le_trans (atm_len ha) (by decide)
    refine ⟨_, rfl, _, some (atmT a), rfl, .str _ hl, fun H1 s1 => ⟨_, rfl, ?_⟩⟩
    cases a with
    | nm z =>
      have e : nmO (some (atmT (.nm z))) = true := ha
      rw [e]
      exact iteT ⟨_, rfl, q _ s1⟩
    | num n =>
      have hn := num_facts n (of_decide_eq_true ha)
      have e : nmO (some (atmT (.num n))) = false := hn.1
      rw [e]
      refine iteF ⟨_, rfl, numT n, rfl, hl, fun H2 s2 => ⟨_, rfl, ?_⟩⟩
      rw [hn.2.1]
      exact iteT ⟨_, rfl, numT n, n, rfl, hn.2.2.1, Nat.le_trans hn.2.2.2.1 (by decide), q _ (s1.trans s2)⟩

abbrev s_marked_words : Stmt := topS 17
abbrev n_marked_words : List Str := ["text", "words", "at"]
abbrev p_marked_words : List Str := ["text"]
theorem sc_marked_words : FnScope n_marked_words p_marked_words (defScope s_marked_words) := ⟨rfl, rfl, rfl, by decide +kernel, rfl, by decide +kernel, by decide +kernel⟩
def mwD (s : Sm) : List PyData := (smM s).map fun q => .tuple [.str (mkT q.1), .str (atmT q.2)]
theorem noLs_mwD (s : Sm) : noLs (mwD s) = true := noLs_map _ (fun q => by simp [noL, noLs]) _
def spMarked (K : PySem.W.Frag) : Sp := fun vs H Q _ => ∃ (s : Sm), vs = [.str (sumT s)] ∧ SmOk s ∧ ∀ (p : Addr) (rs : List V) (H' : Hp), H p = none → Same H H' → H' p = some (.lst rs) → DpAll K H' rs (mwD s) → Q (.ref p) H'
theorem rg2 : ∀ n : Nat, n ≤ 8 → (2 : Int) ≠ 0 ∧ (2 : Int).natAbs < 1073741824 ∧ Builtin.Range.small 0 (2 * (n : Int)) 2 = true ∧ Builtin.Range.rangeSize 0 (2 * (n : Int)) 2 = n := by decide +kernel
theorem headNeg_words {s : Sm} (h : SmOk s) : if headNeg s then wordsS s = flatM (smM s) ∧ (wordsS s)[0]? = some ("-" : Str) else flatM (smM s) = ("+" : Str) :: wordsS s ∧ ∃ (w : Str) (r : List Str), wordsS s = w :: r ∧ w ≠ ("-" : Str) := by
  cases s with
  | nil => exact absurd rfl h.ne
  | cons p r =>
    have hp := h.ok p List.mem_cons_self
    unfold prdOk at hp
    simp only [Bool.and_eq_true] at hp
    by_cases hn : p.neg = true
    · have e : headNeg (p :: r) = true := hn
      rw [e, if_pos rfl]
      have e1 : wordsS (p :: r) = flatM (smM (p :: r)) := by unfold wordsS; rw [e, if_pos rfl]
      refine ⟨e1, ?_⟩
      rw [e1]
      show some (sgT p.neg) = _
      rw [hn]
      rfl
    · have e : headNeg (p :: r) = false := Bool.eq_false_iff.mpr hn
      rw [e, if_neg Bool.false_ne_true]
      have e1 : wordsS (p :: r) = (flatM (smM (p :: r))).tail := by unfold wordsS; rw [e, if_neg Bool.false_ne_true]
      have e2 : flatM (smM (p :: r)) = sgT p.neg :: (flatM (smM (p :: r))).tail := rfl
      refine ⟨?_, atmT p.fst, (flatM (smM (p :: r))).tail.tail, ?_, fun q => ?_⟩
      · rw [e1]
        rw [show sgT p.neg = "+" by rw [show p.neg = false from e]; rfl] at e2
        exact e2
      · rw [e1]; rfl
      · exact atm_no45 hp.1 (by rw [q]; decide +kernel)
theorem d_marked_words (S : Src K mg "marked_words" s_marked_words p_marked_words) (T : Txt K w mg) : Dn P w K mg base "marked_words" 1 p_marked_words (spMarked K) := by
  refine S.ok sc_marked_words (fun vs H Q E h => ?_) (fun f cdv A outer s H vs Q E hr h => ?_)
  · obtain ⟨a, rfl, _⟩ := h
    rfl
  · obtain ⟨sm, rfl, ok, q⟩ := h
    obtain ⟨_, g_MOST_ATOMS⟩ := T.g_MOST_ATOMS
    refine ⟨_, (pss_cons (ps_set (i := 1) sc_marked_words.nd rfl (Or.inr rfl) (pe_split (pv 0) pe_str))
    (C8.pss_cut (ps_if (pt_cmpR op_ne (pe_ix (ixK_list (K := K) rfl) (pv 1) pe_int (fun _ _ => rfl)) pe_str (nomark _)) (pss_one (ps_set (i := 1) sc_marked_words.nd rfl (Or.inr rfl) (pe_op op_cat (pe_lst (pa_cons pe_str pa_nil)) (pv 1)))) pss_nil)
    (pss_cons (ps_if (PW.pt (pw_or (pt_cmpR op_gt (pe_callB (lenK (K := K) rfl) (by rfl) T.n_len (by decide +kernel) (pa_cons (pv 1) pa_nil)) (pe_op op_mul pe_int (pe_glob (v := .int _) (by rfl) g_MOST_ATOMS ⟨_, rfl⟩)) (nomark _)) (pw_or1 (pt_cmpR op_ne (pe_op op_mod (pe_callB (lenK (K := K) rfl) (by rfl) T.n_len (by decide +kernel) (pa_cons (pv 1) pa_nil)) pe_int) pe_int (nomark _))))) (pss_one ps_never) pss_nil)
    (pss_one (ps_ret (pe_lc (own := [("at", 2)]) (g := gName 2) (tt := tYes) rfl sc_marked_words.nd (pi_range3 (by rfl) T.n_range (pa_cons pe_int (pa_cons (pe_callB (lenK (K := K) rfl) (by rfl) T.n_len (by decide +kernel) (pa_cons (pv 1) pa_nil)) (pa_cons pe_int pa_nil)))) (blkOk_by (own := [("at", 2)]) (N := n_marked_words) (sc := defScope s_marked_words) (by decide +kernel)) (fun _ _ _ _ _ => pg_name (i := 2) sc_marked_words.nd rfl (Or.inl rfl)) (fun _ _ _ _ _ => pts_nil) (fun _ _ _ _ _ => (pe_tup (pa_cons (pe_ix (ixK_list (K := K) rfl) (pv 1) (pv 2) (fun _ _ => rfl)) (pa_cons (pe_ix (ixK_list (K := K) rfl) (pv 1) (pe_op op_add (pv 2) pe_int) (fun _ _ => rfl)) pa_nil)))))))))), ?_⟩
    have hl := sumT_len ok
    have hw := headNeg_words ok
    have hn : (flatM (smM sm)).length = 2 * smN sm := by rw [flatM_length, smM_length]
    have h8 := ok.n
    refine ⟨_, rfl, ⟨_, rfl⟩, _, _, rfl, rfl, rfl, Nat.le_trans (Nat.add_le_add_right hl 2) (by decide), fun W nW => ?_⟩
    rw [split_sumT ok]
    have s1 : Same H (upd H W (.lst ((wordsS sm).map V.str))) := same_upd nW
    have e1 : upd H W (.lst ((wordsS sm).map V.str)) W = some (.lst ((wordsS sm).map V.str)) := upd_same
    generalize upd H W (.lst ((wordsS sm).map V.str)) = H1 at s1 e1 ⊢
    refine ⟨fun σ' H' => ∃ L, σ' = [some (.str (sumT sm)), some (.ref L), none] ∧ Same H1 H' ∧ H' L = some (.lst ((flatM (smM sm)).map V.str)), ?_, ?_⟩
    · by_cases hh : headNeg sm = true
      · rw [hh, if_pos rfl] at hw
        refine ⟨_, rfl, W, _, 0, .str "-", rfl, rfl, SqL.of e1, atI_nat (j := 0) (by rw [List.getElem?_map, hw.2]; rfl), rfl, _, rfl, ?_⟩
        rw [decide_eq_true rfl]
        exact iteF ⟨W, rfl, Same.refl _, by rw [e1, hw.1]⟩
      · rw [Bool.eq_false_iff.mpr hh, if_neg Bool.false_ne_true] at hw
        obtain ⟨hf, u, r, er, hu⟩ := hw
        refine ⟨_, rfl, W, _, 0, .str u, rfl, rfl, SqL.of e1, atI_nat (j := 0) (by rw [er]; rfl), rfl, _, rfl, ?_⟩
        rw [decide_eq_false (fun e => hu (V.str.inj e))]
        refine iteT ⟨by show 1 ≤ sizeLine; decide, fun M nM => ?_⟩
        generalize e2 : upd H1 M _ = H2
        have s2 : Same H1 H2 := e2 ▸ same_upd nM
        have h2 : H2 M = some (.lst [.str "+"]) := e2 ▸ upd_same
        refine ⟨_, rfl, M, W, _, _, rfl, rfl, h2, s2 _ _ e1, ?_, fun N nN => ⟨N, rfl, s2.trans (same_upd nN), ?_⟩⟩
        · rw [List.length_map]
          have : (flatM (smM sm)).length = (wordsS sm).length + 1 := by rw [hf]; rfl
          exact Nat.le_trans (show [V.str "+"].length + (wordsS sm).length ≤ 17 by show 1 + _ ≤ 17; omega) (by decide)
        · rw [upd_same, hf]
          rfl
    · rintro σ' H2 ⟨L, rfl, s2, h2⟩
      have hlen : ((flatM (smM sm)).map V.str).length = 2 * smN sm := by rw [List.length_map, hn]
      refine ⟨_, rfl, L, _, rfl, .inl (SqL.of h2), 2, 8, rfl, rfl, .inl ⟨by decide, by decide⟩, _, _, rfl, rfl, _, rfl, ?_⟩
      rw [hlen, decide_eq_false (show ¬ (2 * 8 : Int) < ((2 * smN sm : Nat) : Int) by omega)]
      refine iteF ⟨_, rfl, L, _, rfl, .inl (SqL.of h2), _, _, rfl, rfl, (by show (0 : Int) < 2; decide), rfl, _, rfl, ?_⟩
      rw [hlen]
      refine iteNS (show V.int (((2 * smN sm : Nat) : Int) % 2) = V.int 0 by congr 1; omega) ⟨_, rfl, L, _, rfl, .inl (SqL.of h2), 0, 2 * (smN sm : Int), 2, smN sm, by rw [hlen]; rfl, rg2 _ h8, fun D nD => ?_⟩
      refine lc_dp (K := K) walk_rangeC (mwD sm) (by unfold mwD; rw [List.length_map, smM_length]) (noLs_mwD sm) (Nat.lt_of_le_of_lt h8 (by decide)) nD (fun _ _ => trivial) ?_ ?_
      · rintro j x d H3 H4 C hj s3 ⟨rfl, rfl⟩ hd k
        have hq : ∃ q, (smM sm)[j]? = some q ∧ d = .tuple [.str (mkT q.1), .str (atmT q.2)] := by
          unfold mwD at hd
          rw [List.getElem?_map] at hd
          cases e : (smM sm)[j]? with
          | none => rw [e] at hd; cases hd
          | some q =>
            rw [e] at hd
            exact ⟨q, rfl, (Option.some.inj hd).symm⟩
        obtain ⟨q, eq, rfl⟩ := hq
        obtain ⟨f1, f2⟩ := flatM_at _ _ _ eq
        have h3 := SqL.of (K := K) (s3 _ _ h2)
        refine ⟨_, rfl, _, rfl, L, _, ((2 * j : Nat) : Int), .str (mkT q.1), rfl, ?_, h3, atI_nat (by rw [List.getElem?_map, f1]; rfl), _, rfl, _, rfl, _, 1, rfl, rfl, L, _, ((2 * j + 1 : Nat) : Int), .str (atmT q.2), rfl, ?_, h3, atI_nat (by rw [List.getElem?_map, f2]; rfl), by show 2 ≤ sizeLine; decide, fun p np => k _ _ (.tup (SqT.of upd_same) (.cons (.str _) (.cons (.str _) .nil))) (same_upd np)⟩
        · show V.int (0 + (j : Int) * 2) = V.int ((2 * j : Nat) : Int)
          congr 1
          omega
        · show V.int (0 + (j : Int) * 2 + 1) = V.int ((2 * j + 1 : Nat) : Int)
          congr 1
          omega
      · intro H3 rs s3 e3 dp
        exact q D rs H3 ((s1.trans s2).free nD) (s1.trans (s2.trans s3)) e3 dp

abbrev s_read_sum : Stmt := topS 18
abbrev n_read_sum : List Str := ["text", "products", "mark", "word", "atom", "sign", "pairs"]
abbrev p_read_sum : List Str := ["text"]
theorem sc_read_sum : FnScope n_read_sum p_read_sum (defScope s_read_sum) := ⟨rfl, rfl, rfl, by decide +kernel, rfl, by decide +kernel, by decide +kernel⟩
def spReadSum (K : PySem.W.Frag) : Sp := fun vs H Q _ => ∃ (s : Sm), vs = [.str (sumT s)] ∧ SmOk s ∧ ∀ (v : V) (H' : Hp), Same H H' → Dp K H' v (smD s) → Q v H'
/-- a product in the making: a tuple that holds a list, which is neither of two -/
def PrdAt (K : PySem.W.Frag) (PL L : Addr) (H : Hp) (v : V) (q : Prd) : Prop :=
  ∃ t l ls, v = .ref t ∧ H t = some (.tup [.int (sgI q.neg), atmV q.fst, .ref l]) ∧ H l = some (.lst ls) ∧ DpAll K H ls (q.prs.map prD) ∧ l ≠ PL ∧ l ≠ L
theorem PrdAt.mono {K : PySem.W.Frag} {PL L L' X : Addr} {H H' : Hp} {v : V} {q : Prd} {xs : List V} (h : PrdAt K PL L H v q) (hX : ∀ u, H X = some u → ∃ xs, u = .lst xs) (hx : X = PL ∨ X = L ∨ H X = none) (k : ∀ a o, a ≠ X → H a = some o → H' a = some o) (t : TK K H H')
    (hl : ∀ l o, H l = some o → l ≠ L → l ≠ L') : PrdAt K PL L' H' v q := by
  obtain ⟨t', l, ls, e1, e2, e3, e4, e5, e6⟩ := h
  have nt : t' ≠ X := fun e => by
    obtain ⟨xs, h⟩ := hX _ (e ▸ e2)
    cases h
  have nl : l ≠ X := fun e => by
    rcases hx with h | h | h
    · exact e5 (e.trans h)
    · exact e6 (e.trans h)
    · rw [← e, e3] at h
      cases h
  exact ⟨t', l, ls, e1, k _ _ nt e2, k _ _ nl e3, DpAll.tk t _ _ (noLs_map prD noL_pr _) e4, e5, hl _ _ e3 e6⟩
theorem paired_at {α β : Type} {F : α → β → Prop} : ∀ {xs : List α} {ys : List β} {j : Nat} {x : α} {y : β}, Paired F xs ys → xs[j]? = some x → ys[j]? = some y → F x y
  | _, _, _, _, _, .nil, h, _ => by simp at h
  | _, _, 0, _, _, .cons h _, e, e' => by
    have e1 := Option.some.inj e
    have e2 := Option.some.inj e'
    rw [← e1, ← e2]
    exact h
  | _, _, j + 1, _, _, .cons _ t, e, e' => paired_at (j := j) t (by simpa using e) (by simpa using e')
theorem gTup3_mono {K : PySem.W.Frag} {i j k : Nat} {σ : L2.St} (x : V) (H' : Hp) (C C' : L2.St → Hp → Prop) (h : ∀ s h, C s h → C' s h) (q : gTup K 3 (gCons (gName i) (gCons (gName j) (gCons (gName k) gNil))) x σ H' C) :
    gTup K 3 (gCons (gName i) (gCons (gName j) (gCons (gName k) gNil))) x σ H' C' := by
  obtain ⟨a, xs, e1, e2, e3, v, r, e4, v', r', e5, v2, r2, e6, e7, q⟩ := q
  exact ⟨a, xs, e1, e2, e3, v, r, e4, v', r', e5, v2, r2, e6, e7, h _ _ q⟩
theorem d_read_sum (S : Src K mg "read_sum" s_read_sum p_read_sum) (T : Txt K w mg) (D_marked_words : Dn P w K mg base "marked_words" 1 p_marked_words (spMarked K)) (D_read_atom : Dn P w K mg base "read_atom" 2 p_read_atom spReadAtom) : Dn P w K mg base "read_sum" 3 p_read_sum (spReadSum K) := by
  refine S.ok sc_read_sum (fun vs H Q E h => ?_) (fun f cdv A outer s H vs Q E hr h => ?_)
  · obtain ⟨a, rfl, _⟩ := h
    rfl
  · obtain ⟨sm, rfl, ok, q⟩ := h
    obtain ⟨a_JOINTS, g_JOINTS, h_JOINTS⟩ := T.g_JOINTS
    obtain ⟨a_SIGNS, es_SIGNS, nn_SIGNS, g_SIGNS, h_SIGNS⟩ := T.g_SIGNS
    refine ⟨_, (pss_cons (ps_if (pt_not (pt_val (pe_callB (isiK (K := K) rfl) (by rfl) T.n_isinstance (by decide +kernel) (pa_cons (pv 0) (pa_cons (pe_bltn (v := .ty "str") (by rfl) T.n_str (by decide +kernel) rfl) pa_nil))))) (pss_one ps_never) pss_nil)
    (pss_cons (ps_set (i := 1) sc_read_sum.nd rfl (Or.inl rfl) (pe_lst pa_nil))
    (pss_cons (ps_for PassesOwn.never rfl (piK_list (K := K) rfl (pe_fn D_marked_words (hr.mono (by decide)) (by rfl) (pa_cons (pv 0) pa_nil))) (pgK_tup (K := K) (n := 2) rfl rfl (pgs_cons (pg_name (i := 2) sc_read_sum.nd rfl (Or.inl rfl)) (pgs_cons (pg_name (i := 3) sc_read_sum.nd rfl (Or.inl rfl)) pgs_nil)))
    (pss_cons (ps_set (i := 4) sc_read_sum.nd rfl (Or.inl rfl) (pe_fn D_read_atom (hr.mono (by decide)) (by rfl) (pa_cons (pv 3) pa_nil)))
    (pss_one (ps_if (pt_cmpR (op_in_kd (h_SIGNS).1) (pv 2) (pe_glob (v := .ref _) (by rfl) g_SIGNS rfl) (by rfl)) (pss_one (ps_expr (pe_bm PySem.F.plainAttrs_list PySem.F.slot_list_append PySem.F.type_list_append mt_append (pv 1) (pa_cons (pe_tup (pa_cons (pe_ix (ixK_kd (K := K) (w := w) rfl rfl) (pe_glob (v := .ref _) (by rfl) g_SIGNS rfl) (pv 2) (fun _ _ => rfl)) (pa_cons (pv 4) (pa_cons (pe_lst pa_nil) pa_nil)))) pa_nil)))) (pss_one (ps_if (pt_cmpR (inK_seq (K := K) rfl) (pv 2) (pe_glob (v := .ref _) (by rfl) g_JOINTS rfl) (by rfl)) (pss_one (ps_expr (pe_bm PySem.F.plainAttrs_list PySem.F.slot_list_append PySem.F.type_list_append mt_append (pe_ix (ixK_tup (K := K) rfl) (pe_ix (ixK_list (K := K) rfl) (pv 1) (pe_un un_neg pe_int) (fun _ _ => rfl)) pe_int (fun _ _ => rfl)) (pa_cons (pe_tup (pa_cons (pv 2) (pa_cons (pv 4) pa_nil))) pa_nil)))) (pss_one ps_never)))))))
    (pss_one (ps_ret (pe_callTy (tupleK (K := K) rfl) (by rfl) T.n_tuple (by decide +kernel) (pa_cons (pe_lc (own := [("sign", 5), ("atom", 4), ("pairs", 6)]) (g := (gTup K 3 (gCons (gName 5) (gCons (gName 4) (gCons (gName 6) gNil))))) (tt := tYes) rfl sc_read_sum.nd (piK_list (K := K) rfl (pv 1)) (blkOk_by (own := [("sign", 5), ("atom", 4), ("pairs", 6)]) (N := n_read_sum) (sc := defScope s_read_sum) (by decide +kernel)) (fun _ _ _ _ _ => pgK_tup (K := K) (n := 3) rfl rfl (pgs_cons (pg_name (i := 5) sc_read_sum.nd rfl (Or.inl rfl)) (pgs_cons (pg_name (i := 4) sc_read_sum.nd rfl (Or.inl rfl)) (pgs_cons (pg_name (i := 6) sc_read_sum.nd rfl (Or.inl rfl)) pgs_nil)))) (fun _ _ _ _ _ => pts_nil) (fun _ _ _ _ _ => (pe_tup (pa_cons (pv 5) (pa_cons (pv 4) (pa_cons (pe_callTy (tupleK (K := K) rfl) (by rfl) T.n_tuple (by decide +kernel) (pa_cons (pv 6) pa_nil)) pa_nil)))))) pa_nil))))))), ?_⟩
    refine ⟨_, rfl, _, _, _, _, true, rfl, .ty _, .base (.str _), kit_ty (by decide +kernel), _, rfl, iteF ⟨Nat.zero_le _, fun PL nPL => ?_⟩⟩
    generalize e1 : upd H PL _ = H1
    have s1 : Same H H1 := e1 ▸ same_upd nPL
    have h1 : H1 PL = some (.lst []) := e1 ▸ upd_same
    refine ⟨_, rfl, sm, rfl, ok, fun M rs H2 nM s2 hM dM => ?_⟩
    have nMPL : M ≠ PL := fun e => by
      rw [e, h1] at nM
      cases nM
    have lrs := DpAll.length dM
    have lmw : (mwD sm).length = (smM sm).length := by unfold mwD; rw [List.length_map]
    refine ⟨M, rfl, ⟨_, SqL.of hM⟩, for_list (K := K) (a := M) (xs := rs) (fun k σ H' => ∃ (acc : Sm) (ps : List V) (L : Addr) (v2 v3 v4 v5 v6 : Option V), σ = [some (.str (sumT sm)), some (.ref PL), v2, v3, v4, v5, v6] ∧ acc = ((smM sm).take k).foldl stepP [] ∧
        Same H H' ∧ H' M = some (.lst rs) ∧ DpAll K H' rs (mwD sm) ∧ H' PL = some (.lst ps) ∧ ps.length ≤ k ∧
        ((acc = [] ∧ ps = [] ∧ k = 0) ∨ ∃ init p pinit t ls, acc = init ++ [p] ∧ ps = pinit ++ [.ref t] ∧ H' t = some (.tup [.int (sgI p.neg), atmV p.fst, .ref L]) ∧ H' L = some (.lst ls) ∧ ls.length ≤ k ∧ DpAll K H' ls (p.prs.map prD) ∧ L ≠ PL ∧ L ≠ M ∧ H L = none ∧ Paired (PrdAt K PL L H') pinit init))
      ⟨[], [], PL, _, _, _, _, _, rfl, rfl, s1.trans s2, hM, dM, s2 _ _ h1, Nat.le_refl _, .inl ⟨rfl, rfl, rfl⟩⟩ (fun k σ H' _ ⟨_, _, _, _, _, _, _, _, _, _, _, h, _⟩ => SqL.of h) ?_ ?_⟩
    · rintro k x σ H3 hx ⟨acc, ps, L, v2, v3, v4, v5, v6, rfl, hacc, s3, h3M, d3, h3P, lps, hst⟩
      have hk : k < (smM sm).length := by
        have := (List.getElem?_eq_some_iff.mp hx).1
        omega
      have hk8 : k < 8 := by
        have := ok.n
        rw [smM_length] at hk
        omega
      obtain ⟨d, hd, dx⟩ := DpAll.getV d3 hx
      have hq : (smM sm)[k]? = some (smM sm)[k] := List.getElem?_eq_getElem hk
      have okq : atmOk (smM sm)[k].2 = true := okM_of ok.ok _ (List.getElem_mem hk)
      have htake : (smM sm).take (k + 1) = (smM sm).take k ++ [(smM sm)[k]] := by rw [List.take_add_one, hq]; rfl
      generalize (smM sm)[k] = qk at hq okq htake
      have ed : d = .tuple [.str (mkT qk.1), .str (atmT qk.2)] := by
        unfold mwD at hd
        rw [List.getElem?_map, hq] at hd
        exact (Option.some.inj hd).symm
      subst ed
      have hacc' : ((smM sm).take (k + 1)).foldl stepP [] = stepP acc qk := by rw [htake, List.foldl_append, ← hacc]; rfl
      obtain ⟨mk, at_⟩ := qk
      cases dx with
      | tup st da =>
        cases da with
        | cons da1 da2 =>
          cases da1
          cases da2 with
          | cons da3 da4 =>
            cases da3
            cases da4
            rename_i tq
            refine ⟨tq, _, rfl, st, rfl, _, _, rfl, _, _, rfl, rfl, ?_⟩
            refine ⟨_, rfl, at_, rfl, okq, fun H4 s4 => ?_⟩
            cases mk with
            | sg b =>
              have hsg : ∃ t, PySem.W.nsIn K a_SIGNS (sgT b) = some (some (.int (sgI b) t)) := by
                cases b with
                | true => exact h_SIGNS.2.2.1
                | false => exact h_SIGNS.2.1
              obtain ⟨tk, hsg⟩ := hsg
              refine ⟨_, rfl, sgT b, _, rfl, rfl, hsg, _, rfl, iteT ?_⟩
              have h4P := s4 _ _ h3P
              refine ⟨_, rfl, .inl ⟨rfl, _, SqL.of h4P⟩, _, rfl, a_SIGNS, sgT b, .int (sgI b), rfl, rfl, ⟨_, _, _, h_SIGNS.1.at_, h_SIGNS.1.lit, hsg, ⟨_, rfl⟩⟩, _, rfl, Nat.zero_le _, fun L' nL' => ⟨by show 3 ≤ sizeLine; decide, fun t nt => ?_⟩⟩
              have s5 := same_upd (o := .lst []) nL'
              have s6 := same_upd (o := .tup [.int (sgI b), atmV at_, .ref L']) nt
              generalize e5 : upd H4 L' _ = H5 at s5 nt s6 ⊢
              have h5L : H5 L' = some (.lst []) := e5 ▸ upd_same
              generalize e6 : upd H5 t _ = H6 at s6 ⊢
              have h6t : H6 t = some (.tup [.int (sgI b), atmV at_, .ref L']) := e6 ▸ upd_same
              have s36 : Same H3 H6 := s4.trans (s5.trans s6)
              have h6P := s36 _ _ h3P
              have nL3 : H3 L' = none := s4.free nL'
              have nLP : L' ≠ PL := (ne_of_none h3P nL3).symm
              have nLM : L' ≠ M := (ne_of_none h3M nL3).symm
              have ntP : t ≠ PL := (ne_of_none (s5 _ _ (s4 _ _ h3P)) nt).symm
              have tkk : TK K H3 (upd H6 PL (.lst (ps ++ [.ref t]))) := TK.trans (Same.tk s36) (tk_lst h6P)
              refine ⟨PL, ps, .ref t, rfl, rfl, h6P, Nat.lt_of_le_of_lt (show ps.length ≤ 8 by omega) (by decide), acc ++ [⟨b, at_, []⟩], ps ++ [.ref t], L', _, _, _, _, _, rfl, hacc'.symm, same_put (s3.trans s36) nPL, ?_, DpAll.tk tkk _ _ (noLs_mwD sm) d3, upd_same, by rw [List.length_append]; show ps.length + 1 ≤ k + 1; omega, .inr ⟨acc, ⟨b, at_, []⟩, ps, t, [], rfl, rfl, ?_, ?_, Nat.zero_le _, .nil, nLP, nLM, s3.free nL3, ?_⟩⟩
              · rw [upd_ne nMPL]
                exact s36 _ _ h3M
              · rw [upd_ne ntP]
                exact h6t
              · rw [upd_ne nLP]
                exact s6 _ _ h5L
              · have all3 : Paired (PrdAt K PL PL H3) ps acc := by
                  rcases hst with ⟨rfl, rfl, _⟩ | ⟨init, p, pinit, t0, ls, rfl, rfl, f1, f2, _, f3, f4, f5, f6, f7⟩
                  · exact .nil
                  · exact Paired.snoc (Paired.mapP f7 fun v q h => by
                      obtain ⟨a1, a2, a3, b1, b2, b3, b4, b5, b6⟩ := h
                      exact ⟨a1, a2, a3, b1, b2, b3, b4, b5, b5⟩) ⟨t0, L, ls, rfl, f1, f2, f3, f4, f4⟩
                refine Paired.mapP all3 fun v q h => PrdAt.mono (X := PL) (xs := []) h (fun u hu => ?_) (.inl rfl) (fun a o na ea => ?_) tkk (fun l o hl _ => ne_of_none hl nL3)
                · rw [h3P] at hu
                  exact ⟨_, (Option.some.inj hu).symm⟩
                · rw [upd_ne na]
                  exact s36 _ _ ea
            | jn b =>
              have hjn : PySem.W.nsIn K a_SIGNS (jS b) = some none := by
                cases b with
                | true => exact h_SIGNS.2.2.2.1
                | false => exact h_SIGNS.2.2.2.2
              refine ⟨_, rfl, jS b, _, rfl, rfl, hjn, _, rfl, iteF ?_⟩
              have hin : inV (.str (jS b)) [.str "*", .str "//"] = true := by cases b <;> decide +kernel
              refine ⟨_, rfl, a_JOINTS, _, rfl, .inr (h_JOINTS _), rfl, rfl, _, rfl, ?_⟩
              refine (show (if (if false = true then !inV (V.str (jS b)) [.str "*", .str "//"] else inV (V.str (jS b)) [.str "*", .str "//"]) = true then _ else _) from ?_)
              rw [if_neg Bool.false_ne_true, hin]
              refine iteT ?_
              rcases hst with ⟨rfl, rfl, rfl⟩ | ⟨init, p, pinit, t0, ls, rfl, rfl, f1, f2, fl, f3, f4, f5, f6, f7⟩
              · exfalso
                cases sm with
                | nil => exact ok.ne rfl
                | cons p r =>
                  have e : (Mk2.sg p.neg, p.fst) = (Mk2.jn b, at_) := Option.some.inj hq
                  cases e
              have h4P := s4 _ _ h3P
              have h4t := s4 _ _ f1
              have h4L := s4 _ _ f2
              refine ⟨_, rfl, 1, rfl, PL, _, -1, .ref t0, rfl, rfl, SqL.of h4P, atI_last _ _, t0, _, 2, .ref L, rfl, rfl, SqT.of h4t, atI_nat (j := 2) rfl, .inl ⟨rfl, _, SqL.of h4L⟩, _, rfl, _, rfl, by show 2 ≤ sizeLine; decide, fun u nu => ?_⟩
              generalize e5 : upd H4 u _ = H5
              have s5 : Same H4 H5 := e5 ▸ same_upd nu
              have h5u : H5 u = some (.tup [.str (jS b), atmV at_]) := e5 ▸ upd_same
              have s35 : Same H3 H5 := s4.trans s5
              have h5L := s35 _ _ f2
              have nuL : u ≠ L := (ne_of_none h4L nu).symm
              have tkk : TK K H3 (upd H5 L (.lst (ls ++ [.ref u]))) := TK.trans (Same.tk s35) (tk_lst h5L)
              refine ⟨L, ls, .ref u, rfl, rfl, h5L, Nat.lt_of_le_of_lt (show ls.length ≤ 8 by omega) (by decide), stepP (init ++ [p]) (.jn b, at_), pinit ++ [.ref t0], L, _, _, _, _, _, rfl, hacc'.symm, same_put (s3.trans s35) f6, ?_, DpAll.tk tkk _ _ (noLs_mwD sm) d3, ?_, Nat.le_succ_of_le lps, .inr ⟨init, ⟨p.neg, p.fst, p.prs ++ [(b, at_)]⟩, pinit, t0, ls ++ [.ref u], stepP_jn _ _ _ _, rfl, ?_, upd_same, by rw [List.length_append]; show ls.length + 1 ≤ k + 1; omega, ?_, f4, f5, f6, ?_⟩⟩
              · rw [upd_ne f5.symm]
                exact s35 _ _ h3M
              · rw [upd_ne f4.symm]
                exact s35 _ _ h3P
              · rw [upd_ne (fun e => by rw [e, f2] at f1; cases f1)]
                exact s35 _ _ f1
              · rw [List.map_append]
                refine DpAll.append (DpAll.tk tkk _ _ (noLs_map prD noL_pr _) f3) (.cons (.tup (SqT.of ?_) (.cons (.str _) (.cons (atmD_dp _) .nil))) .nil)
                rw [upd_ne nuL]
                exact h5u
              · refine Paired.mapP f7 fun v q h => PrdAt.mono (X := L) (xs := []) h (fun u hu => ?_) (.inr (.inl rfl)) (fun a o na ea => ?_) tkk (fun l o hl n => n)
                · rw [f2] at hu
                  exact ⟨_, (Option.some.inj hu).symm⟩
                · rw [upd_ne na]
                  exact s35 _ _ ea
    · rintro σ H3 ⟨acc, ps, L, v2, v3, v4, v5, v6, rfl, hacc, s3, h3M, d3, h3P, lps, hst⟩
      have hacc' : acc = sm := by
        rw [hacc, show rs.length = (smM sm).length by rw [lrs, lmw], List.take_length, fold_sm]
        rfl
      have all3 : Paired (PrdAt K PL PL H3) ps acc := by
        rcases hst with ⟨rfl, rfl, _⟩ | ⟨init, p, pinit, t0, ls, rfl, rfl, f1, f2, _, f3, f4, f5, f6, f7⟩
        · exact .nil
        · exact Paired.snoc (Paired.mapP f7 fun v q h => by
            obtain ⟨a1, a2, a3, b1, b2, b3, b4, b5, b6⟩ := h
            exact ⟨a1, a2, a3, b1, b2, b3, b4, b5, b5⟩) ⟨t0, L, ls, rfl, f1, f2, f3, f4, f4⟩
      rw [hacc'] at all3
      have lps' : ps.length = sm.length := Paired.length all3
      refine ⟨_, rfl, PL, rfl, ⟨_, SqL.of h3P⟩, fun D nD => ?_⟩
      refine lc_gen (K := K) (walk_list (K := K) (a := PL) (xs := ps)) (sm.map prdD) (by rw [List.length_map, lps']) (noLs_map prdD noL_prd sm) (Nat.lt_of_le_of_lt (show ps.length ≤ 100 by
          rw [lrs, lmw, smM_length] at lps
          have := ok.n
          omega) (by decide)) Same (Same H3) (same_upd nD) (fun H h => h.seq (SqL.of h3P)) (fun H H4 r s => ⟨fun o e => s _ _ e, Same.tk s, fun ys => same_put (r.trans s) nD⟩) ?_ (fun x H' C C' h q => gTup3_mono x H' C C' h q) ?_
      · rintro j x d H4 H5 C hj r4 _ ⟨rfl, hx⟩ hd k
        have hd' : ∃ p, sm[j]? = some p ∧ d = prdD p := by
          rw [List.getElem?_map] at hd
          cases e : sm[j]? with
          | none => rw [e] at hd; cases hd
          | some p =>
            rw [e] at hd
            exact ⟨p, rfl, (Option.some.inj hd).symm⟩
        obtain ⟨p, hp, rfl⟩ := hd'
        have pa := paired_at all3 hx hp
        obtain ⟨t, l, ls, rfl, g1, g2, g3, _, _⟩ := pa
        have g1' := r4 _ _ g1
        have g2' := r4 _ _ g2
        refine ⟨t, _, rfl, SqT.of g1', rfl, _, _, rfl, _, _, rfl, _, _, rfl, rfl, rfl, ?_⟩
        refine ⟨_, rfl, _, rfl, _, rfl, l, ls, rfl, .inl ⟨SqL.of g2', fun u nu => ⟨by show 3 ≤ sizeLine; decide, fun z nz => ?_⟩⟩⟩
        have s5 := same_upd (o := .tup ls) nu
        have s6 := same_upd (o := .tup [.int (sgI p.neg), atmV p.fst, .ref u]) nz
        refine k _ _ (.tup (SqT.of upd_same) (.cons (.int _) (.cons (atmD_dp _) (.cons (.tup (SqT.of (s6 _ _ upd_same)) ?_) .nil)))) (s5.trans s6)
        exact DpAll.tk (TK.trans (Same.tk r4) (TK.trans (Same.tk s5) (Same.tk s6))) _ _ (noLs_map prD noL_pr _) g3
      · intro H4 rs' r4 e4 dp
        refine ⟨D, rs', rfl, .inl ⟨SqL.of e4, fun z nz => ?_⟩⟩
        have s5 := same_upd (o := .tup rs') nz
        exact q _ _ (s3.trans (r4.trans s5)) (.tup (SqT.of upd_same) (DpAll.tk (Same.tk s5) _ _ (noLs_map prdD noL_prd sm) dp))

abbrev s_sum_or_none : Stmt := topS 33
abbrev n_sum_or_none : List Str := ["text"]
abbrev p_sum_or_none : List Str := ["text"]
theorem sc_sum_or_none : FnScope n_sum_or_none p_sum_or_none (defScope s_sum_or_none) := ⟨rfl, rfl, rfl, by decide +kernel, rfl, by decide +kernel, by decide +kernel⟩
theorem d_sum_or_none (S : Src K mg "sum_or_none" s_sum_or_none p_sum_or_none) (D_read_sum : Dn P w K mg base "read_sum" 3 p_read_sum (spReadSum K)) : Dn P w K mg base "sum_or_none" 4 p_sum_or_none (spReadSum K) := by
  refine S.ok sc_sum_or_none (fun vs H Q E h => ?_) (fun f cdv A outer s H vs Q E hr h => ?_)
  · obtain ⟨a, rfl, _⟩ := h
    rfl
  · obtain ⟨sm, rfl, ok, q⟩ := h
    refine ⟨_, (pss_one (ps_try_thru0 (pss_one (ps_ret (pe_fn D_read_sum (hr.mono (by decide)) (by rfl) (pa_cons (pv 0) pa_nil)))))), ?_⟩
    exact ⟨_, rfl, sm, rfl, ok, fun v H1 s1 d1 => q v H1 s1 d1⟩

abbrev s_read_plain_row : Stmt := topS 32
abbrev n_read_plain_row : List Str := ["line", "name", "shown", "_", "rest", "some"]
abbrev p_read_plain_row : List Str := ["line"]
theorem sc_read_plain_row : FnScope n_read_plain_row p_read_plain_row (defScope s_read_plain_row) := ⟨rfl, rfl, rfl, by decide +kernel, rfl, by decide +kernel, by decide +kernel⟩
def spRow0 (K : PySem.W.Frag) : Sp := fun vs H Q _ => ∃ (r : Row0), vs = [.str (row0T r)] ∧ Row0Ok r ∧ ∀ (v : V) (H' : Hp), Same H H' → Dp K H' v (row0D r) → Q v H'
theorem isN_tup {K : PySem.W.Frag} {H : Hp} {v : V} {ds : List PyData} (h : Dp K H v (.tuple ds)) : decide (v = .non) = false := by
  cases h with
  | tup s a => exact decide_eq_false fun e => by cases e
theorem d_read_plain_row (S : Src K mg "read_plain_row" s_read_plain_row p_read_plain_row) (D_is_name : Dn P w K mg base "is_name" 1 p_is_name (spIsName K)) (D_sum_or_none : Dn P w K mg base "sum_or_none" 4 p_sum_or_none (spReadSum K)) : Dn P w K mg base "read_plain_row" 5 p_read_plain_row (spRow0 K) := by
  refine S.ok sc_read_plain_row (fun vs H Q E h => ?_) (fun f cdv A outer s H vs Q E hr h => ?_)
  · obtain ⟨a, rfl, _⟩ := h
    rfl
  · obtain ⟨r, rfl, ok, q⟩ := h
    refine ⟨_, (pss_cons (ps_if (pt_val (pe_bm PySem.F.plainAttrs_str PySem.F.slot_str_startswith PySem.F.type_str_startswith mt_startswith (pv 0) (pa_cons pe_str pa_nil))) (pss_cons (ps_set (i := 1) sc_read_plain_row.nd rfl (Or.inl rfl) (pe_bm PySem.F.plainAttrs_str PySem.F.slot_str_removeprefix PySem.F.type_str_removeprefix mt_removeprefix (pv 0) (pa_cons pe_str pa_nil)))
    (pss_one (ps_ret (pe_ifExp (pt_val (pe_fn D_is_name (hr.mono (by decide)) (by rfl) (pa_cons (pv 1) pa_nil))) (pe_tup (pa_cons pe_str (pa_cons (pv 1) pa_nil))) pe_non)))) pss_nil)
    (pss_cons (ps_if (pt_val (pe_bm PySem.F.plainAttrs_str PySem.F.slot_str_startswith PySem.F.type_str_startswith mt_startswith (pv 0) (pa_cons pe_str pa_nil))) (pss_cons (ps_set (i := 2) sc_read_plain_row.nd rfl (Or.inl rfl) (pe_fn D_sum_or_none (hr.mono (by decide)) (by rfl) (pa_cons (pe_bm PySem.F.plainAttrs_str PySem.F.slot_str_removeprefix PySem.F.type_str_removeprefix mt_removeprefix (pv 0) (pa_cons pe_str pa_nil)) pa_nil)))
    (pss_one (ps_ret (pe_ifExp (pt_cmpR op_isN (pv 2) pe_non (nomark _)) pe_non (pe_tup (pa_cons pe_str (pa_cons (pv 2) pa_nil))))))) pss_nil)
    (pss_cons (ps_asg (pe_partition (pv 0) pe_str) (pgK_tup (K := K) (n := 3) rfl rfl (pgs_cons (pg_name (i := 1) sc_read_plain_row.nd rfl (Or.inl rfl)) (pgs_cons (pg_name (i := 3) sc_read_plain_row.nd rfl (Or.inl rfl)) (pgs_cons (pg_name (i := 4) sc_read_plain_row.nd rfl (Or.inl rfl)) pgs_nil)))))
    (pss_cons (ps_set (i := 5) sc_read_plain_row.nd rfl (Or.inl rfl) (pe_fn D_sum_or_none (hr.mono (by decide)) (by rfl) (pa_cons (pv 4) pa_nil)))
    (pss_one (ps_ret (pe_ifExp (PW.pt (pw_and (pt_val (pe_fn D_is_name (hr.mono (by decide)) (by rfl) (pa_cons (pv 1) pa_nil))) (pw_and1 (pt_cmpR op_notN (pv 5) pe_non (nomark _))))) (pe_tup (pa_cons pe_str (pa_cons (pv 1) (pa_cons (pv 5) pa_nil)))) pe_non))))))), ?_⟩
    obtain ⟨w1, w2, w3⟩ := sw_row0 r ok
    have hl : (row0T r).length ≤ sizeLine := Nat.le_trans (row0T_len ok) (by decide)
    refine ⟨_, rfl, rfl, _, _, rfl, rfl, _, rfl, ?_⟩
    rw [w1]
    cases r with
    | drop n =>
      have e : row0T (.drop n) = Str.ofString "drop " ++ n := rfl
      refine iteT ⟨_, rfl, rfl, _, _, rfl, rfl, hl, ?_⟩
      rw [e, removeprefix_app _ _ (by decide +kernel)]
      refine ⟨_, rfl, _, some n, rfl, .str n (Nat.le_trans (isNm_and ok).2.1 (by decide)), fun H1 s1 => ⟨_, rfl, ?_⟩⟩
      rw [show nmO (some n) = true from ok]
      exact iteT ⟨_, rfl, by show 2 ≤ sizeLine; decide, fun p np => q _ _ (s1.trans (same_upd np)) (.tup (SqT.of upd_same) (.cons (.str _) (.cons (.str _) .nil)))⟩
    | shw s =>
      have e : row0T (.shw s) = Str.ofString "show " ++ sumT s := rfl
      refine iteF ⟨_, rfl, rfl, _, _, rfl, rfl, _, rfl, ?_⟩
      rw [w2]
      refine iteT ⟨_, rfl, rfl, _, _, rfl, rfl, hl, ?_⟩
      rw [e, removeprefix_app _ _ (by decide +kernel)]
      refine ⟨s, rfl, ok, fun v H1 s1 d1 => ⟨_, rfl, rfl, _, rfl, ?_⟩⟩
      rw [isN_tup d1]
      refine iteF ⟨_, rfl, by show 2 ≤ sizeLine; decide, fun p np => q _ _ (s1.trans (same_upd np)) (.tup (SqT.of upd_same) (.cons (.str _) (.cons (Dp.tk (tk_put np) _ _ (noL_sm s) d1) .nil)))⟩
    | set n s =>
      have e : row0T (.set n s) = n ++ Str.ofString " = " ++ sumT s := rfl
      refine iteF ⟨_, rfl, rfl, _, _, rfl, rfl, _, rfl, ?_⟩
      rw [w2]
      have ep : Txt.partition (row0T (.set n s)) " = " = (n, Str.ofString " = ", sumT s) := by
        rw [e]
        exact partition_app (s := 32) (S := [61, 32]) (by decide +kernel) (nm_free ok.1 (.inl (by decide)))
      refine iteF ⟨_, rfl, ⟨_, rfl⟩, _, _, rfl, rfl, rfl, hl, fun t nt => ?_⟩
      rw [ep]
      refine ⟨t, _, rfl, SqT.of upd_same, rfl, _, _, rfl, _, _, rfl, _, _, rfl, rfl, ?_⟩
      refine ⟨_, rfl, s, rfl, ok.2, fun v H1 s1 d1 => ?_⟩
      have s0 := (same_upd (o := .tup [.str n, .str (Str.ofString " = "), .str (sumT s)]) nt).trans s1
      refine ⟨_, rfl, _, some n, rfl, .str n (Nat.le_trans (isNm_and ok.1).2.1 (by decide)), fun H2 s2 => ⟨_, rfl, ?_⟩⟩
      rw [show nmO (some n) = true from ok.1]
      refine iteT ⟨_, rfl, rfl, _, rfl, ?_⟩
      rw [isN_tup d1]
      exact iteT ⟨_, rfl, _, rfl, by show 3 ≤ sizeLine; decide, fun p np => q _ _ (s0.trans (s2.trans (same_upd np))) (.tup (SqT.of upd_same) (.cons (.str _) (.cons (.str _) (.cons (Dp.tk (TK.trans (Same.tk s2) (tk_put np)) _ _ (noL_sm s) d1) .nil))))⟩

abbrev s_read_row : Stmt := topS 31
abbrev n_read_row : List Str := ["line", "test_text", "_", "rest", "test", "row"]
abbrev p_read_row : List Str := ["line"]
theorem sc_read_row : FnScope n_read_row p_read_row (defScope s_read_row) := ⟨rfl, rfl, rfl, by decide +kernel, rfl, by decide +kernel, by decide +kernel⟩
def spRow (K : PySem.W.Frag) : Sp := fun vs H Q _ => ∃ (r : Row), vs = [.str (rowT r)] ∧ RowOk r ∧ ∀ (v : V) (H' : Hp), Same H H' → Dp K H' v (rowD r) → Q v H'
theorem isN_row0 {K : PySem.W.Frag} {H : Hp} {v : V} {r : Row0} (h : Dp K H v (row0D r)) : decide (v = .non) = false := by
  cases r <;> exact isN_tup h
theorem isN_row {K : PySem.W.Frag} {H : Hp} {v : V} {r : Row} (h : Dp K H v (rowD r)) : decide (v = .non) = false := by
  cases r with
  | pl r => exact isN_row0 h
  | cond t r => exact isN_tup h
theorem d_read_row (S : Src K mg "read_row" s_read_row p_read_row) (D_read_plain_row : Dn P w K mg base "read_plain_row" 5 p_read_plain_row (spRow0 K)) (D_sum_or_none : Dn P w K mg base "sum_or_none" 4 p_sum_or_none (spReadSum K)) : Dn P w K mg base "read_row" 6 p_read_row (spRow K) := by
  refine S.ok sc_read_row (fun vs H Q E h => ?_) (fun f cdv A outer s H vs Q E hr h => ?_)
  · obtain ⟨a, rfl, _⟩ := h
    rfl
  · obtain ⟨r, rfl, ok, q⟩ := h
    refine ⟨_, (pss_cons (ps_if (pt_not (pt_val (pe_bm PySem.F.plainAttrs_str PySem.F.slot_str_startswith PySem.F.type_str_startswith mt_startswith (pv 0) (pa_cons pe_str pa_nil)))) (pss_one (ps_ret (pe_fn D_read_plain_row (hr.mono (by decide)) (by rfl) (pa_cons (pv 0) pa_nil)))) pss_nil)
    (pss_cons (ps_asg (pe_partition (pe_bm PySem.F.plainAttrs_str PySem.F.slot_str_removeprefix PySem.F.type_str_removeprefix mt_removeprefix (pv 0) (pa_cons pe_str pa_nil)) pe_str) (pgK_tup (K := K) (n := 3) rfl rfl (pgs_cons (pg_name (i := 1) sc_read_row.nd rfl (Or.inl rfl)) (pgs_cons (pg_name (i := 2) sc_read_row.nd rfl (Or.inl rfl)) (pgs_cons (pg_name (i := 3) sc_read_row.nd rfl (Or.inl rfl)) pgs_nil)))))
    (pss_cons (ps_set (i := 4) sc_read_row.nd rfl (Or.inl rfl) (pe_fn D_sum_or_none (hr.mono (by decide)) (by rfl) (pa_cons (pv 1) pa_nil)))
    (pss_cons (ps_set (i := 5) sc_read_row.nd rfl (Or.inl rfl) (pe_fn D_read_plain_row (hr.mono (by decide)) (by rfl) (pa_cons (pv 3) pa_nil)))
    (pss_cons (ps_if (PW.pt (pw_or (pt_cmpR op_isN (pv 4) pe_non (nomark _)) (pw_or1 (pt_cmpR op_isN (pv 5) pe_non (nomark _))))) (pss_one (ps_ret pe_non)) pss_nil)
    (pss_one (ps_ret (pe_tup (pa_cons pe_str (pa_cons (pv 4) (pa_cons (pv 5) pa_nil))))))))))), ?_⟩
    have hl : (rowT r).length ≤ sizeLine := Nat.le_trans (rowT_len ok) (by decide)
    refine ⟨_, rfl, rfl, _, _, rfl, rfl, _, rfl, ?_⟩
    cases r with
    | pl r =>
      rw [show Txt.startswith (rowT (.pl r)) "if " = false from (sw_row0 r ok).2.2]
      exact iteT ⟨_, rfl, r, rfl, ok, fun v H1 s1 d1 => q v H1 s1 d1⟩
    | cond t r =>
      have asc : ∀ a b c : Str, a ++ b ++ c = a ++ (b ++ c) := fun a b c => ext_tl (by rw [tl_append, tl_append, tl_append, tl_append, List.append_assoc])
      have e : rowT (.cond t r) = Str.ofString "if " ++ (sumT t ++ Str.ofString ": " ++ row0T r) := by
        show Str.ofString "if " ++ sumT t ++ Str.ofString ": " ++ row0T r = _
        rw [asc, asc, asc]
      rw [show Txt.startswith (rowT (.cond t r)) "if " = true by rw [e, sw_pre, tl_append]; exact pre_self _ _]
      refine iteF ⟨_, rfl, rfl, _, _, rfl, rfl, hl, ?_⟩
      rw [e, removeprefix_app _ _ (by decide +kernel)]
      have hl2 : (sumT t ++ Str.ofString ": " ++ row0T r).length ≤ sizeLine := by
        rw [e, len_app] at hl
        omega
      have ep : Txt.partition (sumT t ++ Str.ofString ": " ++ row0T r) ": " = (sumT t, Str.ofString ": ", row0T r) :=
        partition_app (s := 58) (S := [32]) (by decide +kernel) (words_signs ok.1 (.inl rfl))
      refine ⟨⟨_, rfl⟩, _, _, rfl, rfl, rfl, hl2, fun u nu => ?_⟩
      rw [ep]
      refine ⟨u, _, rfl, SqT.of upd_same, rfl, _, _, rfl, _, _, rfl, _, _, rfl, rfl, ?_⟩
      refine ⟨_, rfl, t, rfl, ok.1, fun v H1 s1 d1 => ?_⟩
      refine ⟨_, rfl, r, rfl, ok.2, fun v2 H2 s2 d2 => ?_⟩
      refine ⟨_, rfl, rfl, _, rfl, ?_⟩
      rw [isN_tup d1]
      refine iteF ⟨_, rfl, rfl, _, rfl, ?_⟩
      rw [isN_row0 d2]
      exact iteF ⟨_, rfl, _, rfl, by show 3 ≤ sizeLine; decide, fun p np => q _ _ ((same_upd nu).trans (s1.trans (s2.trans (same_upd np)))) (.tup (SqT.of upd_same) (.cons (.str _) (.cons (Dp.tk (TK.trans (Same.tk s2) (tk_put np)) _ _ (noL_sm t) d1) (.cons (Dp.tk (tk_put np) _ _ (noL_row0 r) d2) .nil))))⟩

abbrev s_read_rows : Stmt := topS 30
abbrev n_read_rows : List Str := ["text", "rows", "at", "line", "row"]
abbrev p_read_rows : List Str := ["text"]
theorem sc_read_rows : FnScope n_read_rows p_read_rows (defScope s_read_rows) := ⟨rfl, rfl, rfl, by decide +kernel, rfl, by decide +kernel, by decide +kernel⟩
def spRows (K : PySem.W.Frag) : Sp := fun vs H Q _ => ∃ (rs : List Row), vs = [.str (rowsT rs)] ∧ RowsOk rs ∧ ∀ (v : V) (H' : Hp), Same H H' → Dp K H' v (rowsD rs) → Q v H'
theorem d_read_rows (S : Src K mg "read_rows" s_read_rows p_read_rows) (T : Txt K w mg) (D_read_row : Dn P w K mg base "read_row" 6 p_read_row (spRow K)) : Dn P w K mg base "read_rows" 7 p_read_rows (spRows K) := by
  refine S.ok sc_read_rows (fun vs H Q E h => ?_) (fun f cdv A outer s H vs Q E hr h => ?_)
  · obtain ⟨a, rfl, _⟩ := h
    rfl
  · obtain ⟨rs, rfl, ok, q⟩ := h
    obtain ⟨_, g_MOST_ROWS⟩ := T.g_MOST_ROWS
    refine ⟨_, (pss_cons (ps_if (pt_not (pt_val (pe_callB (isiK (K := K) rfl) (by rfl) T.n_isinstance (by decide +kernel) (pa_cons (pv 0) (pa_cons (pe_bltn (v := .ty "str") (by rfl) T.n_str (by decide +kernel) rfl) pa_nil))))) (pss_one ps_never) pss_nil)
    (pss_cons (ps_set (i := 1) sc_read_rows.nd rfl (Or.inl rfl) (pe_lst pa_nil))
    (pss_cons (ps_for PassesOwn.never rfl (pi_enum (by rfl) T.n_enumerate (pa_cons (pe_split (pv 0) pe_str) pa_nil)) (pgK_tup (K := K) (n := 2) rfl rfl (pgs_cons (pg_name (i := 2) sc_read_rows.nd rfl (Or.inl rfl)) (pgs_cons (pg_name (i := 3) sc_read_rows.nd rfl (Or.inl rfl)) pgs_nil)))
    (pss_cons (ps_set (i := 4) sc_read_rows.nd rfl (Or.inl rfl) (pe_ifExp (pt_cmpR op_lt (pv 2) (pe_glob (v := .int _) (by rfl) g_MOST_ROWS ⟨_, rfl⟩) (nomark _)) (pe_fn D_read_row (hr.mono (by decide)) (by rfl) (pa_cons (pv 3) pa_nil)) pe_non))
    (pss_cons (ps_if (pt_cmpR op_isN (pv 4) pe_non (nomark _)) (pss_one ps_never) pss_nil)
    (pss_one (ps_expr (pe_bm PySem.F.plainAttrs_list PySem.F.slot_list_append PySem.F.type_list_append mt_append (pv 1) (pa_cons (pv 4) pa_nil)))))))
    (pss_one (ps_ret (pe_callTy (tupleK (K := K) rfl) (by rfl) T.n_tuple (by decide +kernel) (pa_cons (pv 1) pa_nil))))))), ?_⟩
    refine ⟨_, rfl, _, _, _, _, true, rfl, .ty _, .base (.str _), kit_ty (by decide +kernel), _, rfl, iteF ⟨Nat.zero_le _, fun PL nPL => ?_⟩⟩
    generalize e1 : upd H PL _ = H1
    have s1 : Same H H1 := e1 ▸ same_upd nPL
    have h1 : H1 PL = some (.lst []) := e1 ▸ upd_same
    have hl := rowsT_len ok
    refine ⟨_, rfl, ⟨_, rfl⟩, _, _, rfl, rfl, rfl, Nat.le_trans (Nat.add_le_add_right hl 2) (by decide), fun W nW => ?_⟩
    rw [split_rowsT ok]
    have s2 : Same H1 (upd H1 W (.lst ((rs.map rowT).map V.str))) := same_upd nW
    have e2 : upd H1 W (.lst ((rs.map rowT).map V.str)) W = some (.lst ((rs.map rowT).map V.str)) := upd_same
    generalize upd H1 W (.lst ((rs.map rowT).map V.str)) = H2 at s2 e2 ⊢
    have nWP : W ≠ PL := (ne_of_none h1 nW).symm
    refine ⟨W, _, rfl, SqL.of e2, for_it (walk_enum (K := K) (a := W) (xs := (rs.map rowT).map V.str)) (fun k σ H' => ∃ (ps : List V) (v2 v3 v4 : Option V), σ = [some (.str (rowsT rs)), some (.ref PL), v2, v3, v4] ∧
        Same H H' ∧ H' W = some (.lst ((rs.map rowT).map V.str)) ∧ H' PL = some (.lst ps) ∧ DpAll K H' ps ((rs.take k).map rowD))
      ⟨[], _, _, _, rfl, s1.trans s2, e2, s2 _ _ h1, .nil⟩ (fun k σ H' _ ⟨_, _, _, _, _, _, h, _⟩ => SqL.of h) ?_ ?_⟩
    · rintro k x σ H3 H4 hk ⟨ps, v2, v3, v4, rfl, s3, h3W, h3P, d3⟩ ⟨t, x1, x2, rfl, nt, rfl, f1, f2⟩
      have hk' : k < rs.length := by rw [List.length_map, List.length_map] at hk; exact hk
      have hrk : rs[k]? = some rs[k] := List.getElem?_eq_getElem hk'
      have okk := ok.ok _ (List.getElem_mem hk')
      have htake : rs.take (k + 1) = rs.take k ++ [rs[k]] := by rw [List.take_add_one, hrk]; rfl
      generalize rs[k] = r at hrk okk htake
      have e1' : V.int (k : Nat) = x1 := Option.some.inj f1
      have e2' : V.str (rowT r) = x2 := by
        have f3 : ((rs.map rowT).map V.str)[k]? = some x2 := f2
        rw [List.getElem?_map, List.getElem?_map, hrk] at f3
        exact Option.some.inj f3
      subst e1' e2'
      have k6 : k < 6 := Nat.lt_of_lt_of_le hk' ok.n
      have s4 := same_upd (o := .tup [.int (k : Nat), .str (rowT r)]) nt
      refine ⟨t, _, rfl, SqT.of upd_same, rfl, _, _, rfl, _, _, rfl, rfl, ?_⟩
      refine ⟨_, rfl, (k : Nat), 6, rfl, rfl, _, rfl, ?_⟩
      rw [decide_eq_true (show ((k : Nat) : Int) < 6 by omega)]
      refine iteT ⟨_, rfl, r, rfl, okk, fun v H5 s5 d5 => ?_⟩
      refine ⟨_, rfl, rfl, _, rfl, ?_⟩
      rw [isN_row d5]
      have s35 := s4.trans s5
      have h5P := s35 _ _ h3P
      refine iteF ⟨_, rfl, .inl ⟨rfl, _, SqL.of h5P⟩, _, rfl, PL, ps, v, rfl, rfl, h5P, ?_, ?_⟩
      · have := DpAll.length d3
        rw [List.length_map, List.length_take] at this
        exact Nat.lt_of_le_of_lt (show ps.length ≤ 6 by omega) (by decide)
      · have tkk : TK K H5 (upd H5 PL (.lst (ps ++ [v]))) := tk_lst h5P
        refine ⟨ps ++ [v], _, _, _, rfl, same_put (s3.trans s35) nPL, ?_, upd_same, ?_⟩
        · rw [upd_ne nWP]
          exact s35 _ _ h3W
        · rw [htake, List.map_append]
          exact DpAll.append (DpAll.tk (TK.trans (Same.tk s35) tkk) _ _ (noLs_map rowD noL_row _) d3) (.cons (Dp.tk tkk _ _ (noL_row r) d5) .nil)
    · rintro σ H3 ⟨ps, v2, v3, v4, rfl, s3, h3W, h3P, d3⟩
      rw [List.length_map, List.length_map, List.take_length] at d3
      refine ⟨_, rfl, PL, ps, rfl, .inl ⟨SqL.of h3P, fun z nz => q _ _ (s3.trans (same_upd nz)) (.tup (SqT.of upd_same) (DpAll.tk (tk_put nz) _ _ (noLs_map rowD noL_row rs) d3))⟩⟩

abbrev s_Cell___init__ : Stmt := inClass (topS 29) 0
abbrev n_Cell___init__ : List Str := ["self", "text"]
abbrev p_Cell___init__ : List Str := ["self", "text"]
theorem sc_Cell___init__ : FnScope n_Cell___init__ p_Cell___init__ (defScope s_Cell___init__) := ⟨rfl, rfl, rfl, by decide +kernel, rfl, by decide +kernel, by decide +kernel⟩
def spCellNew (K : PySem.W.Frag) (mg : Str → Option Value) : Sp := fun vs H Q _ => ∃ (rs : List Row), vs = [.str (rowsT rs)] ∧ RowsOk rs ∧ ∀ (a : Addr) (H' : Hp), Same H H' → H a = none → CellV K mg H' (.ref a) rs → Q (.ref a) H'
def spCellInit (K : PySem.W.Frag) (C : Addr) : Sp := fun vs H Q _ => ∃ (a dx : Addr) (rs : List Row), vs = [.ref a, .str (rowsT rs)] ∧ RowsOk rs ∧ H a = some (.ins C dx []) ∧
  ∀ (rv : V) (H' : Hp), (∀ x o, x ≠ a → H x = some o → H' x = some o) → H' a = some (.ins C dx (cellFs (rowsT rs) rv)) → Dp K H' rv (rowsD rs) → Q .non H'
theorem d_Cell___init__ (S : SrcI K mg "Cell" "Cell.__init__" s_Cell___init__ p_Cell___init__) (T : Txt K w mg) (D_read_rows : Dn P w K mg base "read_rows" 7 p_read_rows (spRows K)) : DnC P w K mg base "Cell" 8 (spCellNew K mg) := by
  refine S.ok sc_Cell___init__ (spCellInit K) (fun C vs H Q E h => ?_) (fun C f cdv A outer s H vs Q E hmC hr h => ?_) (fun C hmC vs H Q E h x dx nx nd ne => ?_)
  · obtain ⟨_, _, _, rfl, _⟩ := h
    rfl
  · obtain ⟨a, dx, rs, rfl, ok, ha, q⟩ := h
    obtain ⟨C', hC', cC, z1, z2⟩ := T.k_Cell
    have eC : C' = C := by
      rw [hmC] at hC'
      cases hC'
      rfl
    subst eC
    refine ⟨_, (pss_cons (ps_fld (pv 0) (pv 1) rfl)
    (pss_one (ps_fld (pv 0) (pe_fn D_read_rows (hr.mono (by decide)) (by rfl) (pa_cons (pv 1) pa_nil)) rfl))), ?_⟩
    refine ⟨_, rfl, _, rfl, a, C', dx, [], rfl, ha, cC, z1, by show 0 < 1000; decide, ?_⟩
    generalize e1 : upd H a _ = H1
    have k1 : ∀ x o, x ≠ a → H x = some o → H1 x = some o := fun x o n e => by rw [← e1, upd_ne n]; exact e
    have a1 : H1 a = some (.ins C' dx (putF "text" (.str (rowsT rs)) [])) := e1 ▸ upd_same
    refine ⟨_, rfl, rs, rfl, ok, fun v H2 s2 d2 => ?_⟩
    have a2 := s2 _ _ a1
    refine ⟨_, rfl, a, C', dx, _, rfl, a2, cC, z2, by show 1 < 1000; decide, ?_⟩
    refine q v _ (fun x o n e => by rw [upd_ne n]; exact s2 _ _ (k1 x o n e)) (by rw [upd_same]; exact congrArg (fun z => some (HO.ins C' dx z)) (cellFs_put _ _)) (Dp.tk ?_ _ _ (noL_rows rs) d2)
    exact tk_but a2 ⟨fun _ q => (by cases q), fun _ _ q => (by cases q)⟩ fun x o n e => by rw [upd_ne n]; exact e
  · obtain ⟨rs, rfl, ok, q⟩ := h
    have s0 : Same H (upd (upd H dx (.own x)) x (.ins C dx [])) := fun b o e => by
      rw [upd_ne (ne_of_none e nx), upd_ne (ne_of_none e nd)]
      exact e
    exact ⟨x, dx, rs, rfl, ok, upd_same, fun rv H' k ha d => ⟨rfl, q x H' (fun b o e => k b o (ne_of_none e nx) (s0 b o e)) nx ⟨x, C, dx, rv, rfl, hmC, ha, d⟩⟩⟩

abbrev s_within_limit : Stmt := topS 19
abbrev n_within_limit : List Str := ["number"]
abbrev p_within_limit : List Str := ["number"]
theorem sc_within_limit : FnScope n_within_limit p_within_limit (defScope s_within_limit) := ⟨rfl, rfl, rfl, by decide +kernel, rfl, by decide +kernel, by decide +kernel⟩
def spLim (K : PySem.W.Frag) : Sp := fun vs H Q _ => ∃ (i : Int), vs = [.int i] ∧ ∀ (v : V) (H' : Hp), Same H H' → Dp K H' v (resD (lim i)) → Q v H'
theorem d_within_limit (S : Src K mg "within_limit" s_within_limit p_within_limit) (T : Txt K w mg) : Dn P w K mg base "within_limit" 1 p_within_limit (spLim K) := by
  refine S.ok sc_within_limit (fun vs H Q E h => ?_) (fun f cdv A outer s H vs Q E hr h => ?_)
  · obtain ⟨a, rfl, _⟩ := h
    rfl
  · obtain ⟨i, rfl, q⟩ := h
    obtain ⟨_, g_LIMIT⟩ := T.g_LIMIT
    refine ⟨_, (pss_cons (ps_if (pt_chain op_le op_le (pe_un un_neg (pe_glob (v := .int _) (by rfl) g_LIMIT ⟨_, rfl⟩)) (pv 0) (pe_glob (v := .int _) (by rfl) g_LIMIT ⟨_, rfl⟩)) (pss_one (ps_ret (pe_tup (pa_cons (pv 0) (pa_cons pe_non pa_nil))))) pss_nil)
    (pss_one (ps_ret (pe_tup (pa_cons pe_non (pa_cons (pe_tup (pa_cons pe_str pa_nil)) pa_nil)))))), ?_⟩
    have big : ∀ h : ¬ (-1000000000 ≤ i ∧ i ≤ 1000000000), resD (lim i) = .tuple [.none, .tuple [.str "great"]] := fun h => by
      unfold lim
      rw [if_neg h]
      rfl
    have bad : ∀ h : ¬ (-1000000000 ≤ i ∧ i ≤ 1000000000), ∀ t, H t = none → ∀ p, (upd H t (.tup [.str "great"])) p = none → Q (.ref p) (upd (upd H t (.tup [.str "great"])) p (.tup [.non, .ref t])) := fun h t nt p np => by
      refine q _ _ ((same_upd nt).trans (same_upd np)) ?_
      rw [big h]
      exact .tup (SqT.of upd_same) (.cons .non (.cons (.tup (SqT.of (upd_keep upd_same np)) (.cons (.str _) .nil)) .nil))
    refine ⟨1000000000, rfl, _, rfl, -1000000000, i, rfl, rfl, _, rfl, ite2 (fun h1 => ?_) (fun h1 => ?_)⟩
    · refine ⟨i, 1000000000, rfl, rfl, _, rfl, ite2 (fun h2 => ?_) (fun h2 => ?_)⟩
      · refine ⟨_, rfl, by show 2 ≤ sizeLine; decide, fun p np => q _ _ (same_upd np) ?_⟩
        have e : resD (lim i) = .tuple [.int i, .none] := by
          unfold lim
          rw [if_pos ⟨of_decide_eq_true h1, of_decide_eq_true h2⟩]
          rfl
        rw [e]
        exact .tup (SqT.of upd_same) (.cons (.int _) (.cons .non .nil))
      · exact ⟨by show 1 ≤ sizeLine; decide, fun t nt => ⟨by show 2 ≤ sizeLine; decide, fun p np => bad (fun h => h2 (decide_eq_true h.2)) t nt p np⟩⟩
    · exact ⟨_, rfl, iteF ⟨by show 1 ≤ sizeLine; decide, fun t nt => ⟨by show 2 ≤ sizeLine; decide, fun p np => bad (fun h => h1 (decide_eq_true h.1)) t nt p np⟩⟩⟩

abbrev s_atom_in : Stmt := topS 20
abbrev n_atom_in : List Str := ["atom", "room", "names"]
abbrev p_atom_in : List Str := ["atom", "room", "names"]
theorem sc_atom_in : FnScope n_atom_in p_atom_in (defScope s_atom_in) := ⟨rfl, rfl, rfl, by decide +kernel, rfl, by decide +kernel, by decide +kernel⟩
/-- all but the list at N is kept -/
def Kn (N : Addr) (H H' : Hp) : Prop := ∀ a o, a ≠ N → H a = some o → H' a = some o
theorem Kn.trans {N : Addr} {H H1 H2 : Hp} (a : Kn N H H1) (b : Kn N H1 H2) : Kn N H H2 := fun x o n e => b x o n (a x o n e)
theorem Kn.of {N : Addr} {H H' : Hp} (s : Same H H') : Kn N H H' := fun a o _ e => s a o e
theorem Kn.put {N : Addr} {H : Hp} {o : HO} : Kn N H (upd H N o) := fun a u n e => by rw [upd_ne n]; exact e
theorem Kn.tk {K : PySem.W.Frag} {N : Addr} {H H' : Hp} {xs : List V} (k : Kn N H H') (h : H N = some (.lst xs)) : TK K H H' :=
  tk_but h ⟨fun _ q => (by cases q), fun _ _ q => (by cases q)⟩ k
def spAtomIn (K : PySem.W.Frag) : Sp := fun vs H Q _ => ∃ (a : Atm) (R N : Addr) (room : Room_) (ns : List V), vs = [atmV a, .ref R, .ref N] ∧ H R = some (.dK room) ∧ RoomOk room ∧ H N = some (.lst ns) ∧ ns.length ≤ 1000 ∧
  ∀ (v : V) (H' : Hp), Kn N H H' → H' N = some (.lst (ns ++ (atomS a).map V.str)) → Dp K H' v (resD (atomN room a)) → Q v H'
theorem d_atom_in (S : Src K mg "atom_in" s_atom_in p_atom_in) (T : Txt K w mg) : Dn P w K mg base "atom_in" 1 p_atom_in (spAtomIn K) := by
  refine S.ok sc_atom_in (fun vs H Q E h => ?_) (fun f cdv A outer s H vs Q E hr h => ?_)
  · obtain ⟨a, _, _, _, _, rfl, _⟩ := h
    rfl
  · obtain ⟨a, R, N, room, ns, rfl, hR, rok, hN, hl, q⟩ := h
    refine ⟨_, (pss_cons (ps_if (pt_val (pe_callB (isiK (K := K) rfl) (by rfl) T.n_isinstance (by decide +kernel) (pa_cons (pv 0) (pa_cons (pe_bltn (v := .ty "int") (by rfl) T.n_int (by decide +kernel) rfl) pa_nil)))) (pss_one (ps_ret (pe_tup (pa_cons (pv 0) (pa_cons pe_non pa_nil))))) pss_nil)
    (pss_cons (ps_expr (pe_bm PySem.F.plainAttrs_list PySem.F.slot_list_append PySem.F.type_list_append mt_append (pv 2) (pa_cons (pv 0) pa_nil)))
    (pss_cons (ps_if (pt_cmp (pc_dnotin (hu_of hr) (pv 0) (pv 1))) (pss_one (ps_ret (pe_tup (pa_cons pe_non (pa_cons (pe_tup (pa_cons pe_str (pa_cons (pv 0) pa_nil))) pa_nil))))) pss_nil)
    (pss_one (ps_ret (pe_tup (pa_cons (pe_dget (hu_of hr) (pv 1) (pv 0) (fun _ _ => rfl)) (pa_cons pe_non pa_nil)))))))), ?_⟩
    cases a with
    | num n =>
      refine ⟨_, rfl, _, _, _, _, true, rfl, .ty _, .base (.int _), kit_ty (by decide +kernel), _, rfl, iteT ⟨_, rfl, by show 2 ≤ sizeLine; decide, fun p np => q _ _ (Kn.of (same_upd np)) ?_ (.tup (SqT.of upd_same) (.cons (.int _) (.cons .non .nil)))⟩⟩
      rw [upd_keep hN np]
      show some (HO.lst ns) = some (HO.lst (ns ++ []))
      rw [List.append_nil]
    | nm z =>
      refine ⟨_, rfl, _, _, _, _, false, rfl, .ty _, .base (.str _), kit_ty (by decide +kernel), _, rfl, iteF ?_⟩
      refine ⟨_, rfl, .inl ⟨rfl, _, SqL.of hN⟩, _, rfl, N, ns, _, rfl, rfl, hN, Nat.lt_of_le_of_lt hl (by decide), ?_⟩
      have nRN : R ≠ N := ne_of hR hN (by intro q; cases q)
      generalize e1 : upd H N _ = H1
      have k1 : Kn N H H1 := e1 ▸ Kn.put
      have h1N : H1 N = some (.lst (ns ++ [.str z])) := e1 ▸ upd_same
      have h1R := k1 _ _ nRN hR
      refine ⟨_, rfl, _, rfl, R, _, rfl, DGet.k (k := Sum.inr z) h1R, _, rfl, ?_⟩
      rcases room_at rok z with ⟨g1, g2⟩ | ⟨i, g1, g2, g3⟩
      · rw [g1]
        refine iteT ⟨_, rfl, by show 2 ≤ sizeLine; decide, fun t nt => ⟨by show 2 ≤ sizeLine; decide, fun p np => q _ _ (k1.trans (Kn.of ((same_upd nt).trans (same_upd np)))) (upd_keep (upd_keep h1N nt) np) ?_⟩⟩
        have e : resD (atomN room (.nm z)) = .tuple [.none, .tuple [.str "lack", .str z]] := by
          show resD (match numAt room z with | some i => .ok i | none => .error (.lack z)) = _
          rw [g2]
          rfl
        rw [e]
        exact .tup (SqT.of upd_same) (.cons .non (.cons (.tup (SqT.of (upd_keep upd_same np)) (.cons (.str _) (.cons (.str _) .nil))) .nil))
      · rw [g1]
        refine iteF ⟨_, rfl, _, rfl, R, .int i, rfl, by rw [← g1]; exact DGet.k (k := Sum.inr z) h1R, by show 2 ≤ sizeLine; decide, fun p np => q _ _ (k1.trans (Kn.of (same_upd np))) (upd_keep h1N np) ?_⟩
        have e : resD (atomN room (.nm z)) = .tuple [.int i, .none] := by
          show resD (match numAt room z with | some i => .ok i | none => .error (.lack z)) = _
          rw [g2]
          rfl
        rw [e]
        exact .tup (SqT.of upd_same) (.cons (.int _) (.cons .non .nil))

abbrev s_joined : Stmt := topS 21
abbrev n_joined : List Str := ["part", "mark", "number"]
abbrev p_joined : List Str := ["part", "mark", "number"]
theorem sc_joined : FnScope n_joined p_joined (defScope s_joined) := ⟨rfl, rfl, rfl, by decide +kernel, rfl, by decide +kernel, by decide +kernel⟩
def spJoined (K : PySem.W.Frag) : Sp := fun vs H Q _ => ∃ (p : Int) (m : Bool) (x : Int), vs = [.int p, .str (jS m), .int x] ∧ p.natAbs ≤ 1000000000 ∧ x.natAbs ≤ 1000000000 ∧ ∀ (v : V) (H' : Hp), Same H H' → Dp K H' v (resD (join2 p m x)) → Q v H'
theorem d_joined (S : Src K mg "joined" s_joined p_joined) (D_within_limit : Dn P w K mg base "within_limit" 1 p_within_limit (spLim K)) : Dn P w K mg base "joined" 2 p_joined (spJoined K) := by
  refine S.ok sc_joined (fun vs H Q E h => ?_) (fun f cdv A outer s H vs Q E hr h => ?_)
  · obtain ⟨_, _, _, rfl, _⟩ := h
    rfl
  · obtain ⟨p, m, x, rfl, hp, hx, q⟩ := h
    refine ⟨_, (pss_cons (ps_if (pt_cmpR op_eq (pv 1) pe_str (nomark _)) (pss_one (ps_ret (pe_fn D_within_limit (hr.mono (by decide)) (by rfl) (pa_cons (pe_op op_mul (pv 0) (pv 2)) pa_nil)))) pss_nil)
    (pss_cons (ps_if (pt_cmpR op_eq (pv 2) pe_int (nomark _)) (pss_one (ps_ret (pe_tup (pa_cons pe_non (pa_cons (pe_tup (pa_cons pe_str pa_nil)) pa_nil))))) pss_nil)
    (pss_one (ps_ret (pe_fn D_within_limit (hr.mono (by decide)) (by rfl) (pa_cons (pe_op op_fdivN (pv 0) (pv 2)) pa_nil)))))), ?_⟩
    refine ⟨_, rfl, rfl, _, rfl, ?_⟩
    cases m with
    | true =>
      rw [show decide (V.str (jS true) = V.str "*") = true by decide +kernel]
      exact iteT ⟨_, rfl, _, rfl, p, x, rfl, rfl, .inl ⟨by omega, by omega⟩, p * x, rfl, fun v H1 s1 d1 => q v H1 s1 d1⟩
    | false =>
      rw [show decide (V.str (jS false) = V.str "*") = false by decide +kernel]
      refine iteF ⟨_, rfl, rfl, _, rfl, ?_⟩
      by_cases h0 : x = 0
      · subst h0
        rw [decide_eq_true rfl]
        refine iteT ⟨by show 1 ≤ sizeLine; decide, fun t nt => ⟨by show 2 ≤ sizeLine; decide, fun u nu => q _ _ ((same_upd nt).trans (same_upd nu)) ?_⟩⟩
        exact .tup (SqT.of upd_same) (.cons .non (.cons (.tup (SqT.of (upd_keep upd_same nu)) (.cons (.str _) .nil)) .nil))
      · rw [decide_eq_false (fun e => h0 (V.int.inj e))]
        refine iteF ⟨_, rfl, _, rfl, p, x, rfl, rfl, ⟨h0, by show x.natAbs < 1073741824; omega⟩, p.fdiv x, rfl, fun v H1 s1 d1 => q v H1 s1 ?_⟩
        show Dp K H1 v (resD (if false = true then lim (p * x) else if x = 0 then .error .nought else lim (p.fdiv x)))
        rw [if_neg Bool.false_ne_true, if_neg h0]
        exact d1

abbrev s_product_in : Stmt := topS 22
abbrev n_product_in : List Str := ["first", "pairs", "room", "names", "part", "mark", "atom", "number", "fault"]
abbrev p_product_in : List Str := ["first", "pairs", "room", "names"]
theorem sc_product_in : FnScope n_product_in p_product_in (defScope s_product_in) := ⟨rfl, rfl, rfl, by decide +kernel, rfl, by decide +kernel, by decide +kernel⟩
def allOk (l : List (Bool × Atm)) : Prop := ∀ q ∈ l, atmOk q.2 = true
theorem flt_tup {K : PySem.W.Frag} {H : Hp} {v : V} {f : Flt} (h : Dp K H v (fltD f)) : decide (v = .non) = false := by
  cases f <;> (cases h with | tup s a => exact decide_eq_false fun e => by cases e)
theorem atomN_abs {room : Room_} {a : Atm} {x : Int} (rok : RoomOk room) (ok : atmOk a = true) (h : atomN room a = .ok x) : x.natAbs ≤ 1000000000 := by
  cases a with
  | num n =>
    have e : ((n : Nat) : Int) = x := by
      have h' : (Except.ok ((n : Nat) : Int) : Res) = .ok x := h
      exact Except.ok.inj h'
    have := of_decide_eq_true (show decide (n < 1000) = true from ok)
    omega
  | nm z =>
    rcases room_at rok z with ⟨g1, g2⟩ | ⟨i, g1, g2, g3⟩
    · have h' : (match numAt room z with | some i => (Except.ok i : Res) | none => .error (.lack z)) = .ok x := h
      rw [g2] at h'
      cases h'
    · have h' : (match numAt room z with | some i => (Except.ok i : Res) | none => .error (.lack z)) = .ok x := h
      rw [g2] at h'
      have := Except.ok.inj h'
      omega
theorem join2_abs {p x q : Int} {m : Bool} (h : join2 p m x = .ok q) : q.natAbs ≤ 1000000000 := by
  unfold join2 at h
  split at h
  · have := lim_ok h
    omega
  · split at h
    · cases h
    · have := lim_ok h
      omega
def spProd (K : PySem.W.Frag) : Sp := fun vs H Q _ => ∃ (a : Atm) (prs : List (Bool × Atm)) (pv : V) (R N : Addr) (room : Room_) (ns : List V), vs = [atmV a, pv, .ref R, .ref N] ∧ Dp K H pv (.tuple (prs.map prD)) ∧ allOk ((true, a) :: prs) ∧ prs.length ≤ 100 ∧
  H R = some (.dK room) ∧ RoomOk room ∧ H N = some (.lst ns) ∧ ns.length ≤ 500 ∧
  ∀ (v : V) (H' : Hp), Kn N H H' → H' N = some (.lst (ns ++ (prodE room 1 ((true, a) :: prs)).2.map V.str)) → Dp K H' v (resD (prodE room 1 ((true, a) :: prs)).1) → Q v H'
theorem d_product_in (S : Src K mg "product_in" s_product_in p_product_in) (D_atom_in : Dn P w K mg base "atom_in" 1 p_atom_in (spAtomIn K)) (D_joined : Dn P w K mg base "joined" 2 p_joined (spJoined K)) : Dn P w K mg base "product_in" 3 p_product_in (spProd K) := by
  refine S.ok sc_product_in (fun vs H Q E h => ?_) (fun f cdv A outer s H vs Q E hr h => ?_)
  · obtain ⟨_, _, _, _, _, _, _, rfl, _⟩ := h
    rfl
  · obtain ⟨a, prs, pv_, R, N, room, ns, rfl, hp, aok, hpl, hR, rok, hN, hnl, q⟩ := h
    refine ⟨_, (pss_cons (ps_set (i := 4) sc_product_in.nd rfl (Or.inl rfl) pe_int)
    (pss_cons (ps_for PassesOwn.never rfl (piK_tup (K := K) rfl (pe_tup (pa_cons (pe_tup (pa_cons pe_str (pa_cons (pv 0) pa_nil))) (StX.pa_star (pv 1) pa_nil)))) (pgK_tup (K := K) (n := 2) rfl rfl (pgs_cons (pg_name (i := 5) sc_product_in.nd rfl (Or.inl rfl)) (pgs_cons (pg_name (i := 6) sc_product_in.nd rfl (Or.inl rfl)) pgs_nil)))
    (pss_cons (ps_asg (pe_fn D_atom_in (hr.mono (by decide)) (by rfl) (pa_cons (pv 6) (pa_cons (pv 2) (pa_cons (pv 3) pa_nil)))) (pgK_tup (K := K) (n := 2) rfl rfl (pgs_cons (pg_name (i := 7) sc_product_in.nd rfl (Or.inl rfl)) (pgs_cons (pg_name (i := 8) sc_product_in.nd rfl (Or.inl rfl)) pgs_nil))))
    (pss_cons (ps_if (pt_cmpR op_isN (pv 8) pe_non (nomark _)) (pss_one (ps_asg (pe_fn D_joined (hr.mono (by decide)) (by rfl) (pa_cons (pv 4) (pa_cons (pv 5) (pa_cons (pv 7) pa_nil)))) (pgK_tup (K := K) (n := 2) rfl rfl (pgs_cons (pg_name (i := 4) sc_product_in.nd rfl (Or.inl rfl)) (pgs_cons (pg_name (i := 8) sc_product_in.nd rfl (Or.inl rfl)) pgs_nil))))) pss_nil)
    (pss_one (ps_if (pt_cmpR op_notN (pv 8) pe_non (nomark _)) (pss_one (ps_ret (pe_tup (pa_cons pe_non (pa_cons (pv 8) pa_nil))))) pss_nil)))))
    (pss_one (ps_ret (pe_tup (pa_cons (pv 4) (pa_cons pe_non pa_nil))))))), ?_⟩
    have nRN : R ≠ N := ne_of hR hN (by intro q; cases q)
    cases hp with
    | tup hps hpa =>
    rename_i pa pxs
    have lps := DpAll.length hpa
    rw [List.length_map] at lps
    refine ⟨_, rfl, by show 2 ≤ sizeLine; decide, fun t0 nt0 => ⟨_, rfl, pa, pxs, rfl, .inl (SqT.keep hps fun o e _ => upd_keep e nt0), ?_, fun tp ntp => ?_⟩⟩
    · show ([V.ref t0] ++ (pxs ++ [])).length ≤ sizeLine
      rw [List.append_nil, List.length_append]
      exact Nat.le_trans (show [V.ref t0].length + pxs.length ≤ 101 by show 1 + _ ≤ 101; omega) (by decide)
    generalize e1 : upd H t0 _ = H1 at ntp ⊢
    have s1 : Same H H1 := e1 ▸ same_upd nt0
    have h1t : H1 t0 = some (.tup [.str "*", atmV a]) := e1 ▸ upd_same
    generalize e2 : upd H1 tp _ = H2
    have s2 : Same H1 H2 := e2 ▸ same_upd ntp
    have h2p : H2 tp = some (.tup (.ref t0 :: pxs)) := by
      rw [← e2, upd_same]
      show some (HO.tup (V.ref t0 :: ([] ++ (pxs ++ [])))) = _
      rw [List.nil_append, List.append_nil]
    have s02 := s1.trans s2
    have dall : DpAll K H2 (.ref t0 :: pxs) (((true, a) :: prs).map prD) := by
      refine .cons (.tup (SqT.of (s2 _ _ h1t)) (.cons (.str _) (.cons (atmD_dp a) .nil))) (DpAll.tk (Same.tk s02) _ _ (noLs_map prD noL_pr prs) hpa)
    have hq : ∀ (v : V) (H' : Hp), Kn N H H' → H' N = some (.lst (ns ++ (prodE room 1 ((true, a) :: prs)).2.map V.str)) → Dp K H' v (resD (prodE room 1 ((true, a) :: prs)).1) → Q v H' := q
    generalize hall : ((true, a) :: prs) = all at dall aok hq
    have lall : all.length ≤ 101 := by rw [← hall]; show prs.length + 1 ≤ 101; omega
    have lits : (V.ref t0 :: pxs).length = all.length := by
      have := DpAll.length dall
      rw [List.length_map] at this
      exact this
    generalize V.ref t0 :: pxs = its at h2p dall lits
    clear hps hpa lps h1t e2 e1 q
    refine ⟨tp, rfl, ⟨_, SqT.of h2p⟩, for_tup (K := K) (a := tp) (xs := its) (fun k σ H' => ∃ (p : Int) (dn : List Str) (v5 v6 v7 v8 : Option V), σ = [some (atmV a), some (.ref pa), some (.ref R), some (.ref N), some (.int p), v5, v6, v7, v8] ∧ p.natAbs ≤ 1000000000 ∧
        Kn N H2 H' ∧ H' N = some (.lst (ns ++ dn.map V.str)) ∧ dn.length ≤ k ∧ (prodE room 1 all).1 = (prodE room p (all.drop k)).1 ∧ (prodE room 1 all).2 = dn ++ (prodE room p (all.drop k)).2)
      ⟨1, [], _, _, _, _, rfl, by decide, fun _ _ _ e => e, by rw [s02 _ _ hN, List.map_nil, List.append_nil], Nat.le_refl _, rfl, rfl⟩ (fun k σ H' _ ⟨_, _, _, _, _, _, _, _, kk, _⟩ => Kn.tk kk (s02 _ _ hN) _ _ (SqT.of h2p)) ?_ ?_⟩
    · rintro k x σ H3 hx ⟨p, dn, v5, v6, v7, v8, rfl, hp, k3, h3N, hdn, c1, c2⟩
      have hk : k < all.length := by
        have := (List.getElem?_eq_some_iff.mp hx).1
        omega
      have hak : all[k]? = some all[k] := List.getElem?_eq_getElem hk
      have hdrop : all.drop k = all[k] :: all.drop (k + 1) := List.drop_eq_getElem_cons hk
      have okk := aok _ (List.getElem_mem hk)
      have d3 := DpAll.tk (Kn.tk k3 (s02 _ _ hN)) _ _ (noLs_map prD noL_pr all) dall
      obtain ⟨d, hd, dx⟩ := DpAll.getV d3 hx
      rw [List.getElem?_map, hak] at hd
      generalize all[k] = qk at hak hdrop okk hd
      obtain ⟨m, b⟩ := qk
      have ed : d = .tuple [.str (jS m), atmD b] := (Option.some.inj hd).symm
      subst ed
      rw [hdrop] at c1 c2
      cases dx with
      | tup st da =>
        cases da with
        | cons da1 da2 =>
          cases da1
          cases da2 with
          | cons da3 da4 =>
            cases da4
            rename_i tq bv
            have ebv : bv = atmV b := by
              cases b <;> (cases da3; rfl)
            subst ebv
            refine ⟨tq, _, rfl, st, rfl, _, _, rfl, _, _, rfl, rfl, ?_⟩
            have h3R := k3 _ _ nRN (s02 _ _ hR)
            refine ⟨_, rfl, _, rfl, _, rfl, b, R, N, room, _, rfl, h3R, rok, h3N, ?_, fun v H4 k4 h4N d4 => ?_⟩
            · rw [List.length_append, List.length_map]
              omega
            have k34 : Kn N H2 H4 := k3.trans k4
            have hns : ns ++ dn.map V.str ++ (atomS b).map V.str = ns ++ (dn ++ atomS b).map V.str := by rw [List.map_append, List.append_assoc]
            rw [hns] at h4N
            have lat : (atomS b).length ≤ 1 := by cases b with | nm z => exact Nat.le_refl _ | num n => exact Nat.zero_le _
            cases hat : atomN room b with
            | error f =>
              rw [hat] at d4
              have e1 : (prodE room p ((m, b) :: all.drop (k + 1))) = (.error f, atomS b) := by
                show (match atomN room b with | .error f => _ | .ok x => _) = _
                rw [hat]
              rw [e1] at c1 c2
              cases d4 with
              | tup st4 da4 =>
                cases da4 with
                | cons g1 g2 =>
                  cases g1
                  cases g2 with
                  | cons g3 g4 =>
                    cases g4
                    refine ⟨_, _, rfl, st4, rfl, _, _, rfl, _, _, rfl, rfl, ?_⟩
                    refine ⟨_, rfl, rfl, _, rfl, ?_⟩
                    rw [flt_tup g3]
                    refine iteF ⟨_, rfl, rfl, _, rfl, ?_⟩
                    rw [flt_tup g3]
                    refine iteT ⟨_, rfl, by show 2 ≤ sizeLine; decide, fun u nu => ?_⟩
                    refine hq _ _ (Kn.trans (Kn.of s02) (k34.trans (Kn.of (same_upd nu)))) ?_ ?_
                    · rw [c2]
                      exact upd_keep h4N nu
                    · rw [c1]
                      exact .tup (SqT.of upd_same) (.cons .non (.cons (Dp.tk (tk_put nu) _ _ (noL_flt f) g3) .nil))
            | ok x =>
              rw [hat] at d4
              cases d4 with
              | tup st4 da4 =>
                cases da4 with
                | cons g1 g2 =>
                  cases g1
                  cases g2 with
                  | cons g3 g4 =>
                    cases g4
                    cases g3
                    refine ⟨_, _, rfl, st4, rfl, _, _, rfl, _, _, rfl, rfl, ?_⟩
                    refine ⟨_, rfl, rfl, _, rfl, ?_⟩
                    rw [decide_eq_true rfl]
                    refine iteT ⟨_, rfl, _, rfl, _, rfl, p, m, x, rfl, hp, atomN_abs rok okk hat, fun v5' H5 s5 d5 => ?_⟩
                    cases hj : join2 p m x with
                    | error f =>
                      rw [hj] at d5
                      have e1 : (prodE room p ((m, b) :: all.drop (k + 1))) = (.error f, atomS b) := by
                        show (match atomN room b with | .error f => _ | .ok x => _) = _
                        rw [hat]
                        show (match join2 p m x with | .error f => _ | .ok q => _) = _
                        rw [hj]
                      rw [e1] at c1 c2
                      cases d5 with
                      | tup st5 da5 =>
                        cases da5 with
                        | cons g1 g2 =>
                          cases g1
                          cases g2 with
                          | cons g3 g4 =>
                            cases g4
                            refine ⟨_, _, rfl, st5, rfl, _, _, rfl, _, _, rfl, rfl, ?_⟩
                            refine ⟨_, rfl, rfl, _, rfl, ?_⟩
                            rw [flt_tup g3]
                            refine iteT ⟨_, rfl, by show 2 ≤ sizeLine; decide, fun u nu => ?_⟩
                            refine hq _ _ (Kn.trans (Kn.of s02) (k34.trans (Kn.of (s5.trans (same_upd nu))))) ?_ ?_
                            · rw [c2]
                              exact upd_keep (s5 _ _ h4N) nu
                            · rw [c1]
                              exact .tup (SqT.of upd_same) (.cons .non (.cons (Dp.tk (tk_put nu) _ _ (noL_flt f) g3) .nil))
                    | ok y =>
                      rw [hj] at d5
                      have e1 : (prodE room p ((m, b) :: all.drop (k + 1))) = ((prodE room y (all.drop (k + 1))).1, atomS b ++ (prodE room y (all.drop (k + 1))).2) := by
                        show (match atomN room b with | .error f => _ | .ok x => _) = _
                        rw [hat]
                        show (match join2 p m x with | .error f => _ | .ok q => _) = _
                        rw [hj]
                      rw [e1] at c1 c2
                      cases d5 with
                      | tup st5 da5 =>
                        cases da5 with
                        | cons g1 g2 =>
                          cases g1
                          cases g2 with
                          | cons g3 g4 =>
                            cases g4
                            cases g3
                            refine ⟨_, _, rfl, st5, rfl, _, _, rfl, _, _, rfl, rfl, ?_⟩
                            refine ⟨_, rfl, rfl, _, rfl, ?_⟩
                            rw [decide_eq_true rfl]
                            refine iteF ⟨y, dn ++ atomS b, _, _, _, _, rfl, join2_abs hj, k34.trans (Kn.of s5), s5 _ _ h4N, ?_, c1, ?_⟩
                            · rw [List.length_append]
                              omega
                            · rw [c2, List.append_assoc]
    · rintro σ H3 ⟨p, dn, v5, v6, v7, v8, rfl, hp, k3, h3N, hdn, c1, c2⟩
      rw [lits, List.drop_length] at c1 c2
      have e1 : prodE room p [] = (.ok p, []) := rfl
      rw [e1] at c1 c2
      refine ⟨_, rfl, by show 2 ≤ sizeLine; decide, fun u nu => hq _ _ (Kn.trans (Kn.of s02) (k3.trans (Kn.of (same_upd nu)))) ?_ ?_⟩
      · rw [c2, List.append_nil]
        exact upd_keep h3N nu
      · rw [c1]
        exact .tup (SqT.of upd_same) (.cons (.int _) (.cons .non .nil))

abbrev s_worked_out : Stmt := topS 23
abbrev n_worked_out : List Str := ["some", "room", "names", "total", "sign", "first", "pairs", "part", "fault"]
abbrev p_worked_out : List Str := ["some", "room"]
theorem sc_worked_out : FnScope n_worked_out p_worked_out (defScope s_worked_out) := ⟨rfl, rfl, rfl, by decide +kernel, rfl, by decide +kernel, by decide +kernel⟩
theorem prodE_len (room : Room_) : ∀ (l : List (Bool × Atm)) (p : Int), (prodE room p l).2.length ≤ l.length
  | [], p => Nat.zero_le _
  | (m, a) :: r, p => by
    have lat : (atomS a).length ≤ 1 := by cases a with | nm z => exact Nat.le_refl _ | num n => exact Nat.zero_le _
    show (match atomN room a with
      | .error f => ((.error f : Res), atomS a)
      | .ok x => match join2 p m x with
        | .error f => (.error f, atomS a)
        | .ok q => ((prodE room q r).1, atomS a ++ (prodE room q r).2)).2.length ≤ r.length + 1
    cases atomN room a with
    | error f => exact Nat.le_trans lat (by omega)
    | ok x =>
      show (match join2 p m x with
        | .error f => ((.error f : Res), atomS a)
        | .ok q => ((prodE room q r).1, atomS a ++ (prodE room q r).2)).2.length ≤ r.length + 1
      cases join2 p m x with
      | error f => exact Nat.le_trans lat (by omega)
      | ok q =>
        have := prodE_len room r q
        show (atomS a ++ (prodE room q r).2).length ≤ r.length + 1
        rw [List.length_append]
        omega
theorem prodE_abs (room : Room_) : ∀ (l : List (Bool × Atm)) (p v : Int), p.natAbs ≤ 1000000000 → (prodE room p l).1 = .ok v → v.natAbs ≤ 1000000000
  | [], p, v, hp, h => by
    have e : p = v := Except.ok.inj h
    omega
  | (m, a) :: r, p, v, hp, h => by
    have h' : (match atomN room a with
      | .error f => ((.error f : Res), atomS a)
      | .ok x => match join2 p m x with
        | .error f => (.error f, atomS a)
        | .ok q => ((prodE room q r).1, atomS a ++ (prodE room q r).2)).1 = .ok v := h
    cases ha : atomN room a with
    | error f => rw [ha] at h'; cases h'
    | ok x =>
      rw [ha] at h'
      have h2 : (match join2 p m x with
        | .error f => ((.error f : Res), atomS a)
        | .ok q => ((prodE room q r).1, atomS a ++ (prodE room q r).2)).1 = .ok v := h'
      cases hj : join2 p m x with
      | error f => rw [hj] at h2; cases h2
      | ok q =>
        rw [hj] at h2
        exact prodE_abs room r q v (join2_abs hj) h2
theorem sumE_cons (room : Room_) (t : Int) (p : Prd) (r : Sm) : sumE room t (p :: r) = (match (prodE room 1 ((true, p.fst) :: p.prs)).1 with
    | .error f => (.error f, (prodE room 1 ((true, p.fst) :: p.prs)).2)
    | .ok v => match lim (t + sgI p.neg * v) with
      | .error f => (.error f, (prodE room 1 ((true, p.fst) :: p.prs)).2)
      | .ok t' => ((sumE room t' r).1, (prodE room 1 ((true, p.fst) :: p.prs)).2 ++ (sumE room t' r).2)) := rfl
/-- all that is told: the value or the fault, and the list of names -/
def woutV (K : PySem.W.Frag) (H : Hp) (r : Res) (v : V) (N : Addr) : Prop :=
  ∃ t x1 x2, v = .ref t ∧ H t = some (.tup [x1, x2, .ref N]) ∧ match r with
    | .ok i => x1 = .int i ∧ x2 = .non
    | .error f => x1 = .non ∧ Dp K H x2 (fltD f)
def spWorked (K : PySem.W.Frag) : Sp := fun vs H Q _ => ∃ (s : Sm) (sv : V) (R : Addr) (room : Room_), vs = [sv, .ref R] ∧ Dp K H sv (smD s) ∧ SmOkB s ∧ H R = some (.dK room) ∧ RoomOk room ∧
  ∀ (v : V) (N : Addr) (H' : Hp), Same H H' → H N = none → H' N = some (.lst ((sumE room 0 s).2.map V.str)) → woutV K H' (sumE room 0 s).1 v N → Q v H'
theorem d_worked_out (S : Src K mg "worked_out" s_worked_out p_worked_out) (D_product_in : Dn P w K mg base "product_in" 3 p_product_in (spProd K)) (D_within_limit : Dn P w K mg base "within_limit" 1 p_within_limit (spLim K)) : Dn P w K mg base "worked_out" 4 p_worked_out (spWorked K) := by
  refine S.ok sc_worked_out (fun vs H Q E h => ?_) (fun f cdv A outer s H vs Q E hr h => ?_)
  · obtain ⟨_, _, _, _, rfl, _⟩ := h
    rfl
  · obtain ⟨sm, sv, R, room, rfl, hs, ok, hR, rok, q⟩ := h
    refine ⟨_, (pss_cons (ps_set (i := 2) sc_worked_out.nd rfl (Or.inl rfl) (pe_lst pa_nil))
    (pss_cons (ps_set (i := 3) sc_worked_out.nd rfl (Or.inl rfl) pe_int)
    (pss_cons (ps_for PassesOwn.never rfl (piK_tup (K := K) rfl (pv 0)) (pgK_tup (K := K) (n := 3) rfl rfl (pgs_cons (pg_name (i := 4) sc_worked_out.nd rfl (Or.inl rfl)) (pgs_cons (pg_name (i := 5) sc_worked_out.nd rfl (Or.inl rfl)) (pgs_cons (pg_name (i := 6) sc_worked_out.nd rfl (Or.inl rfl)) pgs_nil))))
    (pss_cons (ps_asg (pe_fn D_product_in (hr.mono (by decide)) (by rfl) (pa_cons (pv 5) (pa_cons (pv 6) (pa_cons (pv 1) (pa_cons (pv 2) pa_nil))))) (pgK_tup (K := K) (n := 2) rfl rfl (pgs_cons (pg_name (i := 7) sc_worked_out.nd rfl (Or.inl rfl)) (pgs_cons (pg_name (i := 8) sc_worked_out.nd rfl (Or.inl rfl)) pgs_nil))))
    (pss_cons (ps_if (pt_cmpR op_isN (pv 8) pe_non (nomark _)) (pss_one (ps_asg (pe_fn D_within_limit (hr.mono (by decide)) (by rfl) (pa_cons (pe_op op_add (pv 3) (pe_op op_mul (pv 4) (pv 7))) pa_nil)) (pgK_tup (K := K) (n := 2) rfl rfl (pgs_cons (pg_name (i := 3) sc_worked_out.nd rfl (Or.inl rfl)) (pgs_cons (pg_name (i := 8) sc_worked_out.nd rfl (Or.inl rfl)) pgs_nil))))) pss_nil)
    (pss_one (ps_if (pt_cmpR op_notN (pv 8) pe_non (nomark _)) (pss_one (ps_ret (pe_tup (pa_cons pe_non (pa_cons (pv 8) (pa_cons (pv 2) pa_nil)))))) pss_nil)))))
    (pss_one (ps_ret (pe_tup (pa_cons (pv 3) (pa_cons pe_non (pa_cons (pv 2) pa_nil))))))))), ?_⟩
    cases hs with
    | tup hps hpa =>
    rename_i pa pxs
    have lps := DpAll.length hpa
    rw [List.length_map] at lps
    refine ⟨Nat.zero_le _, fun N nN => ?_⟩
    generalize e1 : upd H N _ = H1
    have s1 : Same H H1 := e1 ▸ same_upd nN
    have h1N : H1 N = some (.lst []) := e1 ▸ upd_same
    have nRN : R ≠ N := ne_of_none hR nN
    refine ⟨_, rfl, pa, rfl, ⟨_, Same.tk s1 _ _ hps⟩, for_tup (K := K) (a := pa) (xs := pxs) (fun k σ H' => ∃ (t : Int) (dn : List Str) (v4 v5 v6 v7 v8 : Option V), σ = [some (.ref pa), some (.ref R), some (.ref N), some (.int t), v4, v5, v6, v7, v8] ∧ t.natAbs ≤ 1000000000 ∧
        Kn N H1 H' ∧ H' N = some (.lst (dn.map V.str)) ∧ dn.length + smN (sm.drop k) ≤ 20 ∧ (sumE room 0 sm).1 = (sumE room t (sm.drop k)).1 ∧ (sumE room 0 sm).2 = dn ++ (sumE room t (sm.drop k)).2)
      ⟨0, [], _, _, _, _, _, rfl, by decide, fun _ _ _ e => e, h1N, by show 0 + smN sm ≤ 20; have := ok.n; omega, rfl, rfl⟩ (fun k σ H' _ ⟨_, _, _, _, _, _, _, _, _, kk, _⟩ => Kn.tk kk h1N _ _ (Same.tk s1 _ _ hps)) ?_ ?_⟩
    · rintro k x σ H3 hx ⟨t, dn, v4, v5, v6, v7, v8, rfl, ht, k3, h3N, hdn, c1, c2⟩
      have hk : k < sm.length := by
        have := (List.getElem?_eq_some_iff.mp hx).1
        omega
      have hak : sm[k]? = some sm[k] := List.getElem?_eq_getElem hk
      have hdrop : sm.drop k = sm[k] :: sm.drop (k + 1) := List.drop_eq_getElem_cons hk
      have okk := ok.ok _ (List.getElem_mem hk)
      have d3 := DpAll.tk (TK.trans (Same.tk s1) (Kn.tk k3 h1N)) _ _ (noLs_map prdD noL_prd sm) hpa
      obtain ⟨d, hd, dx⟩ := DpAll.getV d3 hx
      rw [List.getElem?_map, hak] at hd
      generalize sm[k] = p at hak hdrop okk hd
      have ed : d = prdD p := (Option.some.inj hd).symm
      subst ed
      have hN20 : dn.length + (prdN p + smN (sm.drop (k + 1))) ≤ 20 := by
        rw [hdrop] at hdn
        exact hdn
      have hpn : prdN p = 1 + p.prs.length := rfl
      unfold prdOk at okk
      simp only [Bool.and_eq_true, List.all_eq_true] at okk
      have aok : allOk ((true, p.fst) :: p.prs) := by
        intro q hq
        rcases List.mem_cons.mp hq with rfl | hq
        · exact okk.1
        · exact okk.2 q hq
      rw [hdrop, sumE_cons] at c1 c2
      have pl := prodE_len room ((true, p.fst) :: p.prs) 1
      have pabs := prodE_abs room ((true, p.fst) :: p.prs) 1
      cases dx with
      | tup st da =>
        cases da with
        | cons da1 da2 =>
          cases da1
          cases da2 with
          | cons da3 da4 =>
            cases da4 with
            | cons da5 da6 =>
              cases da6
              rename_i tq bv pv_
              have ebv : bv = atmV p.fst := by
                cases hh : p.fst <;> (rw [hh] at da3; cases da3; rfl)
              subst ebv
              refine ⟨tq, _, rfl, st, rfl, _, _, rfl, _, _, rfl, _, _, rfl, rfl, ?_⟩
              have h3R := k3 _ _ nRN (s1 _ _ hR)
              refine ⟨_, rfl, _, rfl, _, rfl, _, rfl, p.fst, p.prs, pv_, R, N, room, _, rfl, da5, aok, by omega, h3R, rok, h3N, by rw [List.length_map]; omega, fun v H4 k4 h4N d4 => ?_⟩
              rw [← List.map_append] at h4N
              generalize prodE room 1 ((true, p.fst) :: p.prs) = pr at c1 c2 h4N d4 pl pabs
              obtain ⟨res, nms⟩ := pr
              have k34 : Kn N H1 H4 := k3.trans k4
              have pl' : nms.length ≤ 1 + p.prs.length := by
                have : nms.length ≤ ((true, p.fst) :: p.prs).length := pl
                rw [List.length_cons] at this
                omega
              cases res with
              | error f =>
                cases d4 with
                | tup st4 da4 =>
                  cases da4 with
                  | cons g1 g2 =>
                    cases g1
                    cases g2 with
                    | cons g3 g4 =>
                      cases g4
                      refine ⟨_, _, rfl, st4, rfl, _, _, rfl, _, _, rfl, rfl, ?_⟩
                      refine ⟨_, rfl, rfl, _, rfl, ?_⟩
                      rw [flt_tup g3]
                      refine iteF ⟨_, rfl, rfl, _, rfl, ?_⟩
                      rw [flt_tup g3]
                      refine iteT ⟨_, rfl, _, rfl, by show 3 ≤ sizeLine; decide, fun u nu => ?_⟩
                      refine q _ N _ ?_ nN ?_ ?_
                      · exact fun a o e => (same_upd nu) a o (k34 a o (ne_of_none e nN) (s1 a o e))
                      · rw [c2]
                        exact upd_keep h4N nu
                      · rw [c1]
                        exact ⟨u, _, _, rfl, upd_same, rfl, Dp.tk (tk_put nu) _ _ (noL_flt f) g3⟩
              | ok y =>
                cases d4 with
                | tup st4 da4 =>
                  cases da4 with
                  | cons g1 g2 =>
                    cases g1
                    cases g2 with
                    | cons g3 g4 =>
                      cases g4
                      cases g3
                      have hy := pabs y (by decide) rfl
                      refine ⟨_, _, rfl, st4, rfl, _, _, rfl, _, _, rfl, rfl, ?_⟩
                      refine ⟨_, rfl, rfl, _, rfl, ?_⟩
                      rw [decide_eq_true rfl]
                      have hsg : sgI p.neg = 1 ∨ sgI p.neg = -1 := by
                        unfold sgI
                        split
                        · exact .inr rfl
                        · exact .inl rfl
                      refine iteT ⟨_, rfl, _, rfl, _, rfl, sgI p.neg, y, rfl, rfl, .inl ⟨by omega, by omega⟩, t, _, rfl, rfl, t + sgI p.neg * y, rfl, fun v5' H5 s5 d5 => ?_⟩
                      have c1' : (sumE room 0 sm).1 = (match lim (t + sgI p.neg * y) with
                          | .error f => ((.error f : Res), nms)
                          | .ok t' => ((sumE room t' (sm.drop (k + 1))).1, nms ++ (sumE room t' (sm.drop (k + 1))).2)).1 := c1
                      have c2' : (sumE room 0 sm).2 = dn ++ (match lim (t + sgI p.neg * y) with
                          | .error f => ((.error f : Res), nms)
                          | .ok t' => ((sumE room t' (sm.drop (k + 1))).1, nms ++ (sumE room t' (sm.drop (k + 1))).2)).2 := c2
                      cases hj : lim (t + sgI p.neg * y) with
                      | error f =>
                        rw [hj] at d5 c1' c2'
                        cases d5 with
                        | tup st5 da5 =>
                          cases da5 with
                          | cons g1 g2 =>
                            cases g1
                            cases g2 with
                            | cons g3 g4 =>
                              cases g4
                              refine ⟨_, _, rfl, st5, rfl, _, _, rfl, _, _, rfl, rfl, ?_⟩
                              refine ⟨_, rfl, rfl, _, rfl, ?_⟩
                              rw [flt_tup g3]
                              refine iteT ⟨_, rfl, _, rfl, by show 3 ≤ sizeLine; decide, fun u nu => ?_⟩
                              refine q _ N _ ?_ nN ?_ ?_
                              · exact fun a o e => (same_upd nu) a o (s5 a o (k34 a o (ne_of_none e nN) (s1 a o e)))
                              · rw [c2']
                                exact upd_keep (s5 _ _ h4N) nu
                              · rw [c1']
                                exact ⟨u, _, _, rfl, upd_same, rfl, Dp.tk (tk_put nu) _ _ (noL_flt f) g3⟩
                      | ok t' =>
                        rw [hj] at d5 c1' c2'
                        cases d5 with
                        | tup st5 da5 =>
                          cases da5 with
                          | cons g1 g2 =>
                            cases g1
                            cases g2 with
                            | cons g3 g4 =>
                              cases g4
                              cases g3
                              refine ⟨_, _, rfl, st5, rfl, _, _, rfl, _, _, rfl, rfl, ?_⟩
                              refine ⟨_, rfl, rfl, _, rfl, ?_⟩
                              rw [decide_eq_true rfl]
                              have hl := lim_ok hj
                              refine iteF ⟨t', dn ++ nms, _, _, _, _, _, rfl, by omega, k34.trans (Kn.of s5), s5 _ _ h4N, ?_, c1', ?_⟩
                              · rw [List.length_append]
                                omega
                              · rw [c2', List.append_assoc]
    · rintro σ H3 ⟨t, dn, v4, v5, v6, v7, v8, rfl, ht, k3, h3N, hdn, c1, c2⟩
      rw [lps, List.drop_length] at c1 c2
      have e1 : sumE room t [] = (.ok t, []) := rfl
      rw [e1] at c1 c2
      refine ⟨_, rfl, _, rfl, by show 3 ≤ sizeLine; decide, fun u nu => q _ N _ ?_ nN ?_ ?_⟩
      · exact fun a o e => (same_upd nu) a o (k3 a o (ne_of_none e nN) (s1 a o e))
      · rw [c2, List.append_nil]
        exact upd_keep h3N nu
      · rw [c1]
        exact ⟨u, _, _, rfl, upd_same, rfl, rfl⟩

abbrev s_Run___init__ : Stmt := inClass (topS 25) 0
abbrev n_Run___init__ : List Str := ["self", "room"]
abbrev p_Run___init__ : List Str := ["self", "room"]
theorem sc_Run___init__ : FnScope n_Run___init__ p_Run___init__ (defScope s_Run___init__) := ⟨rfl, rfl, rfl, by decide +kernel, rfl, by decide +kernel, by decide +kernel⟩
/-- a run's instance at a: the room, what is shown, the first reads, what is changed, each at its own place -/
def runFs (d1 l d2 d3 : Addr) : List (Str × V) := [("standing", .ref d1), ("shown", .ref l), ("first_reads", .ref d2), ("changed", .ref d3)]
theorem runFs_put (d1 l d2 d3 : Addr) : putF "changed" (.ref d3) (putF "first_reads" (.ref d2) (putF "shown" (.ref l) (putF "standing" (.ref d1) []))) = runFs d1 l d2 d3 := by
  have e1 : putF ("standing" : Str) (.ref d1) [] = [(("standing" : Str), V.ref d1)] := rfl
  have e2 : putF ("shown" : Str) (.ref l) [(("standing" : Str), V.ref d1)] = [(("standing" : Str), V.ref d1), ("shown", V.ref l)] := by
    show (if ("standing" : Str) = "shown" then _ else (("standing" : Str), V.ref d1) :: putF "shown" (V.ref l) []) = _
    rw [if_neg (by decide +kernel)]
    rfl
  have e3 : putF ("first_reads" : Str) (.ref d2) [(("standing" : Str), V.ref d1), ("shown", V.ref l)] = [(("standing" : Str), V.ref d1), ("shown", V.ref l), ("first_reads", V.ref d2)] := by
    show (if ("standing" : Str) = "first_reads" then _ else (("standing" : Str), V.ref d1) :: (if ("shown" : Str) = "first_reads" then _ else (("shown" : Str), V.ref l) :: putF "first_reads" (V.ref d2) [])) = _
    rw [if_neg (by decide +kernel), if_neg (by decide +kernel)]
    rfl
  rw [e1, e2, e3]
  show (if ("standing" : Str) = "changed" then _ else (("standing" : Str), V.ref d1) :: (if ("shown" : Str) = "changed" then _ else (("shown" : Str), V.ref l) :: (if ("first_reads" : Str) = "changed" then _ else (("first_reads" : Str), V.ref d2) :: putF "changed" (V.ref d3) []))) = _
  rw [if_neg (by decide +kernel), if_neg (by decide +kernel), if_neg (by decide +kernel)]
  rfl
theorem runFs_at (d1 l d2 d3 : Addr) : (runFs d1 l d2 d3).lookup ("standing" : Str) = some (.ref d1) ∧ (runFs d1 l d2 d3).lookup ("shown" : Str) = some (.ref l) ∧ (runFs d1 l d2 d3).lookup ("first_reads" : Str) = some (.ref d2) ∧ (runFs d1 l d2 d3).lookup ("changed" : Str) = some (.ref d3) := by
  rw [← runFs_put]
  refine ⟨?_, ?_, ?_, ?_⟩
  · rw [lookup_putF, if_neg (by decide +kernel), lookup_putF, if_neg (by decide +kernel), lookup_putF, if_neg (by decide +kernel), lookup_putF, if_pos rfl]
  · rw [lookup_putF, if_neg (by decide +kernel), lookup_putF, if_neg (by decide +kernel), lookup_putF, if_pos rfl]
  · rw [lookup_putF, if_neg (by decide +kernel), lookup_putF, if_pos rfl]
  · rw [lookup_putF, if_pos rfl]
theorem runFs_no (d1 l d2 d3 : Addr) {m : Str} (h : ¬ m = "changed" ∧ ¬ m = "first_reads" ∧ ¬ m = "shown" ∧ ¬ m = "standing") : (runFs d1 l d2 d3).lookup m = none := by
  rw [← runFs_put, lookup_putF, if_neg h.1, lookup_putF, if_neg h.2.1, lookup_putF, if_neg h.2.2.1, lookup_putF, if_neg h.2.2.2]
  rfl
structure RunAt (mg : Str → Option Value) (a d1 l d2 d3 : Addr) (H : Hp) (st : RS) : Prop where
  ins : ∃ C dx, mg "Run" = some (.ref C) ∧ H a = some (.ins C dx (runFs d1 l d2 d3))
  h1 : H d1 = some (.dK st.room)
  hl : H l = some (.lst (st.shown.map V.int))
  h2 : H d2 = some (.dK st.reads)
  h3 : H d3 = some (.dK st.chg)
  n12 : d1 ≠ d2
  n13 : d1 ≠ d3
  n23 : d2 ≠ d3
  rok : RoomOk st.room
  b1 : st.room.length ≤ 1000
  bl : st.shown.length ≤ 1000
  b2 : st.reads.length ≤ 1000
  b3 : st.chg.length ≤ 1000
def rs0 (room : Room_) : RS := ⟨room, [], [], []⟩
def spRunNew (mg : Str → Option Value) : Sp := fun vs H Q _ => ∃ (R : Addr) (room : Room_), vs = [.ref R] ∧ Rd H R (.dK room) ∧ RoomOk room ∧ room.length ≤ 1000 ∧
  ∀ (a d1 l d2 d3 : Addr) (H' : Hp), Same H H' → H a = none → H d1 = none → H l = none → H d2 = none → H d3 = none → RunAt mg a d1 l d2 d3 H' (rs0 room) → Q (.ref a) H'
def spRunInit (C : Addr) : Sp := fun vs H Q _ => ∃ (a dx R : Addr) (room : Room_), vs = [.ref a, .ref R] ∧ H a = some (.ins C dx []) ∧ Rd H R (.dK room) ∧
  ∀ (d1 l d2 d3 : Addr) (H' : Hp), (∀ x o, x ≠ a → H x = some o → H' x = some o) → H d1 = none → H l = none → H d2 = none → H d3 = none → d1 ≠ d2 → d1 ≠ d3 → d2 ≠ d3 → H' a = some (.ins C dx (runFs d1 l d2 d3)) →
    H' d1 = some (.dK room) → H' l = some (.lst []) → H' d2 = some (.dK []) → H' d3 = some (.dK []) → Q .non H'
theorem d_Run___init__ (S : SrcI K mg "Run" "Run.__init__" s_Run___init__ p_Run___init__) (T : Txt K w mg) : DnC P w K mg base "Run" 1 (spRunNew mg) := by
  refine S.ok sc_Run___init__ spRunInit (fun C vs H Q E h => ?_) (fun C f cdv A outer s H vs Q E hmC hr h => ?_) (fun C hmC vs H Q E h x dx nx nd ne => ?_)
  · obtain ⟨_, _, _, _, rfl, _⟩ := h
    rfl
  · obtain ⟨a, dx, R, room, rfl, ha, hR, q⟩ := h
    obtain ⟨C', hC', cC, z1, z2, z3, z4⟩ := T.k_Run
    have eC : C' = C := by
      rw [hmC] at hC'
      cases hC'
      rfl
    subst eC
    refine ⟨_, (pss_cons (ps_fld (pv 0) (pe_callTy call_dictD (by rfl) T.n_dict (by decide +kernel) (pa_cons (pv 1) pa_nil)) rfl)
    (pss_cons (ps_fld (pv 0) (pe_lst pa_nil) rfl)
    (pss_cons (ps_fld (pv 0) pe_dnewK rfl)
    (pss_one (ps_fld (pv 0) pe_dnewK rfl))))), ?_⟩
    refine ⟨_, rfl, R, room, rfl, hR, fun d1 nd1 => ?_⟩
    have na1 : a ≠ d1 := ne_of_none ha nd1
    generalize e1 : upd H d1 _ = H1
    have s1 : Same H H1 := e1 ▸ same_upd nd1
    have g1 : H1 d1 = some (.dK room) := e1 ▸ upd_same
    refine ⟨_, rfl, a, C', dx, [], rfl, s1 _ _ ha, cC, z1, by show 0 < 1000; decide, ?_⟩
    generalize e2 : upd H1 a _ = H2
    have k2 : ∀ x o, x ≠ a → H1 x = some o → H2 x = some o := fun x o n e => by rw [← e2, upd_ne n]; exact e
    have a2 : H2 a = some (.ins C' dx (putF "standing" (.ref d1) [])) := e2 ▸ upd_same
    refine ⟨Nat.zero_le _, fun l nl => ?_⟩
    have nal : a ≠ l := ne_of_none a2 nl
    generalize e3 : upd H2 l _ = H3
    have s3 : Same H2 H3 := e3 ▸ same_upd nl
    have gl : H3 l = some (.lst []) := e3 ▸ upd_same
    refine ⟨_, rfl, a, C', dx, _, rfl, s3 _ _ a2, cC, z2, by show 1 < 1000; decide, ?_⟩
    generalize e4 : upd H3 a _ = H4
    have k4 : ∀ x o, x ≠ a → H3 x = some o → H4 x = some o := fun x o n e => by rw [← e4, upd_ne n]; exact e
    have a4 : H4 a = some (.ins C' dx (putF "shown" (.ref l) (putF "standing" (.ref d1) []))) := e4 ▸ upd_same
    intro d2 nd2
    have na2 : a ≠ d2 := ne_of_none a4 nd2
    generalize e5 : upd H4 d2 _ = H5
    have s5 : Same H4 H5 := e5 ▸ same_upd nd2
    have g2 : H5 d2 = some (.dK []) := e5 ▸ upd_same
    refine ⟨_, rfl, a, C', dx, _, rfl, s5 _ _ a4, cC, z3, by show 2 < 1000; decide, ?_⟩
    generalize e6 : upd H5 a _ = H6
    have k6 : ∀ x o, x ≠ a → H5 x = some o → H6 x = some o := fun x o n e => by rw [← e6, upd_ne n]; exact e
    have a6 : H6 a = some (.ins C' dx (putF "first_reads" (.ref d2) (putF "shown" (.ref l) (putF "standing" (.ref d1) [])))) := e6 ▸ upd_same
    intro d3 nd3
    have na3 : a ≠ d3 := ne_of_none a6 nd3
    generalize e7 : upd H6 d3 _ = H7
    have s7 : Same H6 H7 := e7 ▸ same_upd nd3
    have g3 : H7 d3 = some (.dK []) := e7 ▸ upd_same
    refine ⟨_, rfl, a, C', dx, _, rfl, s7 _ _ a6, cC, z4, by show 3 < 1000; decide, ?_⟩
    have kall : ∀ x o, x ≠ a → H2 x = some o → H7 x = some o := fun x o n e => s7 _ _ (k6 x o n (s5 _ _ (k4 x o n (s3 _ _ e))))
    have k07 : ∀ x o, x ≠ a → H x = some o → H7 x = some o := fun x o n e => kall x o n (k2 x o n (s1 _ _ e))
    have off : ∀ x, x ≠ a → (H7 x = none ∨ H6 x = none ∨ H4 x = none ∨ H2 x = none) → H x = none := fun x n h => by
      cases e : H x with
      | none => rfl
      | some o =>
        have e2' := k2 x o n (s1 _ _ e)
        have e4' := k4 x o n (s3 _ _ e2')
        have e6' := k6 x o n (s5 _ _ e4')
        have e7' := s7 _ _ e6'
        rcases h with h | h | h | h
        · rw [e7'] at h; cases h
        · rw [e6'] at h; cases h
        · rw [e4'] at h; cases h
        · rw [e2'] at h; cases h
    have g1' : H7 d1 = some (.dK room) := kall d1 _ na1.symm (k2 _ _ na1.symm g1)
    have gl' : H7 l = some (.lst []) := s7 _ _ (k6 l _ nal.symm (s5 _ _ (k4 l _ nal.symm gl)))
    have g2' : H7 d2 = some (.dK []) := s7 _ _ (k6 d2 _ na2.symm g2)
    have n12 : d1 ≠ d2 := fun e => by
      have h := k4 d1 _ na1.symm (s3 _ _ (k2 _ _ na1.symm g1))
      rw [e, nd2] at h
      cases h
    have n13 : d1 ≠ d3 := fun e => by
      have h := k6 d1 _ na1.symm (s5 _ _ (k4 d1 _ na1.symm (s3 _ _ (k2 _ _ na1.symm g1))))
      rw [e, nd3] at h
      cases h
    have n23 : d2 ≠ d3 := fun e => by
      have h := k6 d2 _ na2.symm g2
      rw [e, nd3] at h
      cases h
    refine q d1 l d2 d3 _ (fun x o n e => by rw [upd_ne n]; exact k07 x o n e) nd1 (off l nal.symm (.inr (.inr (.inr nl)))) (off d2 na2.symm (.inr (.inr (.inl nd2)))) (off d3 na3.symm (.inr (.inl nd3))) n12 n13 n23 (by rw [upd_same]; exact congrArg (fun z => some (HO.ins C' dx z)) (runFs_put d1 l d2 d3)) (by rw [upd_ne na1.symm]; exact g1') (by rw [upd_ne nal.symm]; exact gl') (by rw [upd_ne na2.symm]; exact g2') (by rw [upd_ne na3.symm]; exact g3)
  · obtain ⟨R, room, rfl, hR, rok, hl, q⟩ := h
    have s0 : Same H (upd (upd H dx (.own x)) x (.ins C dx [])) := fun b o e => by
      rw [upd_ne (ne_of_none e nx), upd_ne (ne_of_none e nd)]
      exact e
    have hR' : Rd (upd (upd H dx (.own x)) x (.ins C dx [])) R (.dK room) := by
      rcases hR with h | ⟨o, h⟩
      · exact .inl (s0 _ _ h)
      · exact .inr ⟨o, s0 _ _ h⟩
    refine ⟨x, dx, R, room, rfl, upd_same, hR', fun d1 l d2 d3 H' k f1 fl f2 f3 n12 n13 n23 ga g1 gl g2 g3 => ⟨rfl, ?_⟩⟩
    refine q x d1 l d2 d3 H' (fun b o e => k b o (ne_of_none e nx) (s0 b o e)) nx (s0.free f1) (s0.free fl) (s0.free f2) (s0.free f3) ⟨⟨C, dx, hmC, ga⟩, g1, gl, g2, g3, n12, n13, n23, rok, hl, Nat.zero_le _, Nat.zero_le _, Nat.zero_le _⟩

abbrev s_Run_change : Stmt := inClass (topS 25) 3
abbrev n_Run_change : List Str := ["self", "name", "value"]
abbrev p_Run_change : List Str := ["self", "name", "value"]
theorem sc_Run_change : FnScope n_Run_change p_Run_change (defScope s_Run_change) := ⟨rfl, rfl, rfl, by decide +kernel, rfl, by decide +kernel, by decide +kernel⟩
/-- all but a run's four own objects is kept -/
def Kr (d1 l d2 d3 : Addr) (H H' : Hp) : Prop := ∀ x o, x ≠ d1 → x ≠ l → x ≠ d2 → x ≠ d3 → H x = some o → H' x = some o
theorem Kr.trans {d1 l d2 d3 : Addr} {H H1 H2 : Hp} (a : Kr d1 l d2 d3 H H1) (b : Kr d1 l d2 d3 H1 H2) : Kr d1 l d2 d3 H H2 := fun x o n1 n2 n3 n4 e => b x o n1 n2 n3 n4 (a x o n1 n2 n3 n4 e)
theorem Kr.of {d1 l d2 d3 : Addr} {H H' : Hp} (s : Same H H') : Kr d1 l d2 d3 H H' := fun x o _ _ _ _ e => s x o e
theorem RunAt.ne {mg : Str → Option Value} {a d1 l d2 d3 : Addr} {H : Hp} {st : RS} (R : RunAt mg a d1 l d2 d3 H st) : a ≠ d1 ∧ a ≠ l ∧ a ≠ d2 ∧ a ≠ d3 ∧ l ≠ d1 ∧ l ≠ d2 ∧ l ≠ d3 := by
  obtain ⟨C, dx, _, h⟩ := R.ins
  exact ⟨ne_of h R.h1 (by intro q; cases q), ne_of h R.hl (by intro q; cases q), ne_of h R.h2 (by intro q; cases q), ne_of h R.h3 (by intro q; cases q), ne_of R.hl R.h1 (by intro q; cases q), ne_of R.hl R.h2 (by intro q; cases q), ne_of R.hl R.h3 (by intro q; cases q)⟩
theorem Kr.tk {K : PySem.W.Frag} {mg : Str → Option Value} {a d1 l d2 d3 : Addr} {H H' : Hp} {st : RS} (R : RunAt mg a d1 l d2 d3 H st) (k : Kr d1 l d2 d3 H H') : TK K H H' := fun t xs h => SqT.keep h fun o e tp => by
  have no : ∀ x u, H x = some u → (∀ z, u ≠ .tup z) ∧ (∀ ob z, u ≠ .frz ob z) → t ≠ x := fun x u e2 hu q => by
    rw [q, e2] at e
    have e' : u = o := Option.some.inj e
    rcases tp with ⟨z, rfl⟩ | ⟨ob, z, rfl⟩
    · exact hu.1 _ e'
    · exact hu.2 _ _ e'
  exact k t o (no _ _ R.h1 ⟨fun _ q => (by cases q), fun _ _ q => (by cases q)⟩) (no _ _ R.hl ⟨fun _ q => (by cases q), fun _ _ q => (by cases q)⟩) (no _ _ R.h2 ⟨fun _ q => (by cases q), fun _ _ q => (by cases q)⟩) (no _ _ R.h3 ⟨fun _ q => (by cases q), fun _ _ q => (by cases q)⟩) e
theorem RunAt.same {mg : Str → Option Value} {a d1 l d2 d3 : Addr} {H H' : Hp} {st : RS} (R : RunAt mg a d1 l d2 d3 H st) (s : Same H H') : RunAt mg a d1 l d2 d3 H' st := by
  obtain ⟨C, dx, hm, h⟩ := R.ins
  exact ⟨⟨C, dx, hm, s _ _ h⟩, s _ _ R.h1, s _ _ R.hl, s _ _ R.h2, s _ _ R.h3, R.n12, R.n13, R.n23, R.rok, R.b1, R.bl, R.b2, R.b3⟩
def optV : Option Int → V
  | none => .non
  | some i => .int i
theorem roomOk_put {room : Room_} (h : RoomOk room) (n : Str) (i : Int) (hi : i.natAbs ≤ 1000000000) : RoomOk (putK room (.inr n) (.int i)) := by
  intro p hp
  unfold putK at hp
  split at hp
  · obtain ⟨q, hq, e⟩ := List.mem_map.mp hp
    obtain ⟨z, j, eq, hj⟩ := h q hq
    subst eq
    by_cases hz : (Sum.inr z : Key) = Sum.inr n
    · have e2 : ((Sum.inr z : Key), V.int i) = p := by
        have e' : (if (Sum.inr z : Key) = Sum.inr n then ((Sum.inr z : Key), V.int i) else (Sum.inr z, V.int j)) = p := e
        rw [if_pos hz] at e'
        exact e'
      exact ⟨z, i, e2.symm, hi⟩
    · have e2 : ((Sum.inr z : Key), V.int j) = p := by
        have e' : (if (Sum.inr z : Key) = Sum.inr n then ((Sum.inr z : Key), V.int i) else (Sum.inr z, V.int j)) = p := e
        rw [if_neg hz] at e'
        exact e'
      exact ⟨z, j, e2.symm, hj⟩
  · rcases List.mem_append.mp hp with hp | hp
    · exact h p hp
    · exact ⟨n, i, List.mem_singleton.mp hp, hi⟩
theorem roomOk_drop {room : Room_} (h : RoomOk room) (n : Str) : RoomOk (dropK room (.inr n)) := fun p hp => h p (dropK_mem hp)
theorem dropK_le (room : Room_) (k : Key) : (dropK room k).length ≤ room.length := List.length_filter_le _ _
def spChange (mg : Str → Option Value) : Sp := fun vs H Q _ => ∃ (a d1 l d2 d3 : Addr) (st : RS) (n : Str) (v : Option Int), vs = [.ref a, .str n, optV v] ∧ RunAt mg a d1 l d2 d3 H st ∧ (∀ i, v = some i → i.natAbs ≤ 1000000000) ∧ st.chg.length < 1000 ∧ st.room.length < 1000 ∧
  ∀ (H' : Hp), Kr d1 l d2 d3 H H' → RunAt mg a d1 l d2 d3 H' (changeE st n v) → Q .non H'
theorem d_Run_change (S : SrcM K mg "Run" "change" "Run.change" s_Run_change p_Run_change) (T : Txt K w mg) : DnM P w K mg base "Run" "change" 1 p_Run_change (spChange mg) := by
  refine S.ok sc_Run_change (fun vs H Q E h => ?_) (fun f cdv A outer s H vs Q E hr h => ?_)
  · obtain ⟨_, _, _, _, _, _, _, _, rfl, _⟩ := h
    rfl
  · obtain ⟨a, d1, l, d2, d3, st, n, v, rfl, RA, hv, hb3, hb1, q⟩ := h
    obtain ⟨C', hC', cC, z1, z2, z3, z4⟩ := T.k_Run
    obtain ⟨na1, nal, na2, na3, nl1, nl2, nl3⟩ := RA.ne
    obtain ⟨C, dx, hm, ha⟩ := RA.ins
    have eC : C' = C := by
      rw [hm] at hC'
      cases hC'
      rfl
    subst eC
    obtain ⟨f1, fl, f2, f3⟩ := runFs_at d1 l d2 d3
    refine ⟨_, (pss_cons (ps_dput (hu_of hr) (pe_fldK (K := K) rfl (pv 0) rfl) (pv 1) pe_bl rfl)
    (pss_one (ps_if (pt_cmpR op_isN (pv 2) pe_non (nomark _)) (pss_one (ps_expr (pe_dpop2 (pe_fldK (K := K) rfl (pv 0) rfl) (pv 1) pe_non ⟨rfl, rfl, rfl, rfl⟩))) (pss_one (ps_dput (hu_of hr) (pe_fldK (K := K) rfl (pv 0) rfl) (pv 1) (pv 2) rfl))))), ?_⟩
    refine ⟨_, rfl, a, C', dx, _, _, rfl, ha, cC, z4, f3, _, rfl, d3, _, rfl, DPut.k (k := Sum.inr n) RA.h3 (Nat.lt_of_le_of_lt RA.b3 (by decide)), ?_⟩
    generalize e1 : upd H d3 _ = H1
    have k1 : ∀ x o, x ≠ d3 → H x = some o → H1 x = some o := fun x o n e => by rw [← e1, upd_ne n]; exact e
    have g3 : H1 d3 = some (.dK (putK st.chg (.inr n) (.bl true))) := e1 ▸ upd_same
    have ha1 := k1 a _ na3 ha
    have g1 := k1 d1 _ RA.n13 RA.h1
    have hlen := length_putK st.chg (Sum.inr n : Key) (.bl true)
    have hlen1 := length_putK st.room (Sum.inr n : Key)
    refine ⟨_, rfl, rfl, _, rfl, ?_⟩
    cases v with
    | none =>
      rw [show decide (optV none = .non) = true from decide_eq_true rfl]
      have fin : ∀ H', (∀ x o, x ≠ d1 → H1 x = some o → H' x = some o) → H' d1 = some (.dK (dropK st.room (.inr n))) → Q .non H' := fun H' k2 g => by
        refine q H' (fun x o n1 n2 n3 n4 e => k2 x o n1 (k1 x o n4 e)) ⟨⟨C', dx, hm, k2 a _ na1 ha1⟩, g, k2 l _ nl1 (k1 l _ nl3 RA.hl), k2 d2 _ RA.n12.symm (k1 d2 _ RA.n23 RA.h2), k2 d3 _ RA.n13.symm g3, RA.n12, RA.n13, RA.n23, roomOk_drop RA.rok n, Nat.le_trans (dropK_le _ _) RA.b1, RA.bl, RA.b2, ?_⟩
        show (putK st.chg (Sum.inr n) (.bl true)).length ≤ 1000
        omega
      refine iteT ⟨_, rfl, a, C', dx, _, _, rfl, ha1, cC, z1, f1, d1, rfl, .inl ⟨_, .inl g1⟩, _, rfl, st.room, Sum.inr n, g1, rfl, fun v hv2 => ?_, fun hn => ?_⟩
      · exact fin _ (fun x o n e => by rw [upd_ne n]; exact e) upd_same
      · refine fin _ (fun x o _ e => e) ?_
        rw [dropK_no (valV_not hn)]
        exact g1
    | some i =>
      rw [show decide (optV (some i) = .non) = false from decide_eq_false (fun e => by cases e)]
      refine iteF ⟨_, rfl, _, rfl, a, C', dx, _, _, rfl, ha1, cC, z1, f1, _, rfl, d1, _, rfl, DPut.k (k := Sum.inr n) g1 (Nat.lt_of_le_of_lt RA.b1 (by decide)), ?_⟩
      have hl1 := hlen1 (.int i)
      refine q _ (fun x o n1 n2 n3 n4 e => by rw [upd_ne n1]; exact k1 x o n4 e) ⟨⟨C', dx, hm, by rw [upd_ne na1]; exact ha1⟩, upd_same, by rw [upd_ne nl1]; exact k1 l _ nl3 RA.hl, by rw [upd_ne RA.n12.symm]; exact k1 d2 _ RA.n23 RA.h2, by rw [upd_ne RA.n13.symm]; exact g3, RA.n12, RA.n13, RA.n23, roomOk_put RA.rok n i (hv i rfl), ?_, RA.bl, RA.b2, ?_⟩
      · show (putK st.room (Sum.inr n) (.int i)).length ≤ 1000
        omega
      · show (putK st.chg (Sum.inr n) (.bl true)).length ≤ 1000
        omega

abbrev s_Run_work_out : Stmt := inClass (topS 25) 2
abbrev n_Run_work_out : List Str := ["self", "some", "value", "fault", "names", "name"]
abbrev p_Run_work_out : List Str := ["self", "some"]
theorem sc_Run_work_out : FnScope n_Run_work_out p_Run_work_out (defScope s_Run_work_out) := ⟨rfl, rfl, rfl, by decide +kernel, rfl, by decide +kernel, by decide +kernel⟩
theorem sumE_len (room : Room_) : ∀ (s : Sm) (t : Int), (sumE room t s).2.length ≤ smN s
  | [], t => Nat.zero_le _
  | p :: r, t => by
    have h1 := prodE_len room ((true, p.fst) :: p.prs) 1
    rw [List.length_cons] at h1
    rw [sumE_cons]
    show _ ≤ (1 + p.prs.length) + smN r
    cases hp : (prodE room 1 ((true, p.fst) :: p.prs)).1 with
    | error f =>
      show (prodE room 1 ((true, p.fst) :: p.prs)).2.length ≤ _
      omega
    | ok v =>
      show (match lim (t + sgI p.neg * v) with
        | .error f => ((.error f : Res), (prodE room 1 ((true, p.fst) :: p.prs)).2)
        | .ok t' => ((sumE room t' r).1, (prodE room 1 ((true, p.fst) :: p.prs)).2 ++ (sumE room t' r).2)).2.length ≤ _
      cases lim (t + sgI p.neg * v) with
      | error f =>
        show (prodE room 1 ((true, p.fst) :: p.prs)).2.length ≤ _
        omega
      | ok t' =>
        have := sumE_len room r t'
        show ((prodE room 1 ((true, p.fst) :: p.prs)).2 ++ (sumE room t' r).2).length ≤ _
        rw [List.length_append]
        omega
def readStep (st : RS) (rd : Room_) (n : Str) : Room_ := if (valV st.chg (.inr n)).isSome then rd else putK rd (.inr n) ((valV st.room (.inr n)).getD .non)
theorem workE_eq (st : RS) (s : Sm) : workE st s = ((sumE st.room 0 s).1, { st with reads := (sumE st.room 0 s).2.foldl (readStep st) st.reads }) := rfl
theorem readStep_len (st : RS) (rd : Room_) (n : Str) : (readStep st rd n).length ≤ rd.length + 1 := by
  unfold readStep
  split
  · omega
  · exact length_putK _ _ _
theorem reads_len (st : RS) : ∀ (ns : List Str) (rd : Room_), (ns.foldl (readStep st) rd).length ≤ rd.length + ns.length
  | [], rd => Nat.le_refl _
  | n :: r, rd => by
    have h1 := reads_len st r (readStep st rd n)
    have h2 := readStep_len st rd n
    show (r.foldl (readStep st) (readStep st rd n)).length ≤ rd.length + (r.length + 1)
    omega
def spWorkOut (K : PySem.W.Frag) (mg : Str → Option Value) : Sp := fun vs H Q _ => ∃ (a d1 l d2 d3 : Addr) (st : RS) (s : Sm) (sv : V), vs = [.ref a, sv] ∧ RunAt mg a d1 l d2 d3 H st ∧ Dp K H sv (smD s) ∧ SmOkB s ∧ st.reads.length ≤ 900 ∧
  ∀ (v : V) (H' : Hp), Kr d1 l d2 d3 H H' → RunAt mg a d1 l d2 d3 H' (workE st s).2 → Dp K H' v (resD (workE st s).1) → Q v H'
theorem d_Run_work_out (S : SrcM K mg "Run" "work_out" "Run.work_out" s_Run_work_out p_Run_work_out) (T : Txt K w mg) (D_worked_out : Dn P w K mg base "worked_out" 4 p_worked_out (spWorked K)) : DnM P w K mg base "Run" "work_out" 5 p_Run_work_out (spWorkOut K mg) := by
  refine S.ok sc_Run_work_out (fun vs H Q E h => ?_) (fun f cdv A outer s H vs Q E hr h => ?_)
  · obtain ⟨_, _, _, _, _, _, _, _, rfl, _⟩ := h
    rfl
  · obtain ⟨a, d1, l, d2, d3, st, sm, sv, rfl, RA, hs, ok, hb, q⟩ := h
    obtain ⟨C', hC', cC, z1, z2, z3, z4⟩ := T.k_Run
    obtain ⟨na1, nal, na2, na3, nl1, nl2, nl3⟩ := RA.ne
    obtain ⟨C, dx, hm, ha⟩ := RA.ins
    have eC : C' = C := by
      rw [hm] at hC'
      cases hC'
      rfl
    subst eC
    obtain ⟨f1, fl, f2, f3⟩ := runFs_at d1 l d2 d3
    refine ⟨_, (pss_cons (ps_asg (pe_fn D_worked_out (hr.mono (by decide)) (by rfl) (pa_cons (pv 1) (pa_cons (pe_fldK (K := K) rfl (pv 0) rfl) pa_nil))) (pgK_tup (K := K) (n := 3) rfl rfl (pgs_cons (pg_name (i := 2) sc_Run_work_out.nd rfl (Or.inl rfl)) (pgs_cons (pg_name (i := 3) sc_Run_work_out.nd rfl (Or.inl rfl)) (pgs_cons (pg_name (i := 4) sc_Run_work_out.nd rfl (Or.inl rfl)) pgs_nil)))))
    (pss_cons (ps_for PassesOwn.never rfl (piK_list (K := K) rfl (pv 4)) (pg_name (i := 5) sc_Run_work_out.nd rfl (Or.inl rfl))
    (pss_one (ps_if (pt_cmp (pc_dnotin (hu_of hr) (pv 5) (pe_fldK (K := K) rfl (pv 0) rfl))) (pss_one (ps_dput (hu_of hr) (pe_fldK (K := K) rfl (pv 0) rfl) (pv 5) (pe_dget1 (hu_of hr) (pe_fldK (K := K) rfl (pv 0) rfl) (pv 5) ⟨rfl, rfl, rfl, rfl⟩) rfl)) pss_nil)))
    (pss_one (ps_ret (pe_tup (pa_cons (pv 2) (pa_cons (pv 3) pa_nil))))))), ?_⟩
    refine ⟨_, rfl, _, rfl, a, C', dx, _, _, rfl, ha, cC, z1, f1, sm, sv, d1, st.room, rfl, hs, ok, RA.h1, RA.rok, fun v N H1 s1 nN h1N wv => ?_⟩
    have hlen := sumE_len st.room sm 0
    have hn20 := ok.n
    have hq : ∀ (v : V) (H' : Hp), Kr d1 l d2 d3 H H' → RunAt mg a d1 l d2 d3 H' { st with reads := (sumE st.room 0 sm).2.foldl (readStep st) st.reads } → Dp K H' v (resD (sumE st.room 0 sm).1) → Q v H' := q
    generalize sumE st.room 0 sm = pr at h1N wv hq hlen
    obtain ⟨res, ns⟩ := pr
    have hns : ns.length ≤ 20 := by
      have : ns.length ≤ smN sm := hlen
      omega
    obtain ⟨t, x1, x2, rfl, ht, hx⟩ := wv
    have nN1 : N ≠ d1 := (ne_of_none RA.h1 nN).symm
    have nN2 : N ≠ d2 := (ne_of_none RA.h2 nN).symm
    have nN3 : N ≠ d3 := (ne_of_none RA.h3 nN).symm
    have nNl : N ≠ l := (ne_of_none RA.hl nN).symm
    have R1 := RA.same s1
    refine ⟨t, _, rfl, SqT.of ht, rfl, _, _, rfl, _, _, rfl, _, _, rfl, rfl, ?_⟩
    refine ⟨_, rfl, N, rfl, ⟨_, SqL.of h1N⟩, for_list (K := K) (a := N) (xs := ns.map V.str) (fun k σ H' => ∃ (v5 : Option V), σ = [some (.ref a), some sv, some x1, some x2, some (.ref N), v5] ∧
        Kr d1 l d2 d3 H1 H' ∧ RunAt mg a d1 l d2 d3 H' { st with reads := (ns.take k).foldl (readStep st) st.reads })
      ⟨_, rfl, fun _ _ _ _ _ _ e => e, R1⟩ (fun k σ H' _ ⟨_, _, kk, _⟩ => SqL.of (kk N _ nN1 nNl nN2 nN3 h1N)) ?_ ?_⟩
    · rintro k x σ H2 hx2 ⟨v5, rfl, k2, R2⟩
      have hk : k < ns.length := by
        have := (List.getElem?_eq_some_iff.mp hx2).1
        rw [List.length_map] at this
        exact this
      have hak : ns[k]? = some ns[k] := List.getElem?_eq_getElem hk
      have htake : ns.take (k + 1) = ns.take k ++ [ns[k]] := by rw [List.take_add_one, hak]; rfl
      rw [List.getElem?_map, hak] at hx2
      have hlr := reads_len st (ns.take k) st.reads
      rw [List.length_take] at hlr
      generalize ns[k] = n at hak htake hx2
      have ex : V.str n = x := Option.some.inj hx2
      subst ex
      rw [htake, List.foldl_append]
      show _
      generalize hrd : (ns.take k).foldl (readStep st) st.reads = rd at R2 hlr ⊢
      obtain ⟨C2, dx2, hm2, ha2⟩ := R2.ins
      have eC2 : C2 = C' := by
        rw [hm] at hm2
        cases hm2
        rfl
      subst eC2
      refine ⟨_, rfl, _, rfl, a, C2, dx2, _, _, rfl, ha2, cC, z4, f3, d3, _, rfl, DGet.k (k := Sum.inr n) R2.h3, _, rfl, ?_⟩
      have hst : [n].foldl (readStep st) rd = readStep st rd n := rfl
      rw [hst]
      unfold readStep
      cases hv : valV st.chg (Sum.inr n : Key) with
      | some u =>
        exact iteF ⟨_, rfl, k2, R2⟩
      | none =>
        have hlp := length_putK rd (Sum.inr n : Key) ((valV st.room (.inr n)).getD .non)
        refine iteT ⟨_, rfl, a, C2, dx2, _, _, rfl, ha2, cC, z1, f1, d1, rfl, .inl ⟨_, .inl R2.h1⟩, _, rfl, _, DGet.k (k := Sum.inr n) R2.h1, _, rfl, a, C2, dx2, _, _, rfl, ha2, cC, z3, f2, _, rfl, d2, _, rfl, DPut.k (k := Sum.inr n) R2.h2 (Nat.lt_of_le_of_lt R2.b2 (by decide)), _, rfl, ?_, ?_⟩
        · exact fun x o n1 n2 n3 n4 e => by rw [upd_ne n3]; exact k2 x o n1 n2 n3 n4 e
        · refine ⟨⟨C2, dx2, hm2, by rw [upd_ne na2]; exact ha2⟩, by rw [upd_ne RA.n12]; exact R2.h1, by rw [upd_ne nl2]; exact R2.hl, by rw [upd_same]; rfl, by rw [upd_ne RA.n23.symm]; exact R2.h3, RA.n12, RA.n13, RA.n23, R2.rok, R2.b1, R2.bl, ?_, R2.b3⟩
          show (putK rd (Sum.inr n : Key) ((valV st.room (.inr n)).getD .non)).length ≤ 1000
          omega
    · rintro σ H2 ⟨v5, rfl, k2, R2⟩
      rw [List.length_map, List.take_length] at R2
      have k02 : Kr d1 l d2 d3 H H2 := (Kr.of s1).trans k2
      refine ⟨_, rfl, _, rfl, by show 2 ≤ sizeLine; decide, fun u nu => hq _ _ (k02.trans (Kr.of (same_upd nu))) (R2.same (same_upd nu)) ?_⟩
      cases res with
      | ok i =>
        obtain ⟨rfl, rfl⟩ := hx
        exact .tup (SqT.of upd_same) (.cons (.int _) (.cons .non .nil))
      | error f =>
        obtain ⟨rfl, hf⟩ := hx
        exact .tup (SqT.of upd_same) (.cons .non (.cons (Dp.tk (TK.trans (Kr.tk R1 k2) (tk_put nu)) _ _ (noL_flt f) hf) .nil))

abbrev s_Run_follow : Stmt := inClass (topS 25) 1
abbrev n_Run_follow : List Str := ["self", "row", "value", "fault"]
abbrev p_Run_follow : List Str := ["self", "row"]
theorem sc_Run_follow : FnScope n_Run_follow p_Run_follow (defScope s_Run_follow) := ⟨rfl, rfl, rfl, by decide +kernel, rfl, by decide +kernel, by decide +kernel⟩
def dep : Row → Nat
  | .pl _ => 0
  | .cond _ _ => 1
def spFollow (K : PySem.W.Frag) (mg : Str → Option Value) (n : Nat) : Sp := fun vs H Q _ => ∃ (a d1 l d2 d3 : Addr) (st : RS) (r : Row) (rv : V), vs = [.ref a, rv] ∧ RunAt mg a d1 l d2 d3 H st ∧ Dp K H rv (rowD r) ∧ RowOk r ∧ dep r < n ∧
  st.reads.length + 30 * n ≤ 900 ∧ st.chg.length ≤ 900 ∧ st.room.length ≤ 900 ∧ st.shown.length ≤ 900 ∧
  ∀ (v : V) (H' : Hp), Kr d1 l d2 d3 H H' → RunAt mg a d1 l d2 d3 H' (followE st r).2 → Dp K H' v (ofltD (followE st r).1) → Q v H'
theorem workE_same (st : RS) (s : Sm) : (workE st s).2.room = st.room ∧ (workE st s).2.chg = st.chg ∧ (workE st s).2.shown = st.shown := ⟨rfl, rfl, rfl⟩
theorem workE_reads (st : RS) {s : Sm} (ok : SmOkB s) : (workE st s).2.reads.length ≤ st.reads.length + 20 := by
  have h1 := reads_len st (sumE st.room 0 s).2 st.reads
  have h2 := sumE_len st.room s 0
  have h3 := ok.n
  show ((sumE st.room 0 s).2.foldl (readStep st) st.reads).length ≤ _
  omega
theorem sumE_abs (room : Room_) : ∀ (s : Sm) (t v : Int), t.natAbs ≤ 1000000000 → (sumE room t s).1 = .ok v → v.natAbs ≤ 1000000000
  | [], t, v, ht, h => by
    have e : t = v := Except.ok.inj h
    omega
  | p :: r, t, v, ht, h => by
    rw [sumE_cons] at h
    cases hp : (prodE room 1 ((true, p.fst) :: p.prs)).1 with
    | error f =>
      rw [hp] at h
      cases h
    | ok x =>
      rw [hp] at h
      have h2 : (match lim (t + sgI p.neg * x) with
        | .error f => ((.error f : Res), (prodE room 1 ((true, p.fst) :: p.prs)).2)
        | .ok t' => ((sumE room t' r).1, (prodE room 1 ((true, p.fst) :: p.prs)).2 ++ (sumE room t' r).2)).1 = .ok v := h
      cases hl : lim (t + sgI p.neg * x) with
      | error f => rw [hl] at h2; cases h2
      | ok t' =>
        rw [hl] at h2
        have := lim_ok hl
        exact sumE_abs room r t' v (by omega) h2
theorem workE_abs {st : RS} {s : Sm} {v : Int} (h : (workE st s).1 = .ok v) : v.natAbs ≤ 1000000000 := sumE_abs st.room s 0 v (by decide) h
theorem follow_step {n k : Nat} (hk : 5 ≤ k) (S : SrcM K mg "Run" "follow" "Run.follow" s_Run_follow p_Run_follow) (T : Txt K w mg) (D_Run_change : DnM P w K mg base "Run" "change" 1 p_Run_change (spChange mg)) (D_Run_work_out : DnM P w K mg base "Run" "work_out" 5 p_Run_work_out (spWorkOut K mg))
    (D_Run_follow : DnM P w K mg base "Run" "follow" k p_Run_follow (spFollow K mg n)) : DnM P w K mg base "Run" "follow" (k + 1) p_Run_follow (spFollow K mg (n + 1)) := by
  refine S.ok sc_Run_follow (fun vs H Q E h => ?_) (fun f cdv A outer s H vs Q E hr h => ?_)
  · obtain ⟨_, _, _, _, _, _, _, _, rfl, _⟩ := h
    rfl
  · obtain ⟨a, d1, l, d2, d3, st, r, rv, rfl, RA, hrv, ok, hdep, b2, b3, b1, bl, q⟩ := h
    obtain ⟨C', hC', cC, z1, z2, z3, z4⟩ := T.k_Run
    obtain ⟨na1, nal, na2, na3, nl1, nl2, nl3⟩ := RA.ne
    obtain ⟨C, dx, hm, ha⟩ := RA.ins
    have eC : C' = C := by
      rw [hm] at hC'
      cases hC'
      rfl
    subst eC
    obtain ⟨C_change, f_change, fd_change, hm_change, c_change, m_change, b_change, F_change⟩ := D_Run_change.ex
    obtain ⟨C_follow, f_follow, fd_follow, hm_follow, c_follow, m_follow, b_follow, F_follow⟩ := D_Run_follow.ex
    obtain ⟨C_work_out, f_work_out, fd_work_out, hm_work_out, c_work_out, m_work_out, b_work_out, F_work_out⟩ := D_Run_work_out.ex
    refine ⟨_, (pss_cons (ps_if (pt_cmpR op_eq (pe_ix (ixK_tup (K := K) rfl) (pv 1) pe_int (fun _ _ => rfl)) pe_str (nomark _)) (pss_cons (ps_expr (pe_meth (pv 0) c_change m_change F_change (hr.mono (by omega)) b_change .nil pass0 (pa_cons (pe_ix (ixK_tup (K := K) rfl) (pv 1) pe_int (fun _ _ => rfl)) (pa_cons pe_non pa_nil))))
    (pss_one (ps_ret pe_non))) pss_nil)
    (pss_cons (ps_asg (pe_meth (pv 0) c_work_out m_work_out F_work_out (hr.mono (by omega)) b_work_out .nil pass0 (pa_cons (pe_ifExp (pt_cmpR op_eq (pe_ix (ixK_tup (K := K) rfl) (pv 1) pe_int (fun _ _ => rfl)) pe_str (nomark _)) (pe_ix (ixK_tup (K := K) rfl) (pv 1) pe_int (fun _ _ => rfl)) (pe_ix (ixK_tup (K := K) rfl) (pv 1) pe_int (fun _ _ => rfl))) pa_nil)) (pgK_tup (K := K) (n := 2) rfl rfl (pgs_cons (pg_name (i := 2) sc_Run_follow.nd rfl (Or.inl rfl)) (pgs_cons (pg_name (i := 3) sc_Run_follow.nd rfl (Or.inl rfl)) pgs_nil))))
    (pss_cons (ps_if (pt_cmpR op_notN (pv 3) pe_non (nomark _)) (pss_one (ps_ret (pv 3))) pss_nil)
    (pss_cons (ps_if (pt_cmpR op_eq (pe_ix (ixK_tup (K := K) rfl) (pv 1) pe_int (fun _ _ => rfl)) pe_str (nomark _)) (pss_one (ps_expr (pe_meth (pv 0) c_change m_change F_change (hr.mono (by omega)) b_change .nil pass0 (pa_cons (pe_ix (ixK_tup (K := K) rfl) (pv 1) pe_int (fun _ _ => rfl)) (pa_cons (pv 2) pa_nil))))) (pss_one (ps_if (pt_cmpR op_eq (pe_ix (ixK_tup (K := K) rfl) (pv 1) pe_int (fun _ _ => rfl)) pe_str (nomark _)) (pss_one (ps_expr (pe_bm PySem.F.plainAttrs_list PySem.F.slot_list_append PySem.F.type_list_append mt_append (pe_fldK (K := K) rfl (pv 0) rfl) (pa_cons (pv 2) pa_nil)))) (pss_one (ps_if (pt_cmpR op_ne (pv 2) pe_int (nomark _)) (pss_one (ps_ret (pe_meth (pv 0) c_follow m_follow F_follow (hr.mono (by omega)) b_follow .nil pass0 (pa_cons (pe_ix (ixK_tup (K := K) rfl) (pv 1) pe_int (fun _ _ => rfl)) pa_nil)))) pss_nil)))))
    (pss_one (ps_ret pe_non)))))), ?_⟩
    have eC1 : C_change = C' := by
      rw [hm] at hm_change
      cases hm_change
      rfl
    have eC2 : C_work_out = C' := by
      rw [hm] at hm_work_out
      cases hm_work_out
      rfl
    have eC3 : C_follow = C' := by
      rw [hm] at hm_follow
      cases hm_follow
      rfl
    subst eC1 eC2
    subst eC3
    have noC : ∀ d1 l d2 d3, (runFs d1 l d2 d3).lookup ("change" : Str) = none := fun d1 l d2 d3 => runFs_no _ _ _ _ ⟨by decide +kernel, by decide +kernel, by decide +kernel, by decide +kernel⟩
    have noW : ∀ d1 l d2 d3, (runFs d1 l d2 d3).lookup ("work_out" : Str) = none := fun d1 l d2 d3 => runFs_no _ _ _ _ ⟨by decide +kernel, by decide +kernel, by decide +kernel, by decide +kernel⟩
    have noF : ∀ d1 l d2 d3, (runFs d1 l d2 d3).lookup ("follow" : Str) = none := fun d1 l d2 d3 => runFs_no _ _ _ _ ⟨by decide +kernel, by decide +kernel, by decide +kernel, by decide +kernel⟩
    have insOf : ∀ {H' : Hp} {st' : RS}, RunAt mg a d1 l d2 d3 H' st' → ∃ dx', H' a = some (.ins C_follow dx' (runFs d1 l d2 d3)) := fun R => by
      obtain ⟨C2, dx2, hm2, ha2⟩ := R.ins
      rw [hm] at hm2
      cases hm2
      exact ⟨dx2, ha2⟩
    -- the sum of a row, worked out: then what is done with it
    have work : ∀ (s : Sm) (sv : V) (H1 : Hp), H1 = H → Dp K H sv (smD s) → SmOk s → True := fun _ _ _ _ _ _ => trivial
    cases r with
    | pl r =>
      cases r with
      | drop m =>
        cases hrv with
        | tup st1 da =>
          cases da with
          | cons g1 g2 =>
            cases g1
            cases g2 with
            | cons g3 g4 =>
              cases g3
              cases g4
              rename_i tq
              refine ⟨_, rfl, tq, _, 0, _, rfl, rfl, st1, atI_nat (j := 0) rfl, rfl, _, rfl, ?_⟩
              rw [show decide (V.str "drop" = V.str "drop") = true from decide_eq_true rfl]
              refine iteT ⟨_, rfl, a, dx, _, rfl, ha, noC _ _ _ _, _, rfl, tq, _, 1, _, rfl, rfl, st1, atI_nat (j := 1) rfl, a, d1, l, d2, d3, st, m, none, rfl, RA, (fun i e => by cases e), by omega, by omega, fun H1 k1 R1 => ?_⟩
              exact q _ _ k1 R1 .non
      | set m s =>
        cases hrv with
        | tup st1 da =>
          cases da with
          | cons g1 g2 =>
            cases g1
            cases g2 with
            | cons g3 g4 =>
              cases g3
              cases g4 with
              | cons g5 g6 =>
                cases g6
                rename_i tq sv
                refine ⟨_, rfl, tq, _, 0, _, rfl, rfl, st1, atI_nat (j := 0) rfl, rfl, _, rfl, ?_⟩
                rw [show decide (V.str "set" = V.str "drop") = false by decide +kernel]
                refine iteF ⟨_, rfl, a, dx, _, rfl, ha, noW _ _ _ _, _, rfl, tq, _, 0, _, rfl, rfl, st1, atI_nat (j := 0) rfl, rfl, _, rfl, ?_⟩
                rw [show decide (V.str "set" = V.str "set") = true from decide_eq_true rfl]
                refine iteT ⟨_, rfl, tq, _, 2, sv, rfl, rfl, st1, atI_nat (j := 2) rfl, a, d1, l, d2, d3, st, s, sv, rfl, RA, g5, ok.2.b, by omega, fun v H1 k1 R1 dv => ?_⟩
                have hq : ∀ (v : V) (H' : Hp), Kr d1 l d2 d3 H H' → RunAt mg a d1 l d2 d3 H' (match (workE st s).1 with | .error f => ((some f : Option Flt), (workE st s).2) | .ok v => (none, changeE (workE st s).2 m (some v))).2 → Dp K H' v (ofltD (match (workE st s).1 with | .error f => ((some f : Option Flt), (workE st s).2) | .ok v => (none, changeE (workE st s).2 m (some v))).1) → Q v H' := q
                obtain ⟨e1, e2, e3⟩ := workE_same st s
                obtain ⟨dx1, ha1⟩ := insOf R1
                have st1' := Kr.tk (K := K) RA k1 _ _ st1
                have hab := @workE_abs st s
                cases hres : (workE st s).1 with
                | error fl =>
                  rw [hres] at dv hq
                  cases dv with
                  | tup st2 da2 =>
                    cases da2 with
                    | cons g1 g2 =>
                      cases g1
                      cases g2 with
                      | cons g3 g4 =>
                        cases g4
                        refine ⟨_, _, rfl, st2, rfl, _, _, rfl, _, _, rfl, rfl, ?_⟩
                        refine ⟨_, rfl, rfl, _, rfl, ?_⟩
                        rw [flt_tup g3]
                        exact iteT ⟨_, rfl, hq _ _ k1 R1 g3⟩
                | ok i =>
                  rw [hres] at dv hq
                  cases dv with
                  | tup st2 da2 =>
                    cases da2 with
                    | cons g1 g2 =>
                      cases g1
                      cases g2 with
                      | cons g3 g4 =>
                        cases g4
                        cases g3
                        refine ⟨_, _, rfl, st2, rfl, _, _, rfl, _, _, rfl, rfl, ?_⟩
                        refine ⟨_, rfl, rfl, _, rfl, ?_⟩
                        rw [show decide (V.non = V.non) = true from decide_eq_true rfl]
                        refine iteF ⟨_, rfl, tq, _, 0, _, rfl, rfl, st1', atI_nat (j := 0) rfl, rfl, _, rfl, ?_⟩
                        rw [show decide (V.str "set" = V.str "set") = true from decide_eq_true rfl]
                        refine iteT ⟨_, rfl, a, dx1, _, rfl, ha1, noC _ _ _ _, _, rfl, tq, _, 1, _, rfl, rfl, st1', atI_nat (j := 1) rfl, _, rfl, a, d1, l, d2, d3, (workE st s).2, m, some i, rfl, R1, (fun j e => by cases e; exact hab hres), by rw [e2]; omega, by rw [e1]; omega, fun H2 k2 R2 => ?_⟩
                        exact hq _ _ (k1.trans k2) R2 .non
      | shw s =>
        cases hrv with
        | tup st1 da =>
          cases da with
          | cons g1 g2 =>
            cases g1
            cases g2 with
            | cons g5 g6 =>
              cases g6
              rename_i tq sv
              refine ⟨_, rfl, tq, _, 0, _, rfl, rfl, st1, atI_nat (j := 0) rfl, rfl, _, rfl, ?_⟩
              rw [show decide (V.str "show" = V.str "drop") = false by decide +kernel]
              refine iteF ⟨_, rfl, a, dx, _, rfl, ha, noW _ _ _ _, _, rfl, tq, _, 0, _, rfl, rfl, st1, atI_nat (j := 0) rfl, rfl, _, rfl, ?_⟩
              rw [show decide (V.str "show" = V.str "set") = false by decide +kernel]
              refine iteF ⟨_, rfl, tq, _, 1, sv, rfl, rfl, st1, atI_nat (j := 1) rfl, a, d1, l, d2, d3, st, s, sv, rfl, RA, g5, SmOk.b ok, by omega, fun v H1 k1 R1 dv => ?_⟩
              have hq : ∀ (v : V) (H' : Hp), Kr d1 l d2 d3 H H' → RunAt mg a d1 l d2 d3 H' (match (workE st s).1 with | .error f => ((some f : Option Flt), (workE st s).2) | .ok v => (none, { (workE st s).2 with shown := (workE st s).2.shown ++ [v] })).2 → Dp K H' v (ofltD (match (workE st s).1 with | .error f => ((some f : Option Flt), (workE st s).2) | .ok v => (none, { (workE st s).2 with shown := (workE st s).2.shown ++ [v] })).1) → Q v H' := q
              obtain ⟨e1, e2, e3⟩ := workE_same st s
              obtain ⟨dx1, ha1⟩ := insOf R1
              have st1' := Kr.tk (K := K) RA k1 _ _ st1
              cases hres : (workE st s).1 with
              | error fl =>
                rw [hres] at dv hq
                cases dv with
                | tup st2 da2 =>
                  cases da2 with
                  | cons g1 g2 =>
                    cases g1
                    cases g2 with
                    | cons g3 g4 =>
                      cases g4
                      refine ⟨_, _, rfl, st2, rfl, _, _, rfl, _, _, rfl, rfl, ?_⟩
                      refine ⟨_, rfl, rfl, _, rfl, ?_⟩
                      rw [flt_tup g3]
                      exact iteT ⟨_, rfl, hq _ _ k1 R1 g3⟩
              | ok i =>
                rw [hres] at dv hq
                cases dv with
                | tup st2 da2 =>
                  cases da2 with
                  | cons g1 g2 =>
                    cases g1
                    cases g2 with
                    | cons g3 g4 =>
                      cases g4
                      cases g3
                      refine ⟨_, _, rfl, st2, rfl, _, _, rfl, _, _, rfl, rfl, ?_⟩
                      refine ⟨_, rfl, rfl, _, rfl, ?_⟩
                      rw [show decide (V.non = V.non) = true from decide_eq_true rfl]
                      refine iteF ⟨_, rfl, tq, _, 0, _, rfl, rfl, st1', atI_nat (j := 0) rfl, rfl, _, rfl, ?_⟩
                      rw [show decide (V.str "show" = V.str "set") = false by decide +kernel]
                      refine iteF ⟨_, rfl, tq, _, 0, _, rfl, rfl, st1', atI_nat (j := 0) rfl, rfl, _, rfl, ?_⟩
                      rw [show decide (V.str "show" = V.str "show") = true from decide_eq_true rfl]
                      refine iteT ⟨_, rfl, a, C_follow, dx1, _, _, rfl, ha1, cC, z2, (runFs_at _ _ _ _).2.1, .inl ⟨rfl, _, SqL.of R1.hl⟩, _, rfl, l, _, _, rfl, rfl, R1.hl, ?_, ?_⟩
                      · rw [List.length_map, e3]
                        exact Nat.lt_of_le_of_lt bl (by decide)
                      · refine hq _ _ (k1.trans fun x o n1 n2 n3 n4 e => by rw [upd_ne n2]; exact e) ?_ .non
                        refine ⟨⟨C_follow, dx1, hm, by rw [upd_ne nal]; exact ha1⟩, by rw [upd_ne nl1.symm]; exact R1.h1, ?_, by rw [upd_ne nl2.symm]; exact R1.h2, by rw [upd_ne nl3.symm]; exact R1.h3, RA.n12, RA.n13, RA.n23, R1.rok, R1.b1, ?_, R1.b2, R1.b3⟩
                        · rw [upd_same]
                          show some (HO.lst ((workE st s).2.shown.map V.int ++ [V.int i])) = some (HO.lst (((workE st s).2.shown ++ [i]).map V.int))
                          rw [List.map_append]
                          rfl
                        · show ((workE st s).2.shown ++ [i]).length ≤ 1000
                          rw [List.length_append, e3]
                          show st.shown.length + 1 ≤ 1000
                          omega
    | cond t r0 =>
      cases hrv with
      | tup st1 da =>
        cases da with
        | cons g1 g2 =>
          cases g1
          cases g2 with
          | cons g5 g6 =>
            cases g6 with
            | cons g7 g8 =>
              cases g8
              rename_i tq sv rv0
              refine ⟨_, rfl, tq, _, 0, _, rfl, rfl, st1, atI_nat (j := 0) rfl, rfl, _, rfl, ?_⟩
              rw [show decide (V.str "if" = V.str "drop") = false by decide +kernel]
              refine iteF ⟨_, rfl, a, dx, _, rfl, ha, noW _ _ _ _, _, rfl, tq, _, 0, _, rfl, rfl, st1, atI_nat (j := 0) rfl, rfl, _, rfl, ?_⟩
              rw [show decide (V.str "if" = V.str "set") = false by decide +kernel]
              refine iteF ⟨_, rfl, tq, _, 1, sv, rfl, rfl, st1, atI_nat (j := 1) rfl, a, d1, l, d2, d3, st, t, sv, rfl, RA, g5, ok.1.b, by omega, fun v H1 k1 R1 dv => ?_⟩
              have hq : ∀ (v : V) (H' : Hp), Kr d1 l d2 d3 H H' → RunAt mg a d1 l d2 d3 H' (match (workE st t).1 with | .error f => ((some f : Option Flt), (workE st t).2) | .ok v => if v = 0 then (none, (workE st t).2) else follow0 (workE st t).2 r0).2 → Dp K H' v (ofltD (match (workE st t).1 with | .error f => ((some f : Option Flt), (workE st t).2) | .ok v => if v = 0 then (none, (workE st t).2) else follow0 (workE st t).2 r0).1) → Q v H' := q
              obtain ⟨e1, e2, e3⟩ := workE_same st t
              obtain ⟨dx1, ha1⟩ := insOf R1
              have hrl := workE_reads st ok.1.b
              have st1' := Kr.tk (K := K) RA k1 _ _ st1
              cases hres : (workE st t).1 with
              | error fl =>
                rw [hres] at dv hq
                cases dv with
                | tup st2 da2 =>
                  cases da2 with
                  | cons g1 g2 =>
                    cases g1
                    cases g2 with
                    | cons g3 g4 =>
                      cases g4
                      refine ⟨_, _, rfl, st2, rfl, _, _, rfl, _, _, rfl, rfl, ?_⟩
                      refine ⟨_, rfl, rfl, _, rfl, ?_⟩
                      rw [flt_tup g3]
                      exact iteT ⟨_, rfl, hq _ _ k1 R1 g3⟩
              | ok i =>
                rw [hres] at dv hq
                have hq' : ∀ (v : V) (H' : Hp), Kr d1 l d2 d3 H H' → RunAt mg a d1 l d2 d3 H' (if i = 0 then ((none : Option Flt), (workE st t).2) else follow0 (workE st t).2 r0).2 → Dp K H' v (ofltD (if i = 0 then ((none : Option Flt), (workE st t).2) else follow0 (workE st t).2 r0).1) → Q v H' := hq
                cases dv with
                | tup st2 da2 =>
                  cases da2 with
                  | cons g1 g2 =>
                    cases g1
                    cases g2 with
                    | cons g3 g4 =>
                      cases g4
                      cases g3
                      refine ⟨_, _, rfl, st2, rfl, _, _, rfl, _, _, rfl, rfl, ?_⟩
                      refine ⟨_, rfl, rfl, _, rfl, ?_⟩
                      rw [show decide (V.non = V.non) = true from decide_eq_true rfl]
                      refine iteF ⟨_, rfl, tq, _, 0, _, rfl, rfl, st1', atI_nat (j := 0) rfl, rfl, _, rfl, ?_⟩
                      rw [show decide (V.str "if" = V.str "set") = false by decide +kernel]
                      refine iteF ⟨_, rfl, tq, _, 0, _, rfl, rfl, st1', atI_nat (j := 0) rfl, rfl, _, rfl, ?_⟩
                      rw [show decide (V.str "if" = V.str "show") = false by decide +kernel]
                      refine iteF ⟨_, rfl, rfl, _, rfl, ?_⟩
                      by_cases h0 : i = 0
                      · subst h0
                        rw [show decide (V.int 0 = V.int 0) = true from decide_eq_true rfl]
                        rw [if_pos rfl] at hq'
                        exact iteF (hq' _ _ k1 R1 .non)
                      · rw [show decide (V.int i = V.int 0) = false from decide_eq_false (fun e => h0 (V.int.inj e))]
                        rw [if_neg h0] at hq'
                        have hd : dep (.cond t r0) < n + 1 := hdep
                        have hn : 1 < n + 1 := hd
                        refine iteT ⟨_, rfl, a, dx1, _, rfl, ha1, noF _ _ _ _, _, rfl, tq, _, 2, rv0, rfl, rfl, st1', atI_nat (j := 2) rfl, a, d1, l, d2, d3, (workE st t).2, .pl r0, rv0, rfl, R1, Dp.tk (Kr.tk RA k1) _ _ (noL_row0 r0) g7, ok.2, (by show 0 < n; omega), by omega, by rw [e2]; omega, by rw [e1]; omega, by rw [e3]; omega, fun v H2 k2 R2 d2 => ?_⟩
                        exact hq' _ _ (k1.trans k2) R2 d2
theorem d_Run_follow (S : SrcM K mg "Run" "follow" "Run.follow" s_Run_follow p_Run_follow) (T : Txt K w mg) (D_Run_change : DnM P w K mg base "Run" "change" 1 p_Run_change (spChange mg)) (D_Run_work_out : DnM P w K mg base "Run" "work_out" 5 p_Run_work_out (spWorkOut K mg)) : DnM P w K mg base "Run" "follow" 8 p_Run_follow (spFollow K mg 2) := by
  have D0 : DnM P w K mg base "Run" "follow" 6 p_Run_follow (spFollow K mg 0) := by
    refine S.ok (k := 5) sc_Run_follow (fun vs H Q E h => ?_) (fun f cdv A outer s H vs Q E hr h => ?_)
    · obtain ⟨_, _, _, _, _, _, _, _, _, _, _, _, hd, _⟩ := h
      exact absurd hd (Nat.not_lt_zero _)
    · obtain ⟨_, _, _, _, _, _, _, _, _, _, _, _, hd, _⟩ := h
      exact absurd hd (Nat.not_lt_zero _)
  exact follow_step (by decide) S T D_Run_change D_Run_work_out (follow_step (by decide) S T D_Run_change D_Run_work_out D0)

abbrev s_run_in : Stmt := topS 26
abbrev n_run_in : List Str := ["cell", "room", "run", "fault", "row", "outcome", "reads", "sets", "name"]
abbrev p_run_in : List Str := ["cell", "room"]
theorem sc_run_in : FnScope n_run_in p_run_in (defScope s_run_in) := ⟨rfl, rfl, rfl, by decide +kernel, rfl, by decide +kernel, by decide +kernel⟩
def vD : V → PyData
  | .int i => .int i
  | .bl b => .bool b
  | .str z => .str z
  | _ => .none
def keyD : Key → PyData
  | .inr z => .str z
  | .inl i => .int i
def readsD (rd : Room_) : List PyData := rd.map fun kv => .tuple [keyD kv.1, vD kv.2]
def setsD (room : Room_) (ys : List Str) : List PyData := ys.map fun n => .tuple [.str n, vD ((valV room (.inr n)).getD .non)]
/-- what grows in a run, by rows; and the forms of what it keeps -/
structure RI (r0 k : Nat) (st : RS) : Prop where
  room : st.room.length ≤ r0 + k
  reads : st.reads.length ≤ 40 * k
  chg : st.chg.length ≤ k
  shown : st.shown.length ≤ k
  cf : ∀ p ∈ st.chg, ∃ z, p.1 = (Sum.inr z : Key)
  rf : ∀ p ∈ st.reads, ∃ z o, p = ((Sum.inr z : Key), optV o)
  rok : RoomOk st.room
theorem put_form {κ : Type} [DecidableEq κ] {kvs : List (κ × V)} {k : κ} {v : V} {p : κ × V} (h : p ∈ putK kvs k v) : (p ∈ kvs ∧ p.1 ≠ k) ∨ p = (k, v) := by
  unfold putK at h
  split at h
  · obtain ⟨q, hq, e⟩ := List.mem_map.mp h
    by_cases hk : q.1 = k
    · rw [if_pos hk] at e
      exact .inr (by rw [← e, hk])
    · rw [if_neg hk] at e
      exact .inl ⟨e ▸ hq, e ▸ hk⟩
  · rename_i hn
    rcases List.mem_append.mp h with h | h
    · refine .inl ⟨h, fun e => hn (List.any_eq_true.mpr ⟨p, h, decide_eq_true e⟩)⟩
    · exact .inr (List.mem_singleton.mp h)
theorem get_form {room : Room_} (h : RoomOk room) (n : Str) : ∃ o, (valV room (.inr n)).getD .non = optV o := by
  rcases room_at h n with ⟨g, _⟩ | ⟨i, g, _, _⟩
  · exact ⟨none, by rw [g]; rfl⟩
  · exact ⟨some i, by rw [g]; rfl⟩
theorem reads_form {st : RS} (rok : RoomOk st.room) : ∀ (ns : List Str) (rd : Room_), (∀ p ∈ rd, ∃ z o, p = ((Sum.inr z : Key), optV o)) → ∀ p ∈ ns.foldl (readStep st) rd, ∃ z o, p = ((Sum.inr z : Key), optV o)
  | [], rd, h => h
  | n :: r, rd, h => by
    refine reads_form rok r (readStep st rd n) fun p hp => ?_
    unfold readStep at hp
    split at hp
    · exact h p hp
    · rcases put_form hp with ⟨hp, _⟩ | rfl
      · exact h p hp
      · obtain ⟨o, e⟩ := get_form rok n
        exact ⟨n, o, by rw [e]⟩
theorem RI.work {r0 k : Nat} {st : RS} (h : RI r0 k st) {s : Sm} (ok : SmOkB s) : (workE st s).2.reads.length ≤ 40 * k + 20 ∧ ∀ p ∈ (workE st s).2.reads, ∃ z o, p = ((Sum.inr z : Key), optV o) :=
  ⟨Nat.le_trans (workE_reads st ok) (Nat.add_le_add_right h.reads 20), reads_form h.rok _ _ h.rf⟩
theorem changeE_RI {st : RS} {n : Str} {v : Option Int} {r0 k j : Nat} (h1 : st.room.length ≤ r0 + k) (h2 : st.reads.length ≤ j) (h3 : st.chg.length ≤ k) (h4 : st.shown.length ≤ k) (h5 : ∀ p ∈ st.chg, ∃ z, p.1 = (Sum.inr z : Key)) (h6 : ∀ p ∈ st.reads, ∃ z o, p = ((Sum.inr z : Key), optV o)) (h7 : RoomOk st.room)
    (hj : j ≤ 40 * (k + 1)) (hv : ∀ i, v = some i → i.natAbs ≤ 1000000000) : RI r0 (k + 1) (changeE st n v) := by
  have hc := length_putK st.chg (Sum.inr n : Key) (.bl true)
  refine ⟨?_, by show st.reads.length ≤ _; omega, by show (putK st.chg _ _).length ≤ _; omega, by show st.shown.length ≤ _; omega, ?_, h6, ?_⟩
  · cases v with
    | none =>
      show (dropK st.room (.inr n)).length ≤ _
      have := dropK_le st.room (.inr n)
      omega
    | some i =>
      show (putK st.room (.inr n) (.int i)).length ≤ _
      have := length_putK st.room (Sum.inr n : Key) (.int i)
      omega
  · intro p hp
    rcases put_form (show p ∈ putK st.chg (Sum.inr n) (.bl true) from hp) with ⟨hp, _⟩ | rfl
    · exact h5 p hp
    · exact ⟨n, rfl⟩
  · cases v with
    | none => exact roomOk_drop h7 n
    | some i => exact roomOk_put h7 n i (hv i rfl)
theorem follow0_RI {r0 k j : Nat} {st : RS} {r : Row0} (h1 : st.room.length ≤ r0 + k) (h2 : st.reads.length ≤ j) (h3 : st.chg.length ≤ k) (h4 : st.shown.length ≤ k) (h5 : ∀ p ∈ st.chg, ∃ z, p.1 = (Sum.inr z : Key)) (h6 : ∀ p ∈ st.reads, ∃ z o, p = ((Sum.inr z : Key), optV o)) (h7 : RoomOk st.room)
    (hj : j + 20 ≤ 40 * (k + 1)) (ok : Row0Ok r) : RI r0 (k + 1) (follow0 st r).2 := by
  have wk : ∀ s : Sm, SmOkB s → (workE st s).2.reads.length ≤ j + 20 ∧ ∀ p ∈ (workE st s).2.reads, ∃ z o, p = ((Sum.inr z : Key), optV o) := fun s oks => ⟨Nat.le_trans (workE_reads st oks) (by omega), reads_form h7 _ _ h6⟩
  cases r with
  | drop n => exact changeE_RI (v := none) h1 h2 h3 h4 h5 h6 h7 (by omega) (fun i e => by cases e)
  | set n s =>
    obtain ⟨w1, w2⟩ := wk s ok.2.b
    show RI r0 (k + 1) (match (workE st s).1 with | .error f => ((some f : Option Flt), (workE st s).2) | .ok v => (none, changeE (workE st s).2 n (some v))).2
    cases hr : (workE st s).1 with
    | error f => exact ⟨Nat.le_succ_of_le h1, by show (workE st s).2.reads.length ≤ _; omega, Nat.le_succ_of_le h3, Nat.le_succ_of_le h4, h5, w2, h7⟩
    | ok v => exact changeE_RI (v := some v) (st := (workE st s).2) h1 w1 h3 h4 h5 w2 h7 hj (fun i e => by cases e; exact workE_abs hr)
  | shw s =>
    obtain ⟨w1, w2⟩ := wk s (SmOk.b ok)
    show RI r0 (k + 1) (match (workE st s).1 with | .error f => ((some f : Option Flt), (workE st s).2) | .ok v => (none, { (workE st s).2 with shown := (workE st s).2.shown ++ [v] })).2
    cases hr : (workE st s).1 with
    | error f => exact ⟨Nat.le_succ_of_le h1, by show (workE st s).2.reads.length ≤ _; omega, Nat.le_succ_of_le h3, Nat.le_succ_of_le h4, h5, w2, h7⟩
    | ok v => exact ⟨Nat.le_succ_of_le h1, by show (workE st s).2.reads.length ≤ _; omega, Nat.le_succ_of_le h3, by show (st.shown ++ [v]).length ≤ _; rw [List.length_append]; show st.shown.length + 1 ≤ _; omega, h5, w2, h7⟩
theorem follow_RI {r0 k : Nat} {st : RS} {r : Row} (h : RI r0 k st) (ok : RowOk r) : RI r0 (k + 1) (followE st r).2 := by
  cases r with
  | pl r => exact follow0_RI h.room h.reads h.chg h.shown h.cf h.rf h.rok (by omega) ok
  | cond t r =>
    obtain ⟨w1, w2⟩ := h.work ok.1.b
    show RI r0 (k + 1) (match (workE st t).1 with | .error f => ((some f : Option Flt), (workE st t).2) | .ok v => if v = 0 then (none, (workE st t).2) else follow0 (workE st t).2 r).2
    cases hr : (workE st t).1 with
    | error f => exact ⟨Nat.le_succ_of_le h.room, by show (workE st t).2.reads.length ≤ _; omega, Nat.le_succ_of_le h.chg, Nat.le_succ_of_le h.shown, h.cf, w2, h.rok⟩
    | ok v =>
      show RI r0 (k + 1) (if v = 0 then ((none : Option Flt), (workE st t).2) else follow0 (workE st t).2 r).2
      by_cases h0 : v = 0
      · rw [if_pos h0]
        exact ⟨Nat.le_succ_of_le h.room, by show (workE st t).2.reads.length ≤ _; omega, Nat.le_succ_of_le h.chg, Nat.le_succ_of_le h.shown, h.cf, w2, h.rok⟩
      · rw [if_neg h0]
        exact follow0_RI (st := (workE st t).2) h.room w1 h.chg h.shown h.cf w2 h.rok (by omega) ok.2
theorem runE_RI {r0 : Nat} : ∀ (rs : List Row) (k : Nat) (st : RS), RI r0 k st → (∀ r ∈ rs, RowOk r) → RI r0 (k + rs.length) (runE st rs).2
  | [], k, st, h, _ => h
  | r :: rs, k, st, h, ok => by
    have h1 := follow_RI h (ok r List.mem_cons_self)
    show RI r0 (k + (rs.length + 1)) (match (followE st r).1 with | some f => (some f, (followE st r).2) | none => runE (followE st r).2 rs).2
    cases hf : (followE st r).1 with
    | some f =>
      exact ⟨Nat.le_trans h1.room (by omega), Nat.le_trans h1.reads (by omega), Nat.le_trans h1.chg (by omega), Nat.le_trans h1.shown (by omega), h1.cf, h1.rf, h1.rok⟩
    | none =>
      have := runE_RI rs (k + 1) (followE st r).2 h1 fun x hx => ok x (List.mem_cons_of_mem _ hx)
      rw [show k + (rs.length + 1) = k + 1 + rs.length by omega]
      exact this
/-- what a run tells -/
def runV (K : PySem.W.Frag) (H : Hp) (v : V) (fin : Option Flt × RS) : Prop := ∃ (t : Addr) (o rd se : V) (d : Addr) (ys : List Str), v = .ref t ∧ H t = some (.tup [o, rd, se, .ref d]) ∧ Dp K H o (.tuple [.tuple (fin.2.shown.map .int), ofltD fin.1]) ∧ Dp K H rd (.tuple (readsD fin.2.reads)) ∧
  (ys.map (fun z => (Sum.inr z : Key))).Perm (fin.2.chg.map (·.1)) ∧ sortedS ys = true ∧ Dp K H se (.tuple (setsD fin.2.room ys)) ∧ H d = some (.dK fin.2.room)
theorem opt_dp {K : PySem.W.Frag} {H : Hp} (o : Option Int) : Dp K H (optV o) (vD (optV o)) := by
  cases o with
  | none => exact .non
  | some i => exact .int i
theorem noL_vD (v : V) : noL (vD v) = true := by cases v <;> rfl
theorem noLs_sets (room : Room_) (ys : List Str) : noLs (setsD room ys) = true := noLs_map _ (fun n => by simp [noL, noLs, noL_vD]) _
theorem noLs_reads (rd : Room_) : noLs (readsD rd) = true := noLs_map _ (fun kv => by
  have : noL (keyD kv.1) = true := by cases kv.1 <;> rfl
  simp [noL, noLs, noL_vD, this]) _
def spRunIn (K : PySem.W.Frag) (mg : Str → Option Value) : Sp := fun vs H Q _ => ∃ (cv : V) (rs : List Row) (R : Addr) (room : Room_), vs = [cv, .ref R] ∧ CellV K mg H cv rs ∧ RowsOk rs ∧ Rd H R (.dK room) ∧ RoomOk room ∧ room.length ≤ 500 ∧
  ∀ (v : V) (H' : Hp), Same H H' → runV K H' v (runE (rs0 room) rs) → Q v H'
theorem d_run_in (S : Src K mg "run_in" s_run_in p_run_in) (T : Txt K w mg) (D_Run : DnC P w K mg base "Run" 1 (spRunNew mg)) (D_Run_follow : DnM P w K mg base "Run" "follow" 8 p_Run_follow (spFollow K mg 2)) : Dn P w K mg base "run_in" 9 p_run_in (spRunIn K mg) := by
  refine S.ok sc_run_in (fun vs H Q E h => ?_) (fun f cdv A outer s H vs Q E hr h => ?_)
  · obtain ⟨_, _, _, _, rfl, _⟩ := h
    rfl
  · obtain ⟨cv, rs, R, room, rfl, CV, ok, hR, rok, hrl, q⟩ := h
    obtain ⟨C', hC', cC, z1, z2, z3, z4⟩ := T.k_Run
    obtain ⟨Cc, hCc, cCc, y1, y2⟩ := T.k_Cell
    obtain ⟨ca, C2, cdx, crv, rfl, hm2, hca, hrv⟩ := CV
    have eC2 : Cc = C2 := by
      rw [hm2] at hCc
      cases hCc
      rfl
    subst eC2
    obtain ⟨C_Run, f_Run, fd_Run, ps_Run, spI_Run, hm_Run, M_Run, b_Run, F_Run, imp_Run⟩ := D_Run.ex
    obtain ⟨C_follow, f_follow, fd_follow, hm_follow, c_follow, m_follow, b_follow, F_follow⟩ := D_Run_follow.ex
    refine ⟨_, (pss_cons (ps_set (i := 2) sc_run_in.nd rfl (Or.inr rfl) (pe_make M_Run F_Run (hr.mono (by decide)) (by rfl) hm_Run b_Run .nil pass0 (pa_cons (pv 1) pa_nil)))
    (pss_cons (ps_set (i := 3) sc_run_in.nd rfl (Or.inl rfl) pe_non)
    (C8.pss_cut (ps_for PassesOwn.never rfl (piK_tup (K := K) rfl (pe_fldK (K := K) rfl (pv 0) rfl)) (pg_name (i := 4) sc_run_in.nd rfl (Or.inl rfl))
    (pss_cons (ps_set (i := 3) sc_run_in.nd rfl (Or.inl rfl) (pe_meth (pv 2) c_follow m_follow F_follow (hr.mono (by decide)) b_follow .nil pass0 (pa_cons (pv 4) pa_nil)))
    (pss_one (ps_if (pt_cmpR op_notN (pv 3) pe_non (nomark _)) (pss_one ps_break) pss_nil))))
    (pss_cons (ps_set (i := 5) sc_run_in.nd rfl (Or.inl rfl) (pe_tup (pa_cons (pe_callTy (tupleK (K := K) rfl) (by rfl) T.n_tuple (by decide +kernel) (pa_cons (pe_fldK (K := K) rfl (pv 2) rfl) pa_nil)) (pa_cons (pv 3) pa_nil))))
    (pss_cons (ps_set (i := 6) sc_run_in.nd rfl (Or.inl rfl) (pe_callTy (tupleK (K := K) rfl) (by rfl) T.n_tuple (by decide +kernel) (pa_cons (LiI.pe_listItems rfl (pe_fldK (K := K) rfl (pv 2) rfl) (by rfl) T.n_list (by decide +kernel)) pa_nil)))
    (pss_cons (ps_set (i := 7) sc_run_in.nd rfl (Or.inl rfl) (pe_callTy (tupleK (K := K) rfl) (by rfl) T.n_tuple (by decide +kernel) (pa_cons (pe_lc (own := [("name", 8)]) (g := gName 8) (tt := tYes) rfl sc_run_in.nd (piK_list (K := K) rfl (pe_callB (call_sortedD rfl) (by rfl) T.n_sorted (by decide +kernel) (pa_cons (pe_fldK (K := K) rfl (pv 2) rfl) pa_nil))) (blkOk_by (own := [("name", 8)]) (N := n_run_in) (sc := defScope s_run_in) (by decide +kernel)) (fun _ _ _ _ _ => pg_name (i := 8) sc_run_in.nd rfl (Or.inl rfl)) (fun _ _ _ _ _ => pts_nil) (fun _ _ _ _ _ => (pe_tup (pa_cons (pv 8) (pa_cons (pe_dget1 (hu_of hr) (pe_fldK (K := K) rfl (pv 2) rfl) (pv 8) ⟨rfl, rfl, rfl, rfl⟩) pa_nil))))) pa_nil)))
    (pss_one (ps_ret (pe_tup (pa_cons (pv 5) (pa_cons (pv 6) (pa_cons (pv 7) (pa_cons (pe_fldK (K := K) rfl (pv 2) rfl) pa_nil))))))))))))), ?_⟩
    have eC3 : C_follow = C' := by
      rw [hC'] at hm_follow
      cases hm_follow
      rfl
    subst eC3
    refine ⟨_, rfl, make_at imp_Run _ ⟨R, room, rfl, hR, rok, by omega, fun a d1 l d2 d3 H1 s1 na nd1 nl nd2 nd3 RA => ⟨a, rfl, ?_⟩⟩⟩
    have noF : ∀ d1 l d2 d3, (runFs d1 l d2 d3).lookup ("follow" : Str) = none := fun d1 l d2 d3 => runFs_no _ _ _ _ ⟨by decide +kernel, by decide +kernel, by decide +kernel, by decide +kernel⟩
    have insOf : ∀ {H' : Hp} {st' : RS}, RunAt mg a d1 l d2 d3 H' st' → ∃ dx', H' a = some (.ins C_follow dx' (runFs d1 l d2 d3)) := fun R => by
      obtain ⟨C3, dx3, hm3, ha3⟩ := R.ins
      rw [hC'] at hm3
      cases hm3
      exact ⟨dx3, ha3⟩
    have outOf : ∀ {H' : Hp}, Kr d1 l d2 d3 H1 H' → Same H H' := fun k x o e => k x o (ne_of_none e nd1) (ne_of_none e nl) (ne_of_none e nd2) (ne_of_none e nd3) (s1 x o e)
    have ri0 : RI room.length 0 (rs0 room) := ⟨Nat.le_refl _, Nat.zero_le _, Nat.le_refl _, Nat.le_refl _, fun p hp => (by cases hp), fun p hp => (by cases hp), rok⟩
    have rfin := runE_RI rs 0 (rs0 room) ri0 ok.ok
    rw [Nat.zero_add] at rfin
    have h6 := ok.n
    cases hrv with
    | tup hps hpa =>
    rename_i pa pxs
    have lps := DpAll.length hpa
    rw [List.length_map] at lps
    refine ⟨fun σ' H' => ∃ (fv : V) (v4 : Option V), σ' = [some (.ref ca), some (.ref R), some (.ref a), some fv, v4, none, none, none, none] ∧ Kr d1 l d2 d3 H1 H' ∧ RunAt mg a d1 l d2 d3 H' (runE (rs0 room) rs).2 ∧ Dp K H' fv (ofltD (runE (rs0 room) rs).1), ?_, ?_⟩
    · refine ⟨_, rfl, ca, Cc, cdx, _, _, rfl, s1 _ _ hca, cCc, y2, cellFs_rows _ _, pa, rfl, ⟨_, Same.tk s1 _ _ hps⟩, for_tup (K := K) (a := pa) (xs := pxs) (fun k σ H' => ∃ (st : RS) (v4 : Option V), σ = [some (.ref ca), some (.ref R), some (.ref a), some .non, v4, none, none, none, none] ∧ Kr d1 l d2 d3 H1 H' ∧ RunAt mg a d1 l d2 d3 H' st ∧ RI room.length k st ∧ runE (rs0 room) rs = runE st (rs.drop k))
        ⟨rs0 room, _, rfl, fun _ _ _ _ _ _ e => e, RA, ri0, rfl⟩ (fun k σ H' _ ⟨_, _, _, kk, _⟩ => Same.tk (outOf kk) _ _ hps) ?_ ?_⟩
      · rintro k x σ H2 hx ⟨st, v4, rfl, k2, R2, ri, erun⟩
        have hk : k < rs.length := by
          have := (List.getElem?_eq_some_iff.mp hx).1
          omega
        have hak : rs[k]? = some rs[k] := List.getElem?_eq_getElem hk
        have hdrop : rs.drop k = rs[k] :: rs.drop (k + 1) := List.drop_eq_getElem_cons hk
        have okk := ok.ok _ (List.getElem_mem hk)
        obtain ⟨d, hd, dxx⟩ := DpAll.getV (DpAll.tk (Same.tk (outOf k2)) _ _ (noLs_map rowD noL_row rs) hpa) hx
        rw [List.getElem?_map, hak] at hd
        generalize rs[k] = r at hak hdrop okk hd
        have ed : d = rowD r := (Option.some.inj hd).symm
        subst ed
        obtain ⟨dx2, ha2⟩ := insOf R2
        have ri2 := follow_RI ri okk
        have e1 : runE st (r :: rs.drop (k + 1)) = (match (followE st r).1 with | some f => (some f, (followE st r).2) | none => runE (followE st r).2 (rs.drop (k + 1))) := rfl
        rw [hdrop, e1] at erun
        have dep2 : dep r < 2 := by cases r with | pl r => exact Nat.zero_lt_succ 1 | cond t r => exact Nat.lt_succ_self 1
        refine ⟨_, rfl, a, dx2, _, rfl, ha2, noF _ _ _ _, _, rfl, a, d1, l, d2, d3, st, r, x, rfl, R2, dxx, okk, dep2, by have := ri.reads; omega, by have := ri.chg; omega, by have := ri.room; omega, by have := ri.shown; omega, fun v H3 k3 R3 d3 => ?_⟩
        refine ⟨_, rfl, rfl, _, rfl, ?_⟩
        cases hf : (followE st r).1 with
        | some fl =>
          rw [hf] at d3 erun
          have d3' : Dp K H3 v (fltD fl) := d3
          rw [flt_tup d3']
          refine iteT ⟨v, _, rfl, k2.trans k3, ?_, ?_⟩
          · rw [erun]; exact R3
          · rw [erun]; exact d3'
        | none =>
          rw [hf] at d3 erun
          cases d3
          rw [show decide (V.non = V.non) = true from decide_eq_true rfl]
          exact iteF ⟨(followE st r).2, _, rfl, k2.trans k3, R3, ri2, erun⟩
      · rintro σ H2 ⟨st, v4, rfl, k2, R2, ri, erun⟩
        rw [lps, List.drop_length] at erun
        refine ⟨.non, _, rfl, k2, ?_, ?_⟩
        · rw [erun]; exact R2
        · rw [erun]; exact .non
    · rintro σ' H2 ⟨fv, v4, rfl, k2, R2, df⟩
      generalize hfin : runE (rs0 room) rs = fin at q R2 df rfin
      obtain ⟨flt, st⟩ := fin
      obtain ⟨dx2, ha2⟩ := insOf R2
      have s02 := outOf k2
      obtain ⟨f1, fl, f2, f3⟩ := runFs_at d1 l d2 d3
      -- outcome
      refine ⟨_, rfl, a, C_follow, dx2, _, _, rfl, ha2, cC, z2, fl, l, _, rfl, .inl ⟨SqL.of R2.hl, fun t1 n1 => ⟨_, rfl, by show 2 ≤ sizeLine; decide, fun t2 n2 => ?_⟩⟩⟩
      generalize e3 : upd H2 t1 _ = H3 at n2 ⊢
      have s3 : Same H2 H3 := e3 ▸ same_upd n1
      have g1 : H3 t1 = some (.tup (st.shown.map V.int)) := e3 ▸ upd_same
      generalize e4 : upd H3 t2 _ = H4
      have s4 : Same H3 H4 := e4 ▸ same_upd n2
      have g2 : H4 t2 = some (.tup [.ref t1, fv]) := e4 ▸ upd_same
      have intsD : ∀ (xs : List Int) (H' : Hp), DpAll K H' (xs.map V.int) (xs.map PyData.int) := fun xs H' => by
        induction xs with
        | nil => exact .nil
        | cons x r ih => exact .cons (.int x) ih
      have dout : Dp K H4 (.ref t2) (.tuple [.tuple (st.shown.map .int), ofltD flt]) :=
        .tup (SqT.of g2) (.cons (.tup (SqT.of (s4 _ _ g1)) (intsD _ _)) (.cons (Dp.tk (Same.tk (s3.trans s4)) _ _ (noL_oflt flt) df) .nil))
      have s24 := s3.trans s4
      -- reads
      refine ⟨_, rfl, a, C_follow, dx2, _, _, rfl, s24 _ _ ha2, cC, z3, f2, d2, st.reads, rfl, s24 _ _ R2.h2, fun H5 p ts s5 np nts pts hp5 hpair => ?_⟩
      refine ⟨p, _, rfl, .inl ⟨SqL.of hp5, fun t3 n3 => ?_⟩⟩
      generalize e6 : upd H5 t3 _ = H6
      have s6 : Same H5 H6 := e6 ▸ same_upd n3
      have g3 : H6 t3 = some (.tup (ts.map V.ref)) := e6 ▸ upd_same
      have s46 : Same H4 H6 := fun x o e => s6 x o (s5 x o e)
      have dreads : Dp K H6 (.ref t3) (.tuple (readsD st.reads)) := by
        refine .tup (SqT.of g3) ?_
        have rf := rfin.rf
        show DpAll K H6 (ts.map V.ref) (readsD st.reads)
        have : ∀ (ts : List Addr) (rd : Room_), (∀ p ∈ rd, ∃ z o, p = ((Sum.inr z : Key), optV o)) → Paired (fun (t : Addr) (q : Key × V) => H5 t = some (.tup [kV q.1, q.2])) ts rd → DpAll K H6 (ts.map V.ref) (readsD rd) := by
          intro ts rd hf hp
          induction hp with
          | nil => exact .nil
          | @cons t q ts rd h _ ih =>
            obtain ⟨z, o, e⟩ := hf q List.mem_cons_self
            subst e
            exact .cons (.tup (SqT.of (s6 _ _ h)) (.cons (.str z) (.cons (opt_dp o) .nil))) (ih fun p hp => hf p (List.mem_cons_of_mem _ hp))
        exact this ts st.reads rf hpair
      -- sets
      have cf := rfin.cf
      obtain ⟨ks, hks⟩ : ∃ ks : List Str, st.chg.map (·.1) = ks.map Sum.inr := by
        have : ∀ c : Room_, (∀ p ∈ c, ∃ z, p.1 = (Sum.inr z : Key)) → ∃ ks : List Str, c.map (·.1) = ks.map Sum.inr := by
          intro c
          induction c with
          | nil => intro _; exact ⟨[], rfl⟩
          | cons p r ih =>
            intro h
            obtain ⟨z, e⟩ := h p List.mem_cons_self
            obtain ⟨ks, e2⟩ := ih fun q hq => h q (List.mem_cons_of_mem _ hq)
            exact ⟨z :: ks, by rw [List.map_cons, List.map_cons, e, e2]⟩
        exact this st.chg cf
      have hkl : ks.length ≤ 6 := by
        have e := congrArg List.length hks
        rw [List.length_map, List.length_map] at e
        have := rfin.chg
        show ks.length ≤ 6
        have hc : st.chg.length ≤ rs.length := this
        omega
      have g26 := s24.trans s46
      refine ⟨_, rfl, a, C_follow, dx2, _, _, rfl, g26 _ _ ha2, cC, z4, f3, d3, st.chg, ks, rfl, .inl (g26 _ _ R2.h3), hks, by omega, fun ys L perm srt nL => ?_⟩
      generalize e7 : upd H6 L _ = H7
      have s7 : Same H6 H7 := e7 ▸ same_upd nL
      have g7 : H7 L = some (.lst (ys.map V.str)) := e7 ▸ upd_same
      have g27 := g26.trans s7
      refine ⟨L, rfl, ⟨_, SqL.of g7⟩, fun D nD => ?_⟩
      have hyl : ys.length ≤ 6 := by rw [perm.length_eq]; exact hkl
      refine lc_dp (K := K) (walk_list (K := K) (a := L) (xs := ys.map V.str)) (setsD st.room ys) (by unfold setsD; rw [List.length_map, List.length_map]) (noLs_sets _ _) (by rw [List.length_map]; exact Nat.lt_of_le_of_lt hyl (by decide)) nD (fun H h => h.seq (SqL.of g7)) ?_ ?_
      · rintro j x d H8 H9 C hj s8 ⟨rfl, hx⟩ hd k
        have hj' : j < ys.length := by rw [List.length_map] at hj; exact hj
        have hyj : ys[j]? = some ys[j] := List.getElem?_eq_getElem hj'
        rw [List.getElem?_map, hyj] at hx
        unfold setsD at hd
        rw [List.getElem?_map, hyj] at hd
        generalize ys[j] = n at hx hd hyj
        have ex : V.str n = x := Option.some.inj hx
        have ed : PyData.tuple [.str n, vD ((valV st.room (.inr n)).getD .non)] = d := Option.some.inj hd
        subst ex ed
        have g8 := g27.trans s8
        refine ⟨_, rfl, _, rfl, a, C_follow, dx2, _, _, rfl, g8 _ _ ha2, cC, z1, f1, d1, rfl, .inl ⟨_, .inl (g8 _ _ R2.h1)⟩, _, rfl, _, DGet.k (k := Sum.inr n) (g8 _ _ R2.h1), by show 2 ≤ sizeLine; decide, fun u nu => k _ _ ?_ (same_upd nu)⟩
        obtain ⟨o, eo⟩ := get_form R2.rok n
        rw [eo]
        exact .tup (SqT.of upd_same) (.cons (.str n) (.cons (opt_dp o) .nil))
      · intro H8 rs8 s8 e8 dp8
        refine ⟨D, rs8, rfl, .inl ⟨SqL.of e8, fun t4 n4 => ?_⟩⟩
        generalize e9 : upd H8 t4 _ = H9
        have s9 : Same H8 H9 := e9 ▸ same_upd n4
        have g4 : H9 t4 = some (.tup rs8) := e9 ▸ upd_same
        have g29 := g27.trans (s8.trans s9)
        refine ⟨_, rfl, _, rfl, _, rfl, _, rfl, a, C_follow, dx2, _, _, rfl, g29 _ _ ha2, cC, z1, f1, by show 4 ≤ sizeLine; decide, fun t5 n5 => ?_⟩
        have s10 := same_upd (o := .tup [.ref t2, .ref t3, .ref t4, .ref d1]) n5
        have t49 : Same H4 (upd H9 t5 (.tup [.ref t2, .ref t3, .ref t4, .ref d1])) := s46.trans (s7.trans (s8.trans (s9.trans s10)))
        have t69 : Same H6 (upd H9 t5 (.tup [.ref t2, .ref t3, .ref t4, .ref d1])) := s7.trans (s8.trans (s9.trans s10))
        refine q _ _ (s02.trans (g29.trans s10)) ⟨t5, .ref t2, .ref t3, .ref t4, d1, ys, rfl, upd_same, ?_, ?_, ?_, srt, ?_, s10 _ _ (g29 _ _ R2.h1)⟩
        · exact Dp.tk (Same.tk t49) _ _ (by simp [noL, noLs, noLs_ints, noL_oflt]) dout
        · exact Dp.tk (Same.tk t69) _ _ (noLs_reads _) dreads
        · rw [hks]
          exact perm.map _
        · exact .tup (SqT.of (s10 _ _ g4)) (DpAll.tk (Same.tk (s9.trans s10)) _ _ (noLs_sets _ _) dp8)

abbrev s_Lsum_text : Stmt := topS 38
abbrev n_Lsum_text : List Str := ["_law_some", "_law_found", "_law_side", "_law_first", "_law_pairs", "_law_part", "_law_word", "_law_atom"]
abbrev p_Lsum_text : List Str := ["_law_some"]
theorem sc_Lsum_text : FnScope n_Lsum_text p_Lsum_text (defScope s_Lsum_text) := ⟨rfl, rfl, rfl, by decide +kernel, rfl, by decide +kernel, by decide +kernel⟩
def spSumText (K : PySem.W.Frag) : Sp := fun vs H Q _ => ∃ (s : Sm) (sv : V), vs = [sv] ∧ Dp K H sv (smD s) ∧ SmOkB s ∧ ∀ (H' : Hp), Same H H' → Q (.str (sumT s)) H'
theorem gTup2_mono {K : PySem.W.Frag} {i j : Nat} {σ : L2.St} (x : V) (H' : Hp) (C C' : L2.St → Hp → Prop) (h : ∀ s h, C s h → C' s h) (q : gTup K 2 (gCons (gName i) (gCons (gName j) gNil)) x σ H' C) :
    gTup K 2 (gCons (gName i) (gCons (gName j) gNil)) x σ H' C' := by
  obtain ⟨a, xs, e1, e2, e3, v, r, e4, v', r', e5, e7, q⟩ := q
  exact ⟨a, xs, e1, e2, e3, v, r, e4, v', r', e5, e7, h _ _ q⟩
theorem strs_dp {K : PySem.W.Frag} {H : Hp} : ∀ {vs : List V} {zs : List Str}, DpAll K H vs (zs.map PyData.str) → vs = zs.map V.str
  | [], [], _ => rfl
  | [], _ :: _, h => by cases h
  | v :: vs, [], h => by cases h
  | v :: vs, z :: zs, h => by
    cases h with
    | cons a b =>
      cases a
      rw [strs_dp b]
      rfl
theorem noLs_strs (xs : List Str) : noLs (xs.map PyData.str) = true := noLs_map _ (fun _ => rfl) _
theorem atm_of_dp {K : PySem.W.Frag} {H : Hp} {v : V} {a : Atm} (h : Dp K H v (atmD a)) : v = atmV a := by
  cases a <;> (cases h; rfl)
theorem d_Lsum_text (S : Src K mg "_law_sum_text" s_Lsum_text p_Lsum_text) (T : Txt K w mg) : Dn P w K mg base "_law_sum_text" 1 p_Lsum_text (spSumText K) := by
  refine S.ok sc_Lsum_text (fun vs H Q E h => ?_) (fun f cdv A outer s H vs Q E hr h => ?_)
  · obtain ⟨_, _, rfl, _⟩ := h
    rfl
  · obtain ⟨sm, sv, rfl, hs, ok, q⟩ := h
    refine ⟨_, (pss_cons (ps_set (i := 1) sc_Lsum_text.nd rfl (Or.inl rfl) pe_str)
    (pss_cons (ps_for PassesOwn.never rfl (piK_tup (K := K) rfl (pv 0)) (pgK_tup (K := K) (n := 3) rfl rfl (pgs_cons (pg_name (i := 2) sc_Lsum_text.nd rfl (Or.inl rfl)) (pgs_cons (pg_name (i := 3) sc_Lsum_text.nd rfl (Or.inl rfl)) (pgs_cons (pg_name (i := 4) sc_Lsum_text.nd rfl (Or.inl rfl)) pgs_nil))))
    (pss_cons (ps_set (i := 5) sc_Lsum_text.nd rfl (Or.inl rfl) (pe_joinK (K := K) rfl pe_str (pe_op op_cat (pe_lst (pa_cons (pe_callTy strAny (by rfl) T.n_str (by decide +kernel) (pa_cons (pv 3) pa_nil)) pa_nil)) (pe_lc (own := [("_law_word", 6), ("_law_atom", 7)]) (g := (gTup K 2 (gCons (gName 6) (gCons (gName 7) gNil)))) (tt := tYes) rfl sc_Lsum_text.nd (piK_tup (K := K) rfl (pv 4)) (blkOk_by (own := [("_law_word", 6), ("_law_atom", 7)]) (N := n_Lsum_text) (sc := defScope s_Lsum_text) (by decide +kernel)) (fun _ _ _ _ _ => pgK_tup (K := K) (n := 2) rfl rfl (pgs_cons (pg_name (i := 6) sc_Lsum_text.nd rfl (Or.inl rfl)) (pgs_cons (pg_name (i := 7) sc_Lsum_text.nd rfl (Or.inl rfl)) pgs_nil))) (fun _ _ _ _ _ => pts_nil) (fun _ _ _ _ _ => (pe_op op_add_str (pe_op op_add_str (pv 6) pe_str) (pe_callTy strAny (by rfl) T.n_str (by decide +kernel) (pa_cons (pv 7) pa_nil))))))))
    (pss_one (ps_if (pt_cmpR op_eq (pv 1) pe_str (nomark _)) (pss_one (ps_set (i := 1) sc_Lsum_text.nd rfl (Or.inl rfl) (pe_ifExp (pt_cmpR op_lt (pv 2) pe_int (nomark _)) (pe_op op_add_str pe_str (pv 5)) (pv 5)))) (pss_one (ps_set (i := 1) sc_Lsum_text.nd rfl (Or.inl rfl) (pe_op op_add_str (pe_op op_add_str (pv 1) (pe_ix (ixK_list (K := K) rfl) (pe_lst (pa_cons pe_str (pa_cons pe_str pa_nil))) (pe_callTy call_int1 (by rfl) T.n_int (by decide +kernel) (pa_cons (pe_cmpR op_lt (pv 2) pe_int (nomark _)) pa_nil)) (fun _ _ => rfl))) (pv 5))))))))
    (pss_one (ps_ret (pv 1))))), ?_⟩
    cases hs with
    | tup hps hpa =>
    rename_i pa pxs
    have lps := DpAll.length hpa
    rw [List.length_map] at lps
    refine ⟨_, rfl, pa, rfl, ⟨_, hps⟩, for_tup (K := K) (a := pa) (xs := pxs) (fun k σ H' => ∃ (v2 v3 v4 v5 v6 v7 : Option V), σ = [some (.ref pa), some (.str (sumT (sm.take k))), v2, v3, v4, v5, v6, v7] ∧ Same H H')
      ⟨_, _, _, _, _, _, rfl, Same.refl H⟩ (fun k σ H' _ ⟨_, _, _, _, _, _, _, ss⟩ => Same.tk ss _ _ hps) ?_ ?_⟩
    · rintro k x σ H2 hx ⟨v2, v3, v4, v5, v6, v7, rfl, s2⟩
      have hk : k < sm.length := by
        have := (List.getElem?_eq_some_iff.mp hx).1
        omega
      have hak : sm[k]? = some sm[k] := List.getElem?_eq_getElem hk
      have okk := ok.ok _ (List.getElem_mem hk)
      have hmem := List.getElem_mem hk
      have htake : sm.take (k + 1) = sm.take k ++ [sm[k]] := by rw [List.take_add_one, hak]; rfl
      obtain ⟨d, hd, dxx⟩ := DpAll.getV (DpAll.tk (Same.tk s2) _ _ (noLs_map prdD noL_prd sm) hpa) hx
      rw [List.getElem?_map, hak] at hd
      generalize sm[k] = p at hak okk hd hmem htake
      have ed : d = prdD p := (Option.some.inj hd).symm
      subst ed
      have hN := smN_mem hmem
      have hN20 := ok.n
      have hpN : prdN p = 1 + p.prs.length := rfl
      have okp := okk
      unfold prdOk at okp
      simp only [Bool.and_eq_true, List.all_eq_true] at okp
      have plen := partT_len okk
      have tlen := sumT_len2 (sm.take k) fun q hq => ok.ok q (List.mem_of_mem_take hq)
      have tN : smN (sm.take k) ≤ 20 := by
        have e : smN sm = smN (sm.take k) + smN (sm.drop k) := by
          unfold smN
          rw [← List.sum_append, ← List.map_append, List.take_append_drop]
        omega
      cases dxx with
      | tup st da =>
        cases da with
        | cons da1 da2 =>
          cases da1
          cases da2 with
          | cons da3 da4 =>
            cases da4 with
            | cons da5 da6 =>
              cases da6
              have eb := atm_of_dp da3
              subst eb
              cases da5 with
              | tup sp pp =>
              rename_i tq ap axs
              have lpp := DpAll.length pp
              rw [List.length_map] at lpp
              refine ⟨tq, _, rfl, st, rfl, _, _, rfl, _, _, rfl, _, _, rfl, rfl, ?_⟩
              refine ⟨⟨_, rfl⟩, _, rfl, p.fst, rfl, okp.1, by show 1 ≤ sizeLine; decide, fun L1 nL1 => ?_⟩
              generalize e3 : upd H2 L1 _ = H3
              have s3 : Same H2 H3 := e3 ▸ same_upd nL1
              have g1 : H3 L1 = some (.lst [.str (atmT p.fst)]) := e3 ▸ upd_same
              refine ⟨_, rfl, ap, rfl, ⟨_, Same.tk s3 _ _ sp⟩, fun D nD => ?_⟩
              refine lc_gen (K := K) (walk_tup (K := K) (a := ap) (xs := axs)) ((p.prs.map pairT).map PyData.str) (by rw [List.length_map, List.length_map, lpp]) (noLs_strs _) (Nat.lt_of_le_of_lt (show axs.length ≤ 20 by omega) (by decide)) Same (Same H3) (same_upd nD) (fun H h => Same.tk (s3.trans h) _ _ sp) (fun H H4 r s => ⟨fun o e => s _ _ e, Same.tk s, fun ys => same_put (r.trans s) nD⟩) ?_ (fun x H' C C' h q => gTup2_mono x H' C C' h q) ?_
              · rintro j x d H4 H5 C hj r4 _ ⟨rfl, hx⟩ hd k
                have hj' : j < p.prs.length := by omega
                have hpj : p.prs[j]? = some p.prs[j] := List.getElem?_eq_getElem hj'
                have okj := okp.2 _ (List.getElem_mem hj')
                rw [List.getElem?_map, List.getElem?_map, hpj] at hd
                obtain ⟨d2, hd2, dx2⟩ := DpAll.getV (DpAll.tk (Same.tk (s3.trans r4)) _ _ (noLs_map prD noL_pr _) pp) hx
                rw [List.getElem?_map, hpj] at hd2
                generalize p.prs[j] = pr at hpj okj hd hd2
                obtain ⟨m, a⟩ := pr
                have ed : PyData.str (pairT (m, a)) = d := Option.some.inj hd
                have ed2 : PyData.tuple [.str (jS m), atmD a] = d2 := Option.some.inj hd2
                subst ed ed2
                cases dx2 with
                | tup st2 db =>
                  cases db with
                  | cons db1 db2 =>
                    cases db1
                    cases db2 with
                    | cons db3 db4 =>
                      cases db4
                      have eb := atm_of_dp db3
                      subst eb
                      have l2 : (jS m).length ≤ 2 := by cases m <;> decide +kernel
                      have l4 : (atmT a).length ≤ 4 := atm_len okj
                      have l1 : (Str.ofString " ").length = 1 := by decide +kernel
                      refine ⟨_, _, rfl, st2, rfl, _, _, rfl, _, _, rfl, rfl, rfl, ?_⟩
                      refine ⟨_, rfl, _, _, rfl, rfl, Nat.le_trans (show (jS m).length + (Str.ofString " ").length ≤ 10 by omega) (by decide), _, rfl, a, rfl, okj, _, _, rfl, rfl, Nat.le_trans (show (jS m ++ Str.ofString " ").length + (atmT a).length ≤ 10 by rw [len_app]; omega) (by decide), k _ _ (.str _) (Same.refl _)⟩
              · intro H4 rs4 r4 e4 dp4
                have e5 := strs_dp dp4
                subst e5
                refine ⟨L1, D, _, _, rfl, rfl, r4 _ _ g1, e4, ?_, fun M nM => ?_⟩
                · rw [List.length_map, List.length_map]
                  exact Nat.le_trans (show [V.str (atmT p.fst)].length + p.prs.length ≤ 21 by show 1 + _ ≤ 21; omega) (by decide)
                generalize e6 : upd H4 M _ = H6
                have s6 : Same H4 H6 := e6 ▸ same_upd nM
                have g6 : H6 M = some (.lst ((atmT p.fst :: p.prs.map pairT).map V.str)) := e6 ▸ upd_same
                have s26 := s3.trans (r4.trans s6)
                refine ⟨Str.ofString " ", M, atmT p.fst :: p.prs.map pairT, rfl, rfl, .inl (SqL.of g6), ?_, ?_⟩
                · have l1 : (Str.ofString " ").length = 1 := by decide +kernel
                  have hsum : ((atmT p.fst :: p.prs.map pairT).map (·.length)).sum ≤ ((atmT p.fst :: p.prs.map pairT).map (·.length)).length * 7 := sum_le (c := 7) fun x hx => by
                    obtain ⟨w, hw, rfl⟩ := List.mem_map.mp hx
                    rcases List.mem_cons.mp hw with rfl | hw
                    · have := atm_len okp.1
                      show (atmT p.fst).length ≤ 7
                      omega
                    · obtain ⟨q, hq, rfl⟩ := List.mem_map.mp hw
                      have h1 := atm_len (okp.2 q hq)
                      have h2 : (jS q.1).length ≤ 2 := by cases q.1 <;> decide +kernel
                      show (jS q.1 ++ Str.ofString " " ++ atmT q.2).length ≤ 7
                      rw [len_app, len_app]
                      omega
                  rw [List.length_map, List.length_cons, List.length_map] at hsum
                  rw [List.length_cons, List.length_map, l1]
                  omega
                show (fun (x : V) (H1 : Hp) => _) (V.str (partT p)) H6
                have hpl : (partT p).length ≤ 300 := by omega
                refine ⟨_, rfl, rfl, _, rfl, ?_⟩
                by_cases h0 : sm.take k = []
                · have e1 : sumT (sm.take (k + 1)) = if p.neg then Str.ofString "- " ++ partT p else partT p := by rw [htake, h0, List.nil_append, sumT_one]
                  rw [h0, show decide (V.str (sumT []) = V.str (Str.ofString "")) = true by decide +kernel]
                  refine iteT ⟨_, rfl, sgI p.neg, 0, rfl, rfl, _, rfl, ?_⟩
                  cases hn : p.neg with
                  | true =>
                    rw [hn, if_pos rfl] at e1
                    rw [e1, show decide (sgI true < 0) = true by decide]
                    refine iteT ?_
                    exact ⟨_, rfl, _, _, rfl, rfl, Nat.le_trans (show (Str.ofString "- ").length + (partT p).length ≤ 400 by rw [show (Str.ofString "- ").length = 2 by decide +kernel]; omega) (by decide), _, _, _, _, _, _, rfl, s2.trans s26⟩
                  | false =>
                    rw [hn, if_neg Bool.false_ne_true] at e1
                    rw [e1, show decide (sgI false < 0) = false by decide]
                    refine iteF ?_
                    exact ⟨_, rfl, _, _, _, _, _, _, rfl, s2.trans s26⟩
                · have e1 : sumT (sm.take (k + 1)) = sumT (sm.take k) ++ (if p.neg then Str.ofString " - " else Str.ofString " + ") ++ partT p := by rw [htake, sumT_snoc h0]
                  have hne := sumT_ne h0 fun q hq => ok.ok q (List.mem_of_mem_take hq)
                  rw [decide_eq_false (fun e => hne (V.str.inj e))]
                  have two : ∀ (z : Str) (j : Nat) (H7 : Hp), Same H6 H7 → z.length ≤ 3 → sumT (sm.take (k + 1)) = sumT (sm.take k) ++ z ++ partT p → True := fun _ _ _ _ _ _ => trivial
                  refine iteF ⟨_, rfl, by show 2 ≤ sizeLine; decide, fun L2 nL2 => ?_⟩
                  generalize e7 : upd H6 L2 _ = H7
                  have s7 : Same H6 H7 := e7 ▸ same_upd nL2
                  have g7 : H7 L2 = some (.lst [.str " + ", .str " - "]) := e7 ▸ upd_same
                  have s27 := s26.trans s7
                  have l3 : (Str.ofString " - ").length = 3 := by decide +kernel
                  have l3' : (Str.ofString " + ").length = 3 := by decide +kernel
                  refine ⟨_, rfl, sgI p.neg, 0, rfl, rfl, .inr ⟨_, rfl, ?_⟩⟩
                  cases hn : p.neg with
                  | true =>
                    rw [hn, if_pos rfl] at e1
                    rw [e1]
                    exact ⟨L2, _, 1, .str " - ", rfl, rfl, SqL.of g7, atI_nat (j := 1) rfl, _, _, rfl, rfl, Nat.le_trans (show (sumT (sm.take k)).length + (Str.ofString " - ").length ≤ 1000 by omega) (by decide), _, rfl, _, _, rfl, rfl, Nat.le_trans (show (sumT (sm.take k) ++ Str.ofString " - ").length + (partT p).length ≤ 1000 by rw [len_app]; omega) (by decide), _, _, _, _, _, _, rfl, s2.trans s27⟩
                  | false =>
                    rw [hn, if_neg Bool.false_ne_true] at e1
                    rw [e1]
                    exact ⟨L2, _, 0, .str " + ", rfl, rfl, SqL.of g7, atI_nat (j := 0) rfl, _, _, rfl, rfl, Nat.le_trans (show (sumT (sm.take k)).length + (Str.ofString " + ").length ≤ 1000 by omega) (by decide), _, rfl, _, _, rfl, rfl, Nat.le_trans (show (sumT (sm.take k) ++ Str.ofString " + ").length + (partT p).length ≤ 1000 by rw [len_app]; omega) (by decide), _, _, _, _, _, _, rfl, s2.trans s27⟩
    · rintro σ H2 ⟨v2, v3, v4, v5, v6, v7, rfl, s2⟩
      rw [lps, List.take_length]
      exact ⟨_, rfl, q _ s2⟩

abbrev s_Lrow_text : Stmt := topS 37
abbrev n_Lrow_text : List Str := ["_law_row"]
abbrev p_Lrow_text : List Str := ["_law_row"]
theorem sc_Lrow_text : FnScope n_Lrow_text p_Lrow_text (defScope s_Lrow_text) := ⟨rfl, rfl, rfl, by decide +kernel, rfl, by decide +kernel, by decide +kernel⟩
def depR : Row → Nat
  | .pl _ => 0
  | .cond _ _ => 1
def spRowText (K : PySem.W.Frag) (n : Nat) : Sp := fun vs H Q _ => ∃ (r : Row) (rv : V), vs = [rv] ∧ Dp K H rv (rowD r) ∧ RowOk r ∧ depR r < n ∧ ∀ (H' : Hp), Same H H' → Q (.str (rowT r)) H'
theorem row_text_step {n k : Nat} (hk : 1 ≤ k) (S : Src K mg "_law_row_text" s_Lrow_text p_Lrow_text) (D_Lsum_text : Dn P w K mg base "_law_sum_text" 1 p_Lsum_text (spSumText K)) (D_Lrow_text : Dn P w K mg base "_law_row_text" k p_Lrow_text (spRowText K n)) : Dn P w K mg base "_law_row_text" (k + 1) p_Lrow_text (spRowText K (n + 1)) := by
  refine S.ok sc_Lrow_text (fun vs H Q E h => ?_) (fun f cdv A outer s H vs Q E hr h => ?_)
  · obtain ⟨_, _, rfl, _⟩ := h
    rfl
  · obtain ⟨r, rv, rfl, hrv, ok, hd, q⟩ := h
    refine ⟨_, (pss_cons (ps_if (pt_cmpR op_eq (pe_ix (ixK_tup (K := K) rfl) (pv 0) pe_int (fun _ _ => rfl)) pe_str (nomark _)) (pss_one (ps_ret (pe_op op_add_str (pe_op op_add_str (pe_ix (ixK_tup (K := K) rfl) (pv 0) pe_int (fun _ _ => rfl)) pe_str) (pe_fn D_Lsum_text (hr.mono (by omega)) (by rfl) (pa_cons (pe_ix (ixK_tup (K := K) rfl) (pv 0) pe_int (fun _ _ => rfl)) pa_nil))))) pss_nil)
    (pss_cons (ps_if (pt_cmpR op_eq (pe_ix (ixK_tup (K := K) rfl) (pv 0) pe_int (fun _ _ => rfl)) pe_str (nomark _)) (pss_one (ps_ret (pe_op op_add_str (pe_op op_add_str (pe_op op_add_str pe_str (pe_fn D_Lsum_text (hr.mono (by omega)) (by rfl) (pa_cons (pe_ix (ixK_tup (K := K) rfl) (pv 0) pe_int (fun _ _ => rfl)) pa_nil))) pe_str) (pe_fn D_Lrow_text (hr.mono (by omega)) (by rfl) (pa_cons (pe_ix (ixK_tup (K := K) rfl) (pv 0) pe_int (fun _ _ => rfl)) pa_nil))))) pss_nil)
    (pss_one (ps_ret (pe_op op_add_str (pe_op op_add_str (pe_ix (ixK_tup (K := K) rfl) (pv 0) pe_int (fun _ _ => rfl)) pe_str) (pe_ifExp (pt_cmpR op_eq (pe_ix (ixK_tup (K := K) rfl) (pv 0) pe_int (fun _ _ => rfl)) pe_str (nomark _)) (pe_ix (ixK_tup (K := K) rfl) (pv 0) pe_int (fun _ _ => rfl)) (pe_fn D_Lsum_text (hr.mono (by omega)) (by rfl) (pa_cons (pe_ix (ixK_tup (K := K) rfl) (pv 0) pe_int (fun _ _ => rfl)) pa_nil)))))))), ?_⟩
    have asc : ∀ a b c : Str, a ++ b ++ c = a ++ (b ++ c) := fun a b c => ext_tl (by rw [tl_append, tl_append, tl_append, tl_append, List.append_assoc])
    have small : ∀ n : Nat, n ≤ 2000 → n ≤ sizeLine := fun n h => Nat.le_trans h (by decide)
    cases r with
    | pl r =>
      cases r with
      | set m s =>
        have l1 := (isNm_and ok.1).2.1
        have l2 := sumT_len ok.2
        have l3 : (Str.ofString " = ").length = 3 := by decide +kernel
        cases hrv with
        | tup st da =>
          cases da with
          | cons g1 g2 =>
            cases g1
            cases g2 with
            | cons g3 g4 =>
              cases g3
              cases g4 with
              | cons g5 g6 =>
                cases g6
                rename_i tq sv
                refine ⟨_, rfl, tq, _, 0, _, rfl, rfl, st, atI_nat (j := 0) rfl, rfl, _, rfl, ?_⟩
                rw [show decide (V.str "set" = V.str "set") = true from decide_eq_true rfl]
                refine iteT ⟨_, rfl, tq, _, 1, _, rfl, rfl, st, atI_nat (j := 1) rfl, _, _, rfl, rfl, small _ (by omega), _, rfl, tq, _, 2, sv, rfl, rfl, st, atI_nat (j := 2) rfl, s, sv, rfl, g5, ok.2.b, fun H1 s1 => ⟨_, _, rfl, rfl, small _ (by rw [len_app]; omega), q _ s1⟩⟩
      | drop m =>
        have l1 := (isNm_and ok).2.1
        have l4 : (Str.ofString "drop").length = 4 := by decide +kernel
        have l5 : (Str.ofString " ").length = 1 := by decide +kernel
        cases hrv with
        | tup st da =>
          cases da with
          | cons g1 g2 =>
            cases g1
            cases g2 with
            | cons g3 g4 =>
              cases g3
              cases g4
              rename_i tq
              refine ⟨_, rfl, tq, _, 0, _, rfl, rfl, st, atI_nat (j := 0) rfl, rfl, _, rfl, ?_⟩
              rw [show decide (V.str "drop" = V.str "set") = false by decide +kernel]
              refine iteF ⟨_, rfl, tq, _, 0, _, rfl, rfl, st, atI_nat (j := 0) rfl, rfl, _, rfl, ?_⟩
              rw [show decide (V.str "drop" = V.str "if") = false by decide +kernel]
              refine iteF ⟨_, rfl, tq, _, 0, _, rfl, rfl, st, atI_nat (j := 0) rfl, _, _, rfl, rfl, small _ (by omega), _, rfl, tq, _, 0, _, rfl, rfl, st, atI_nat (j := 0) rfl, rfl, _, rfl, ?_⟩
              rw [show decide (V.str "drop" = V.str "drop") = true from decide_eq_true rfl]
              refine iteT ⟨_, rfl, tq, _, 1, _, rfl, rfl, st, atI_nat (j := 1) rfl, _, _, rfl, rfl, small _ (by rw [len_app]; omega), ?_⟩
              have h := q H (Same.refl H)
              have e : rowT (.pl (.drop m)) = Str.ofString "drop" ++ Str.ofString " " ++ m := by
                show Str.ofString "drop " ++ m = _
                rw [show (Str.ofString "drop " : Str) = Str.ofString "drop" ++ Str.ofString " " by decide +kernel]
              rw [e] at h
              exact h
      | shw s =>
        have l2 := sumT_len ok
        have l4 : (Str.ofString "show").length = 4 := by decide +kernel
        have l5 : (Str.ofString " ").length = 1 := by decide +kernel
        cases hrv with
        | tup st da =>
          cases da with
          | cons g1 g2 =>
            cases g1
            cases g2 with
            | cons g3 g4 =>
              cases g4
              rename_i tq sv
              refine ⟨_, rfl, tq, _, 0, _, rfl, rfl, st, atI_nat (j := 0) rfl, rfl, _, rfl, ?_⟩
              rw [show decide (V.str "show" = V.str "set") = false by decide +kernel]
              refine iteF ⟨_, rfl, tq, _, 0, _, rfl, rfl, st, atI_nat (j := 0) rfl, rfl, _, rfl, ?_⟩
              rw [show decide (V.str "show" = V.str "if") = false by decide +kernel]
              refine iteF ⟨_, rfl, tq, _, 0, _, rfl, rfl, st, atI_nat (j := 0) rfl, _, _, rfl, rfl, small _ (by omega), _, rfl, tq, _, 0, _, rfl, rfl, st, atI_nat (j := 0) rfl, rfl, _, rfl, ?_⟩
              rw [show decide (V.str "show" = V.str "drop") = false by decide +kernel]
              refine iteF ⟨_, rfl, tq, _, 1, sv, rfl, rfl, st, atI_nat (j := 1) rfl, s, sv, rfl, g3, SmOk.b ok, fun H1 s1 => ⟨_, _, rfl, rfl, small _ (by rw [len_app]; omega), ?_⟩⟩
              have h := q H1 s1
              have e : rowT (.pl (.shw s)) = Str.ofString "show" ++ Str.ofString " " ++ sumT s := by
                show Str.ofString "show " ++ sumT s = _
                rw [show (Str.ofString "show " : Str) = Str.ofString "show" ++ Str.ofString " " by decide +kernel]
              rw [e] at h
              exact h
    | cond t r0 =>
      have l2 := sumT_len ok.1
      have l6 := row0T_len ok.2
      have l4 : (Str.ofString "if ").length = 3 := by decide +kernel
      have l5 : (Str.ofString ": ").length = 2 := by decide +kernel
      cases hrv with
      | tup st da =>
        cases da with
        | cons g1 g2 =>
          cases g1
          cases g2 with
          | cons g3 g4 =>
            cases g4 with
            | cons g5 g6 =>
              cases g6
              rename_i tq sv rv0
              have hd' : 1 < n + 1 := hd
              refine ⟨_, rfl, tq, _, 0, _, rfl, rfl, st, atI_nat (j := 0) rfl, rfl, _, rfl, ?_⟩
              rw [show decide (V.str "if" = V.str "set") = false by decide +kernel]
              refine iteF ⟨_, rfl, tq, _, 0, _, rfl, rfl, st, atI_nat (j := 0) rfl, rfl, _, rfl, ?_⟩
              rw [show decide (V.str "if" = V.str "if") = true from decide_eq_true rfl]
              refine iteT ⟨_, rfl, tq, _, 1, sv, rfl, rfl, st, atI_nat (j := 1) rfl, t, sv, rfl, g3, ok.1.b, fun H1 s1 => ⟨_, _, rfl, rfl, small _ (by omega), _, _, rfl, rfl, small _ (by rw [len_app]; omega), _, rfl, tq, _, 2, rv0, rfl, rfl, Same.tk s1 _ _ st, atI_nat (j := 2) rfl, .pl r0, rv0, rfl, Dp.tk (Same.tk s1) _ _ (noL_row0 r0) g5, ok.2, (show 0 < n by omega), fun H2 s2 => ?_⟩⟩
              have h := q H2 (s1.trans s2)
              exact ⟨_, _, rfl, rfl, small _ (by rw [len_app, len_app]; show 3 + _ + 2 + (row0T r0).length ≤ 2000; omega), h⟩
theorem d_Lrow_text (S : Src K mg "_law_row_text" s_Lrow_text p_Lrow_text) (D_Lsum_text : Dn P w K mg base "_law_sum_text" 1 p_Lsum_text (spSumText K)) : Dn P w K mg base "_law_row_text" 4 p_Lrow_text (spRowText K 2) := by
  have D0 : Dn P w K mg base "_law_row_text" 2 p_Lrow_text (spRowText K 0) := by
    refine S.ok (k := 1) sc_Lrow_text (fun vs H Q E h => ?_) (fun f cdv A outer s H vs Q E hr h => ?_)
    · obtain ⟨_, _, _, _, _, hd, _⟩ := h
      exact absurd hd (Nat.not_lt_zero _)
    · obtain ⟨_, _, _, _, _, hd, _⟩ := h
      exact absurd hd (Nat.not_lt_zero _)
  exact row_text_step (by decide) S D_Lsum_text (row_text_step (by decide) S D_Lsum_text D0)

abbrev s_Ltext : Stmt := topS 36
abbrev n_Ltext : List Str := ["_law_rows", "_law_row"]
abbrev p_Ltext : List Str := ["_law_rows"]
theorem sc_Ltext : FnScope n_Ltext p_Ltext (defScope s_Ltext) := ⟨rfl, rfl, rfl, by decide +kernel, rfl, by decide +kernel, by decide +kernel⟩
def spText (K : PySem.W.Frag) : Sp := fun vs H Q _ => ∃ (rs : List Row) (rv : V), vs = [rv] ∧ Dp K H rv (rowsD rs) ∧ RowsOk rs ∧ ∀ (H' : Hp), Same H H' → Q (.str (rowsT rs)) H'
theorem d_Ltext (S : Src K mg "_law_text" s_Ltext p_Ltext) (D_Lrow_text : Dn P w K mg base "_law_row_text" 4 p_Lrow_text (spRowText K 2)) : Dn P w K mg base "_law_text" 5 p_Ltext (spText K) := by
  refine S.ok sc_Ltext (fun vs H Q E h => ?_) (fun f cdv A outer s H vs Q E hr h => ?_)
  · obtain ⟨_, _, rfl, _⟩ := h
    rfl
  · obtain ⟨rs, rv, rfl, hrv, ok, q⟩ := h
    refine ⟨_, (pss_one (ps_ret (pe_joinK (K := K) rfl pe_str (pe_lc (own := [("_law_row", 1)]) (g := gName 1) (tt := tYes) rfl sc_Ltext.nd (piK_tup (K := K) rfl (pv 0)) (blkOk_by (own := [("_law_row", 1)]) (N := n_Ltext) (sc := defScope s_Ltext) (by decide +kernel)) (fun _ _ _ _ _ => pg_name (i := 1) sc_Ltext.nd rfl (Or.inl rfl)) (fun _ _ _ _ _ => pts_nil) (fun _ _ _ _ _ => (pe_fn D_Lrow_text (hr.mono (by decide)) (by rfl) (pa_cons (pv 1) pa_nil))))))), ?_⟩
    cases hrv with
    | tup hps hpa =>
    rename_i pa pxs
    have lps := DpAll.length hpa
    rw [List.length_map] at lps
    have h6 := ok.n
    refine ⟨⟨_, rfl⟩, _, rfl, pa, rfl, ⟨_, hps⟩, fun D nD => ?_⟩
    refine lc_dp (K := K) (walk_tup (K := K) (a := pa) (xs := pxs)) ((rs.map rowT).map PyData.str) (by rw [List.length_map, List.length_map, lps]) (noLs_strs _) (Nat.lt_of_le_of_lt (show pxs.length ≤ 6 by omega) (by decide)) nD (fun H h => Same.tk h _ _ hps) ?_ ?_
    · rintro j x d H1 H2 C hj s1 ⟨rfl, hx⟩ hd k
      have hj' : j < rs.length := by omega
      have hrj : rs[j]? = some rs[j] := List.getElem?_eq_getElem hj'
      have okj := ok.ok _ (List.getElem_mem hj')
      rw [List.getElem?_map, List.getElem?_map, hrj] at hd
      obtain ⟨d2, hd2, dx2⟩ := DpAll.getV (DpAll.tk (Same.tk s1) _ _ (noLs_map rowD noL_row _) hpa) hx
      rw [List.getElem?_map, hrj] at hd2
      generalize rs[j] = r at hrj okj hd hd2
      have ed : PyData.str (rowT r) = d := Option.some.inj hd
      have ed2 : rowD r = d2 := Option.some.inj hd2
      subst ed ed2
      have dep2 : depR r < 2 := by cases r with | pl r => exact Nat.zero_lt_succ 1 | cond t r => exact Nat.lt_succ_self 1
      exact ⟨_, rfl, r, x, rfl, dx2, okj, dep2, fun H3 s3 => k _ _ (.str _) s3⟩
    · intro H1 rs1 s1 e1 dp1
      have e5 := strs_dp dp1
      subst e5
      refine ⟨Str.ofString "\n", D, rs.map rowT, rfl, rfl, .inl (SqL.of e1), ?_, q _ s1⟩
      have l1 : (Str.ofString "\n").length = 1 := by decide +kernel
      have hsum : ((rs.map rowT).map (·.length)).sum ≤ ((rs.map rowT).map (·.length)).length * 200 := sum_le (c := 200) fun x hx => by
        obtain ⟨w, hw, rfl⟩ := List.mem_map.mp hx
        obtain ⟨r, hr, rfl⟩ := List.mem_map.mp hw
        exact rowT_len (ok.ok r hr)
      rw [List.length_map, List.length_map] at hsum
      rw [List.length_map, l1]
      omega

abbrev s_Lfault_row : Stmt := topS 40
abbrev n_Lfault_row : List Str := ["_law_bag_here", "_law_kind", "_law_sums", "_law_faults", "_law_some"]
abbrev p_Lfault_row : List Str := ["_law_bag_here", "_law_kind"]
theorem sc_Lfault_row : FnScope n_Lfault_row p_Lfault_row (defScope s_Lfault_row) := ⟨rfl, rfl, rfl, by decide +kernel, rfl, by decide +kernel, by decide +kernel⟩
def fsum : Nat → Sm
  | 0 => [⟨false, .nm "none", []⟩]
  | 1 => [⟨false, .num 5, [(false, .num 0)]⟩]
  | 2 => [⟨false, .nm "big", []⟩, ⟨false, .num 1, []⟩]
  | _ => [⟨true, .nm "big", []⟩, ⟨true, .num 1, []⟩]
def fflt : Nat → Flt
  | 0 => .lack "none"
  | 1 => .nought
  | _ => .great
def frow : Nat → Nat → Row
  | 0, k => .pl (.shw (fsum k))
  | 1, k => .pl (.set "a" (fsum k))
  | _, k => .cond (fsum k) (.shw [⟨false, .num 1, []⟩])
theorem seq_asg {te : TE} {g : TG} {u : TS} {D : Ends} {σ : L2.St} {H : Hp} (h : te σ H fun x H1 => g x σ H1 (u D)) : tSeq (tAsg te g) u D σ H := h
def spFault (K : PySem.W.Frag) : Sp := fun vs H Q _ => ∃ (b : Addr) (k : Nat), vs = [.ref b, .int (k : Nat)] ∧ Bag H b ∧ k < 4 ∧ ∀ (v : V) (j : Nat) (H' : Hp), j < 3 → Kp b H H' → Dp K H' v (.tuple [rowD (frow j k), fltD (fflt k)]) → Q v H'
theorem d_Lfault_row (S : Src K mg "_law_fault_row" s_Lfault_row p_Lfault_row) (D_Ltake : Dn P w K mg base "_law_take" 1 p_Ltake spTake) : Dn P w K mg base "_law_fault_row" 2 p_Lfault_row (spFault K) := by
  refine S.ok sc_Lfault_row (fun vs H Q E h => ?_) (fun f cdv A outer s H vs Q E hr h => ?_)
  · obtain ⟨_, _, rfl, _⟩ := h
    rfl
  · obtain ⟨b, k, rfl, hB, hk, q⟩ := h
    refine ⟨_, (pss_cons (ps_set (i := 2) sc_Lfault_row.nd rfl (Or.inl rfl) (pe_lst (pa_cons (pe_tup (pa_cons (pe_tup (pa_cons pe_int (pa_cons pe_str (pa_cons (pe_tup pa_nil) pa_nil)))) pa_nil)) (pa_cons (pe_tup (pa_cons (pe_tup (pa_cons pe_int (pa_cons pe_int (pa_cons (pe_tup (pa_cons (pe_tup (pa_cons pe_str (pa_cons pe_int pa_nil))) pa_nil)) pa_nil)))) pa_nil)) (pa_cons (pe_tup (pa_cons (pe_tup (pa_cons pe_int (pa_cons pe_str (pa_cons (pe_tup pa_nil) pa_nil)))) (pa_cons (pe_tup (pa_cons pe_int (pa_cons pe_int (pa_cons (pe_tup pa_nil) pa_nil)))) pa_nil))) (pa_cons (pe_tup (pa_cons (pe_tup (pa_cons (pe_un un_neg pe_int) (pa_cons pe_str (pa_cons (pe_tup pa_nil) pa_nil)))) (pa_cons (pe_tup (pa_cons (pe_un un_neg pe_int) (pa_cons pe_int (pa_cons (pe_tup pa_nil) pa_nil)))) pa_nil))) pa_nil))))))
    (pss_cons (ps_set (i := 3) sc_Lfault_row.nd rfl (Or.inl rfl) (pe_lst (pa_cons (pe_tup (pa_cons pe_str (pa_cons pe_str pa_nil))) (pa_cons (pe_tup (pa_cons pe_str pa_nil)) (pa_cons (pe_tup (pa_cons pe_str pa_nil)) (pa_cons (pe_tup (pa_cons pe_str pa_nil)) pa_nil))))))
    (pss_cons (ps_set (i := 4) sc_Lfault_row.nd rfl (Or.inl rfl) (pe_lst (pa_cons (pe_tup (pa_cons pe_str (pa_cons (pe_ix (ixK_list (K := K) rfl) (pv 2) (pv 1) (fun _ _ => rfl)) pa_nil))) (pa_cons (pe_tup (pa_cons pe_str (pa_cons pe_str (pa_cons (pe_ix (ixK_list (K := K) rfl) (pv 2) (pv 1) (fun _ _ => rfl)) pa_nil)))) (pa_cons (pe_tup (pa_cons pe_str (pa_cons (pe_ix (ixK_list (K := K) rfl) (pv 2) (pv 1) (fun _ _ => rfl)) (pa_cons (pe_tup (pa_cons pe_str (pa_cons (pe_tup (pa_cons (pe_tup (pa_cons pe_int (pa_cons pe_int (pa_cons (pe_tup pa_nil) pa_nil)))) pa_nil)) pa_nil))) pa_nil)))) pa_nil)))))
    (pss_one (ps_ret (pe_tup (pa_cons (pe_ix (ixK_list (K := K) rfl) (pv 4) (pe_fn D_Ltake (hr.mono (by decide)) (by rfl) (pa_cons (pv 0) (pa_cons pe_int pa_nil))) (fun _ _ => rfl)) (pa_cons (pe_ix (ixK_list (K := K) rfl) (pv 3) (pv 1) (fun _ _ => rfl)) pa_nil)))))))), ?_⟩
    refine seq_asg (evl_lst (K := K) (ds := [smD (fsum 0), smD (fsum 1), smD (fsum 2), smD (fsum 3)]) ?_ (by simp only [noLs, noL_sm]; rfl) (by show 4 ≤ 1000; decide) _ fun L1 vs1 H1 n1 s1 h1 dp1 => ?_)
    · refine evds_cons (noL_sm _) ?_ (evds_cons (noL_sm _) ?_ (evds_cons (noL_sm _) ?_ (evds_cons (noL_sm _) ?_ evds_nil)))
      · exact (evd_tup (evds_cons rfl (evd_tup (evds_cons rfl evd_int (evds_cons rfl evd_str (evds_cons rfl (evd_tup evds_nil rfl (by decide)) evds_nil))) rfl (by decide)) evds_nil) rfl (by decide))
      · exact (evd_tup (evds_cons rfl (evd_tup (evds_cons rfl evd_int (evds_cons rfl evd_int (evds_cons rfl (evd_tup (evds_cons rfl (evd_tup (evds_cons rfl evd_str (evds_cons rfl evd_int evds_nil)) rfl (by decide)) evds_nil) rfl (by decide)) evds_nil))) rfl (by decide)) evds_nil) rfl (by decide))
      · exact (evd_tup (evds_cons rfl (evd_tup (evds_cons rfl evd_int (evds_cons rfl evd_str (evds_cons rfl (evd_tup evds_nil rfl (by decide)) evds_nil))) rfl (by decide)) (evds_cons rfl (evd_tup (evds_cons rfl evd_int (evds_cons rfl evd_int (evds_cons rfl (evd_tup evds_nil rfl (by decide)) evds_nil))) rfl (by decide)) evds_nil)) rfl (by decide))
      · exact (evd_tup (evds_cons rfl (evd_tup (evds_cons rfl evd_neg (evds_cons rfl evd_str (evds_cons rfl (evd_tup evds_nil rfl (by decide)) evds_nil))) rfl (by decide)) (evds_cons rfl (evd_tup (evds_cons rfl evd_neg (evds_cons rfl evd_int (evds_cons rfl (evd_tup evds_nil rfl (by decide)) evds_nil))) rfl (by decide)) evds_nil)) rfl (by decide))
    refine seq_asg (evl_lst (K := K) (ds := [fltD (fflt 0), fltD (fflt 1), fltD (fflt 2), fltD (fflt 3)]) ?_ (by simp only [noLs, noL_flt]; rfl) (by show 4 ≤ 1000; decide) _ fun L2 vs2 H2 n2 s2 h2 dp2 => ?_)
    · exact (evds_cons rfl (evd_tup (evds_cons rfl evd_str (evds_cons rfl evd_str evds_nil)) rfl (by decide)) (evds_cons rfl (evd_tup (evds_cons rfl evd_str evds_nil) rfl (by decide)) (evds_cons rfl (evd_tup (evds_cons rfl evd_str evds_nil) rfl (by decide)) (evds_cons rfl (evd_tup (evds_cons rfl evd_str evds_nil) rfl (by decide)) evds_nil))))
    have hs : [smD (fsum 0), smD (fsum 1), smD (fsum 2), smD (fsum 3)][k]? = some (smD (fsum k)) := by
      match k, hk with
      | 0, _ => rfl
      | 1, _ => rfl
      | 2, _ => rfl
      | 3, _ => rfl
    have hf : [fltD (fflt 0), fltD (fflt 1), fltD (fflt 2), fltD (fflt 3)][k]? = some (fltD (fflt k)) := by
      match k, hk with
      | 0, _ => rfl
      | 1, _ => rfl
      | 2, _ => rfl
      | 3, _ => rfl
    have dp1' : DpAll K H2 vs1 [smD (fsum 0), smD (fsum 1), smD (fsum 2), smD (fsum 3)] := DpAll.tk (Same.tk s2) _ _ (by simp only [noLs, noL_sm]; rfl) dp1
    have hx : EvD K (tOp (rIxL K) (tVar 2) (tVar 1)) [some (.ref b), some (.int (k : Nat)), some (.ref L1), some (.ref L2), none] H2 (smD (fsum k)) := evd_ixL rfl rfl (s2 _ _ h1) dp1' (noL_sm _) hs
    have nl3 : noLs [rowD (frow 0 k), rowD (frow 1 k), rowD (frow 2 k)] = true := by simp [noLs, noL_row]
    have nsm := noL_sm (fsum k)
    refine seq_asg (evl_lst (K := K) (ds := [rowD (frow 0 k), rowD (frow 1 k), rowD (frow 2 k)]) ?_ nl3 (by show 3 ≤ 1000; decide) _ fun L3 vs3 H3 n3 s3 h3 dp3 => ?_)
    · have nx2 : noLs [PyData.str "show", smD (fsum k)] = true := by simp [noL, noLs, nsm]
      have nx3 : noLs [PyData.str "set", .str "a", smD (fsum k)] = true := by simp [noL, noLs, nsm]
      have nx4 : noLs [PyData.str "if", smD (fsum k), row0D (.shw [⟨false, .num 1, []⟩])] = true := by simp [noL, noLs, nsm, noL_row0]
      refine evds_cons (noL_row _) (evd_tup (evds_cons rfl evd_str (evds_cons nsm hx evds_nil)) nx2 (by show 2 ≤ 1000; decide)) (evds_cons (noL_row _) (evd_tup (evds_cons rfl evd_str (evds_cons rfl evd_str (evds_cons nsm hx evds_nil))) nx3 (by show 3 ≤ 1000; decide)) (evds_cons (noL_row _) (evd_tup (evds_cons rfl evd_str (evds_cons nsm hx (evds_cons (noL_row0 _) ?_ evds_nil))) nx4 (by show 3 ≤ 1000; decide)) evds_nil))
      exact (evd_tup (evds_cons rfl evd_str (evds_cons rfl (evd_tup (evds_cons rfl (evd_tup (evds_cons rfl evd_int (evds_cons rfl evd_int (evds_cons rfl (evd_tup evds_nil rfl (by decide)) evds_nil))) rfl (by decide)) evds_nil) rfl (by decide)) evds_nil)) rfl (by decide))
    have k3 : Kp b H H3 := Kp.of hB (s1.trans (s2.trans s3))
    have f3 : H L3 = none := s1.free (s2.free n3)
    refine ⟨_, rfl, _, rfl, b, 3, rfl, k3.bag, by decide, by decide, fun r H4 r0 r1 k4 => ?_⟩
    have h4 := k4.keep L3 _ (hB.ne f3) h3
    have t4 : TK K H3 H4 := Kp.tk k4 k3.bag
    have hj : r.toNat < 3 := by omega
    have hr3 : [rowD (frow 0 k), rowD (frow 1 k), rowD (frow 2 k)][r.toNat]? = some (rowD (frow r.toNat k)) := by
      revert hj
      generalize r.toNat = j
      intro hj
      match j, hj with
      | 0, _ => rfl
      | 1, _ => rfl
      | 2, _ => rfl
    obtain ⟨x3, g1, g2⟩ := DpAll.get (DpAll.tk t4 _ _ nl3 dp3) hr3
    have f2 : H L2 = none := s1.free n2
    have h42 := k4.keep L2 _ (hB.ne f2) (s3 _ _ h2)
    have nlf : noLs [fltD (fflt 0), fltD (fflt 1), fltD (fflt 2), fltD (fflt 3)] = true := by simp [noLs, noL_flt]
    obtain ⟨x2, g3, g4⟩ := DpAll.get (DpAll.tk (TK.trans (Same.tk s3) t4) _ _ nlf dp2) hf
    have er : r = ((r.toNat : Nat) : Int) := by omega
    refine ⟨L3, vs3, r, x3, rfl, rfl, SqL.of h4, at_of er g1, _, rfl, _, rfl, L2, vs2, (k : Nat), x2, rfl, rfl, SqL.of h42, atI_nat g3, by show 2 ≤ sizeLine; decide, fun p np => ?_⟩
    refine q _ r.toNat _ hj ((k3.trans k4).same (same_upd np)) (.tup (SqT.of upd_same) (.cons (Dp.tk (tk_put np) _ _ (noL_row _) g2) (.cons (Dp.tk (tk_put np) _ _ (noL_flt _) g4) .nil)))

abbrev s_Lis_told : Stmt := topS 41
abbrev n_Lis_told : List Str := ["_law_bag_here", "_law_many", "_law_room", "_law_ahead", "_law_at", "_law_kind", "_law_row", "_law_fault", "_law_second", "_law_other", "_law_rows", "_law_told", "_law_twice", "_law_good", "_law_k"]
abbrev p_Lis_told : List Str := ["_law_bag_here", "_law_many"]
theorem sc_Lis_told : FnScope n_Lis_told p_Lis_told (defScope s_Lis_told) := ⟨rfl, rfl, rfl, by decide +kernel, rfl, by decide +kernel, by decide +kernel⟩
def bigR : Room_ := [(Sum.inr "big", .int 1000000000), (Sum.inr "a", .int 1)]
def shR (k : Nat) : Row := .pl (.shw [⟨false, .num k, []⟩])
def ahd (m : Nat) : List Row := (List.range m).map shR
def bRow (a : Atm) : Row := .pl (.set "b" [⟨false, a, []⟩])
def rows1 (m t j k : Nat) : List Row := (ahd m).take t ++ [frow j k] ++ (ahd m).drop t
def rows2 (m t j k j2 k2 : Nat) : List Row := (ahd m).take t ++ [frow j k, bRow (.num 4), frow j2 k2]
def rows3 (m : Nat) : List Row := [bRow (.nm "big")] ++ (ahd m).take 3 ++ [.pl (.shw [⟨true, .nm "big", []⟩])]
def smOkb (s : Sm) : Bool := !s.isEmpty && decide (smN s ≤ 8) && s.all prdOk
theorem smOkb_ok {s : Sm} (h : smOkb s = true) : SmOk s := by
  unfold smOkb at h
  rw [Bool.and_eq_true, Bool.and_eq_true] at h
  refine ⟨fun e => ?_, of_decide_eq_true h.1.2, List.all_eq_true.mp h.2⟩
  rw [e] at h
  exact absurd h.1.1 (by decide)
def row0Okb : Row0 → Bool
  | .set n s => isNm n && smOkb s
  | .drop n => isNm n
  | .shw s => smOkb s
theorem row0Okb_ok {r : Row0} (h : row0Okb r = true) : Row0Ok r := by
  cases r with
  | set n s =>
    have h' : (isNm n && smOkb s) = true := h
    rw [Bool.and_eq_true] at h'
    exact ⟨h'.1, smOkb_ok h'.2⟩
  | drop n => exact h
  | shw s => exact smOkb_ok h
def rowOkb : Row → Bool
  | .pl r => row0Okb r
  | .cond t r => smOkb t && row0Okb r
theorem rowOkb_ok {r : Row} (h : rowOkb r = true) : RowOk r := by
  cases r with
  | pl r => exact row0Okb_ok h
  | cond t r =>
    have h' : (smOkb t && row0Okb r) = true := h
    rw [Bool.and_eq_true] at h'
    exact ⟨smOkb_ok h'.1, row0Okb_ok h'.2⟩
def rowsOkb (rs : List Row) : Bool := !rs.isEmpty && decide (rs.length ≤ 6) && rs.all rowOkb
theorem rowsOkb_ok {rs : List Row} (h : rowsOkb rs = true) : RowsOk rs := by
  unfold rowsOkb at h
  rw [Bool.and_eq_true, Bool.and_eq_true] at h
  refine ⟨fun e => ?_, of_decide_eq_true h.1.2, fun r hr => rowOkb_ok (List.all_eq_true.mp h.2 r hr)⟩
  rw [e] at h
  exact absurd h.1.1 (by decide)
theorem bigR_ok : RoomOk bigR := by
  intro p hp
  rcases List.mem_cons.mp hp with rfl | hp
  · exact ⟨_, _, rfl, by decide⟩
  · rcases List.mem_cons.mp hp with rfl | hp
    · exact ⟨_, _, rfl, by decide⟩
    · cases hp
def outD (sh : List Int) (f : Option Flt) : PyData := .tuple [.tuple (sh.map .int), ofltD f]
def fineD (d : PyData) : Bool := SeqAt.shaped d && d.eqv d
theorem fact1 : ∀ m < 4, ∀ t < m + 1, ∀ j < 3, ∀ k < 4, (rowsOkb (rows1 m t j k) && decide ((runE (rs0 bigR) (rows1 m t j k)).1 = some (fflt k)) && decide ((runE (rs0 bigR) (rows1 m t j k)).2.shown = rgI t) && decide ((runE (rs0 bigR) (rows1 m t j k)).2.room = bigR) && fineD (outD (rgI t) (some (fflt k)))) = true := by decide +kernel
theorem fact2 : ∀ m < 4, ∀ t < m + 1, ∀ j < 3, ∀ k < 4, ∀ j2 < 3, ∀ k2 < 4, (rowsOkb (rows2 m t j k j2 k2) && decide ((runE (rs0 bigR) (rows2 m t j k j2 k2)).1 = some (fflt k)) && decide ((runE (rs0 bigR) (rows2 m t j k j2 k2)).2.shown = rgI t)) = true := by decide +kernel
def goodSh (m : Nat) : List Int := rgI (min 3 m) ++ [-1000000000]
theorem fact3 : ∀ m < 4, (rowsOkb (rows3 m) && decide ((runE (rs0 bigR) (rows3 m)).1 = none) && decide ((runE (rs0 bigR) (rows3 m)).2.shown = goodSh m) && decide (valV (runE (rs0 bigR) (rows3 m)).2.room (Sum.inr "b" : Key) = some (.int 1000000000)) && fineD (outD (goodSh m) none)) = true := by decide +kernel
theorem noL_out (sh : List Int) (f : Option Flt) : noL (outD sh f) = true := by
  show (noLs (sh.map PyData.int) && (noL (ofltD f) && true)) = true
  rw [noLs_ints, noL_oflt]
  rfl
theorem noLs_rowD (rs : List Row) : noLs (rs.map rowD) = true := noLs_map rowD noL_row rs
theorem ev_run {C : Addr} {spI : Sp} {σ : L2.St} {H : Hp} {te : TE} {rs : List Row} {R : Addr} {i : Nat}
    (imp : ∀ vs H Q E, spCellNew K mg vs H Q E → ∀ x dx, H x = none → H dx = none → dx ≠ x → spI (.ref x :: vs) (upd (upd H dx (.own x)) x (.ins C dx [])) (fun v H2 => v = .non ∧ Q (.ref x) H2) E)
    (h : EvD K te σ H (rowsD rs)) (ok : RowsOk rs) (hR : σ[i]? = some (some (.ref R))) (hd : H R = some (.dK bigR)) (Q : VK) (q : ∀ v H2, Same H H2 → runV K H2 v (runE (rs0 bigR) rs) → Q v H2) :
    tCall (spRunIn K mg) [] E0 (tCons (tMake C spI [] E0 (tCons (tCall (spText K) [] E0 (tCons te tNil)) tNil)) (tCons (tCB (fun xs H Q => ∃ a kvs, xs = [V.ref a] ∧ Rd H a (HO.dK kvs) ∧ ∀ (p : Addr), H p = none → Q (V.ref p) (upd H p (HO.dK kvs))) (tCons (tVar i) tNil)) tNil)) σ H Q := by
  refine h H (Same.refl H) _ fun v H1 s1 d1 => ⟨rs, v, rfl, d1, ok, fun H2 s2 => make_at imp _ ⟨rs, rfl, ok, fun a H3 s3 na cv => ⟨a, rfl, ⟨_, hR, R, bigR, rfl, .inl (s3 _ _ (s2 _ _ (s1 _ _ hd))), fun p np => ?_⟩⟩⟩⟩
  obtain ⟨ca, C', dx, rv, e, hm, ha, hrv⟩ := cv
  cases e
  exact ⟨.ref a, rs, p, bigR, rfl, ⟨a, C', dx, rv, rfl, hm, same_upd np _ _ ha, Dp.tk (tk_put np) _ _ (noL_rows rs) hrv⟩, ok, .inl upd_same, bigR_ok, by decide, fun v H4 s4 r4 => q v H4 (s1.trans (s2.trans (s3.trans ((same_upd np).trans s4)))) r4⟩
theorem ev_told0 {σ : L2.St} {H : Hp} {v : V} {i : Nat} {fin : Option Flt × RS} {sh : List Int} {o : Option Flt} (hi : σ[i]? = some (some v)) (rv : runV K H v fin) (e1 : fin.1 = o) (e2 : fin.2.shown = sh) : EvD K (tOp (rIxT K) (tVar i) (tC (.int 0))) σ H (outD sh o) := by
  subst e1
  subst e2
  obtain ⟨t, o, rd, se, d, ys, rfl, ht, dO, _⟩ := rv
  exact fun H1 s Q q => ⟨_, hi, t, _, 0, o, rfl, rfl, SqT.of (s _ _ ht), rfl, q _ _ (Same.refl H1) (Dp.tk (Same.tk s) _ _ (noL_out _ _) dO)⟩
theorem ne_self {σ : L2.St} {H : Hp} {ta tb : TE} {d : PyData} {Q : VK} (ha : EvD K ta σ H d) (hb : EvD K tb σ H d) (n : noL d = true) (f : fineD d = true) (q : ∀ H2, Same H H2 → Q (.bl false) H2) : tOp (rNeD K) ta tb σ H Q := by
  unfold fineD at f
  rw [Bool.and_eq_true] at f
  refine ha H (Same.refl H) _ fun x H1 s1 d1 => hb H1 s1 _ fun y H2 s2 d2 => ⟨d, d, Dp.tk (Same.tk s2) _ _ n d1, d2, f.1, f.1, ?_⟩
  rw [f.2]
  exact q H2 (s1.trans s2)
theorem eq_self {σ : L2.St} {H : Hp} {ta tb : TE} {d : PyData} {Q : VK} (ha : EvD K ta σ H d) (hb : EvD K tb σ H d) (n : noL d = true) (f : fineD d = true) (q : ∀ H2, Same H H2 → Q (.bl true) H2) : tOp (rEqD K) ta tb σ H Q := by
  unfold fineD at f
  rw [Bool.and_eq_true] at f
  refine ha H (Same.refl H) _ fun x H1 s1 d1 => hb H1 s1 _ fun y H2 s2 d2 => ⟨d, d, Dp.tk (Same.tk s2) _ _ n d1, d2, f.1, f.1, ?_⟩
  rw [f.2]
  exact q H2 (s1.trans s2)
theorem and4 {a b c : Bool} (h : (a && b && c) = true) : a = true ∧ b = true ∧ c = true := by
  rw [Bool.and_eq_true, Bool.and_eq_true] at h
  exact ⟨h.1.1, h.1.2, h.2⟩
theorem fact1' {m t j k : Nat} (hm : m < 4) (ht : t < m + 1) (hj : j < 3) (hk : k < 4) : RowsOk (rows1 m t j k) ∧ (runE (rs0 bigR) (rows1 m t j k)).1 = some (fflt k) ∧ (runE (rs0 bigR) (rows1 m t j k)).2.shown = rgI t ∧ (runE (rs0 bigR) (rows1 m t j k)).2.room = bigR ∧ fineD (outD (rgI t) (some (fflt k))) = true := by
  have h := fact1 m hm t ht j hj k hk
  simp only [Bool.and_eq_true, decide_eq_true_eq] at h
  exact ⟨rowsOkb_ok h.1.1.1.1, h.1.1.1.2, h.1.1.2, h.1.2, h.2⟩
theorem fact2' {m t j k j2 k2 : Nat} (hm : m < 4) (ht : t < m + 1) (hj : j < 3) (hk : k < 4) (hj2 : j2 < 3) (hk2 : k2 < 4) : RowsOk (rows2 m t j k j2 k2) ∧ (runE (rs0 bigR) (rows2 m t j k j2 k2)).1 = some (fflt k) ∧ (runE (rs0 bigR) (rows2 m t j k j2 k2)).2.shown = rgI t := by
  have h := fact2 m hm t ht j hj k hk j2 hj2 k2 hk2
  simp only [Bool.and_eq_true, decide_eq_true_eq] at h
  exact ⟨rowsOkb_ok h.1.1, h.1.2, h.2⟩
theorem fact3' {m : Nat} (hm : m < 4) : RowsOk (rows3 m) ∧ (runE (rs0 bigR) (rows3 m)).1 = none ∧ (runE (rs0 bigR) (rows3 m)).2.shown = goodSh m ∧ valV (runE (rs0 bigR) (rows3 m)).2.room (Sum.inr "b" : Key) = some (.int 1000000000) ∧ fineD (outD (goodSh m) none) = true := by
  have h := fact3 m hm
  simp only [Bool.and_eq_true, decide_eq_true_eq] at h
  exact ⟨rowsOkb_ok h.1.1.1.1, h.1.1.1.2, h.1.1.2, h.1.2, h.2⟩
theorem rowsD1 (m t j k : Nat) : rowsD (rows1 m t j k) = .tuple (((ahd m).map rowD).take t ++ [rowD (frow j k)] ++ ((ahd m).map rowD).drop t) := by
  unfold rowsD rows1
  rw [List.map_append, List.map_append, List.map_take, List.map_drop]
  rfl
theorem rowsD2 (m t j k j2 k2 : Nat) : rowsD (rows2 m t j k j2 k2) = .tuple (((ahd m).map rowD).take t ++ [rowD (frow j k), rowD (bRow (.num 4)), rowD (frow j2 k2)]) := by
  unfold rowsD rows2
  rw [List.map_append, List.map_take]
  rfl
theorem rowsD3 (m : Nat) : rowsD (rows3 m) = .tuple ([rowD (bRow (.nm "big"))] ++ ((ahd m).map rowD).take 3 ++ [rowD (.pl (.shw [⟨true, .nm "big", []⟩]))]) := by
  unfold rowsD rows3
  rw [List.map_append, List.map_append, List.map_take]
  rfl
theorem seq_if2 {σ : L2.St} {H : Hp} {A B : TE} {t rest : TS} {D : Ends} (hA : ∀ Q : VK, (∀ H2, Same H H2 → Q (.bl false) H2) → A σ H Q) (hB : ∀ H1, Same H H1 → ∀ Q : VK, (∀ H2, Same H1 H2 → Q (.bl false) H2) → B σ H1 Q) (h : ∀ H2, Same H H2 → rest D σ H2) : tSeq (tIfS (tOr (tTest A) (tTest B)) t tNext) rest D σ H :=
  hA _ fun H1 s1 => ⟨false, rfl, iteF (hB H1 s1 _ fun H2 s2 => ⟨false, rfl, iteF (h H2 (s1.trans s2))⟩)⟩
theorem seq_if1 {σ : L2.St} {H : Hp} {A : TE} {t rest : TS} {D : Ends} (hA : ∀ Q : VK, (∀ H2, Same H H2 → Q (.bl false) H2) → A σ H Q) (h : ∀ H2, Same H H2 → rest D σ H2) : tSeq (tIfS (tTest A) t tNext) rest D σ H :=
  hA _ fun H1 s1 => ⟨false, rfl, iteF (h H1 s1)⟩
theorem ret_and2 {σ : L2.St} {H : Hp} {A B : TE} {D : Ends} (hA : ∀ Q : VK, (∀ H2, Same H H2 → Q (.bl true) H2) → A σ H Q) (hB : ∀ H1, Same H H1 → ∀ Q : VK, (∀ H2, Same H1 H2 → Q (.bl true) H2) → B σ H1 Q) (h : ∀ H2, Same H H2 → D.rt (.bl true) H2) : tRet (tAndV A B) D σ H :=
  hA _ fun H1 s1 => ⟨true, rfl, iteT (hB H1 s1 _ fun H2 s2 => h H2 (s1.trans s2))⟩
theorem evl_imp {σ : L2.St} {H : Hp} {te : TE} {ds : List PyData} {Q : VK} (h : EvL K te σ H ds) (q : ∀ p H2, Same H H2 → LstAt K H2 p ds → Q (.ref p) H2) : te σ H Q := h H (Same.refl H) Q q
theorem ev_run0 {C : Addr} {spI : Sp} {σ : L2.St} {H : Hp} {te : TE} {rs : List Row} {R : Addr} {i : Nat} {sh : List Int} {o : Option Flt}
    (imp : ∀ vs H Q E, spCellNew K mg vs H Q E → ∀ x dx, H x = none → H dx = none → dx ≠ x → spI (.ref x :: vs) (upd (upd H dx (.own x)) x (.ins C dx [])) (fun v H2 => v = .non ∧ Q (.ref x) H2) E)
    (h : EvD K te σ H (rowsD rs)) (ok : RowsOk rs) (hR : σ[i]? = some (some (.ref R))) (hd : H R = some (.dK bigR)) (e1 : (runE (rs0 bigR) rs).1 = o) (e2 : (runE (rs0 bigR) rs).2.shown = sh) :
    EvD K (tOp (rIxT K) (tCall (spRunIn K mg) [] E0 (tCons (tMake C spI [] E0 (tCons (tCall (spText K) [] E0 (tCons te tNil)) tNil)) (tCons (tCB (fun xs H Q => ∃ a kvs, xs = [V.ref a] ∧ Rd H a (HO.dK kvs) ∧ ∀ (p : Addr), H p = none → Q (V.ref p) (upd H p (HO.dK kvs))) (tCons (tVar i) tNil)) tNil))) (tC (.int 0))) σ H (outD sh o) := fun H1 s Q q => by
  refine ev_run imp (fun H2 s2 => h H2 (s.trans s2)) ok hR (s _ _ hd) _ fun v H2 s2 rv => ?_
  subst e1
  subst e2
  obtain ⟨t, o', rd, se, d, ys, rfl, ht, dO, _⟩ := rv
  exact ⟨t, _, 0, o', rfl, rfl, SqT.of ht, rfl, q _ _ s2 dO⟩
theorem evB {σ : L2.St} {H : Hp} : EvD K (tTup (tCons (tC (V.str (Str.ofString "set"))) (tCons (tC (V.str (Str.ofString "b"))) (tCons (tTup (tCons (tTup (tCons (tC (V.int 1)) (tCons (tC (V.int 4)) (tCons (tTup tNil) tNil)))) tNil)) tNil)))) σ H (rowD (bRow (.num 4))) := (evd_tup (evds_cons rfl evd_str (evds_cons rfl evd_str (evds_cons rfl (evd_tup (evds_cons rfl (evd_tup (evds_cons rfl evd_int (evds_cons rfl evd_int (evds_cons rfl (evd_tup evds_nil rfl (by decide)) evds_nil))) rfl (by decide)) evds_nil) rfl (by decide)) evds_nil))) rfl (by decide))
theorem evG {σ : L2.St} {H : Hp} : EvD K (tTup (tCons (tC (V.str (Str.ofString "set"))) (tCons (tC (V.str (Str.ofString "b"))) (tCons (tTup (tCons (tTup (tCons (tC (V.int 1)) (tCons (tC (V.str (Str.ofString "big"))) (tCons (tTup tNil) tNil)))) tNil)) tNil)))) σ H (rowD (bRow (.nm "big"))) := (evd_tup (evds_cons rfl evd_str (evds_cons rfl evd_str (evds_cons rfl (evd_tup (evds_cons rfl (evd_tup (evds_cons rfl evd_int (evds_cons rfl evd_str (evds_cons rfl (evd_tup evds_nil rfl (by decide)) evds_nil))) rfl (by decide)) evds_nil) rfl (by decide)) evds_nil))) rfl (by decide))
theorem evN {σ : L2.St} {H : Hp} : EvD K (tTup (tCons (tC (V.str (Str.ofString "show"))) (tCons (tTup (tCons (tTup (tCons (tUn (rU fun i => V.int (-i)) (tC (V.int 1))) (tCons (tC (V.str (Str.ofString "big"))) (tCons (tTup tNil) tNil)))) tNil)) tNil))) σ H (rowD (.pl (.shw [⟨true, .nm "big", []⟩]))) := (evd_tup (evds_cons rfl evd_str (evds_cons rfl (evd_tup (evds_cons rfl (evd_tup (evds_cons rfl evd_neg (evds_cons rfl evd_str (evds_cons rfl (evd_tup evds_nil rfl (by decide)) evds_nil))) rfl (by decide)) evds_nil) rfl (by decide)) evds_nil)) rfl (by decide))
def spTold (K : PySem.W.Frag) : Sp := fun vs H Q _ => ∃ (b : Addr) (m : Nat), vs = [.ref b, .int (m : Nat)] ∧ Bag H b ∧ m < 4 ∧ ∀ (H' : Hp), Kp b H H' → Q (.bl true) H'
theorem d_Lis_told (S : Src K mg "_law_is_told" s_Lis_told p_Lis_told) (T : Txt K w mg) (D_Ltake : Dn P w K mg base "_law_take" 1 p_Ltake spTake) (D_Lfault_row : Dn P w K mg base "_law_fault_row" 2 p_Lfault_row (spFault K)) (D_Ltext : Dn P w K mg base "_law_text" 5 p_Ltext (spText K)) (D_Cell : DnC P w K mg base "Cell" 8 (spCellNew K mg)) (D_run_in : Dn P w K mg base "run_in" 9 p_run_in (spRunIn K mg)) : Dn P w K mg base "_law_is_told" 10 p_Lis_told (spTold K) := by
  refine S.ok sc_Lis_told (fun vs H Q E h => ?_) (fun f cdv A outer s H vs Q E hr h => ?_)
  · obtain ⟨_, _, rfl, _⟩ := h
    rfl
  · obtain ⟨b, m, rfl, hB, hm, q⟩ := h
    obtain ⟨C_Cell, f_Cell, fd_Cell, ps_Cell, spI_Cell, hm_Cell, M_Cell, b_Cell, F_Cell, imp_Cell⟩ := D_Cell.ex
    refine ⟨_, (pss_cons (ps_set (i := 2) sc_Lis_told.nd rfl (Or.inl rfl) (pe_disp (pps_cons pe_str (pe_op op_pow pe_int pe_int) (pps_cons pe_str pe_int pps_nil)) (by rfl) (by rfl) (fun z => by cases z) (by decide)))
    (pss_cons (ps_setLc (i := 3) (own := [("_law_k", 14)]) (g := gName 14) (tt := tYes) rfl sc_Lis_told.nd rfl rfl (sw_true rfl rfl rfl (by decide +kernel)) (pi_range1 (by rfl) T.n_range (pa_cons (pv 1) pa_nil)) (blkOk_by (own := [("_law_k", 14)]) (N := n_Lis_told) (sc := defScope s_Lis_told) (by decide +kernel)) (fun _ _ _ _ _ => pg_name (i := 14) sc_Lis_told.nd rfl (Or.inl rfl)) (fun _ _ _ _ _ => pts_nil) (fun _ _ _ _ _ => (pe_tup (pa_cons pe_str (pa_cons (pe_tup (pa_cons (pe_tup (pa_cons pe_int (pa_cons (pv 14) (pa_cons (pe_tup pa_nil) pa_nil)))) pa_nil)) pa_nil)))))
    (pss_cons (ps_par (i := 4) (j := 5) (by rfl) sc_Lis_told.nd rfl rfl (by decide) rfl rfl (pa_cons (pe_fn D_Ltake (hr.mono (by decide)) (by rfl) (pa_cons (pv 0) (pa_cons (pe_op op_add (pv 1) pe_int) pa_nil))) (pa_cons (pe_fn D_Ltake (hr.mono (by decide)) (by rfl) (pa_cons (pv 0) (pa_cons pe_int pa_nil))) pa_nil)) (by rfl))
    (pss_cons (ps_asg (pe_fn D_Lfault_row (hr.mono (by decide)) (by rfl) (pa_cons (pv 0) (pa_cons (pv 5) pa_nil))) (pgK_tup (K := K) (n := 2) rfl rfl (pgs_cons (pg_name (i := 6) sc_Lis_told.nd rfl (Or.inl rfl)) (pgs_cons (pg_name (i := 7) sc_Lis_told.nd rfl (Or.inl rfl)) pgs_nil))))
    (pss_cons (ps_asg (pe_fn D_Lfault_row (hr.mono (by decide)) (by rfl) (pa_cons (pv 0) (pa_cons (pe_fn D_Ltake (hr.mono (by decide)) (by rfl) (pa_cons (pv 0) (pa_cons pe_int pa_nil))) pa_nil))) (pgK_tup (K := K) (n := 2) rfl rfl (pgs_cons (pg_name (i := 8) sc_Lis_told.nd rfl (Or.inl rfl)) (pgs_cons (pg_name (i := 9) sc_Lis_told.nd rfl (Or.inl rfl)) pgs_nil))))
    (pss_cons (ps_set (i := 10) sc_Lis_told.nd rfl (Or.inl rfl) (pe_callTy (tupleK (K := K) rfl) (by rfl) T.n_tuple (by decide +kernel) (pa_cons (pe_op op_cat (pe_op op_cat (pe_slice (slK_list (K := K) rfl) (pv 3) po_none (po_some (pv 4))) (pe_lst (pa_cons (pv 6) pa_nil))) (pe_slice (slK_list (K := K) rfl) (pv 3) (po_some (pv 4)) po_none)) pa_nil)))
    (pss_cons (ps_set (i := 11) sc_Lis_told.nd rfl (Or.inl rfl) (pe_fn D_run_in (hr.mono (by decide)) (by rfl) (pa_cons (pe_make M_Cell F_Cell (hr.mono (by decide)) (by rfl) hm_Cell b_Cell .nil pass0 (pa_cons (pe_fn D_Ltext (hr.mono (by decide)) (by rfl) (pa_cons (pv 10) pa_nil)) pa_nil)) (pa_cons (pe_callTy call_dictD (by rfl) T.n_dict (by decide +kernel) (pa_cons (pv 2) pa_nil)) pa_nil))))
    (pss_cons (ps_if (PW.pt (pw_or (pt_cmpR (neK_D (K := K) rfl hr.units) (pe_ix (ixK_tup (K := K) rfl) (pv 11) pe_int (fun _ _ => rfl)) (pe_tup (pa_cons (pe_tupRg rfl (by rfl) T.n_tuple (prg_1 (by rfl) T.n_range (pv 4))) (pa_cons (pv 7) pa_nil))) (nomark _)) (pw_or1 (pt_cmpR (op_ne_dictA (Nat.lt_of_succ_lt (hu_of hr))) (pe_ix (ixK_tup (K := K) rfl) (pv 11) pe_int (fun _ _ => rfl)) (pv 2) (nomark _))))) (pss_one (ps_ret pe_bl)) pss_nil)
    (pss_cons (ps_set (i := 12) sc_Lis_told.nd rfl (Or.inl rfl) (pe_callTy (tupleK (K := K) rfl) (by rfl) T.n_tuple (by decide +kernel) (pa_cons (pe_op op_cat (pe_slice (slK_list (K := K) rfl) (pv 3) po_none (po_some (pv 4))) (pe_lst (pa_cons (pv 6) (pa_cons (pe_tup (pa_cons pe_str (pa_cons pe_str (pa_cons (pe_tup (pa_cons (pe_tup (pa_cons pe_int (pa_cons pe_int (pa_cons (pe_tup pa_nil) pa_nil)))) pa_nil)) pa_nil)))) (pa_cons (pv 8) pa_nil))))) pa_nil)))
    (pss_cons (ps_if (pt_cmpR (neK_D (K := K) rfl hr.units) (pe_ix (ixK_tup (K := K) rfl) (pe_fn D_run_in (hr.mono (by decide)) (by rfl) (pa_cons (pe_make M_Cell F_Cell (hr.mono (by decide)) (by rfl) hm_Cell b_Cell .nil pass0 (pa_cons (pe_fn D_Ltext (hr.mono (by decide)) (by rfl) (pa_cons (pv 12) pa_nil)) pa_nil)) (pa_cons (pe_callTy call_dictD (by rfl) T.n_dict (by decide +kernel) (pa_cons (pv 2) pa_nil)) pa_nil))) pe_int (fun _ _ => rfl)) (pe_tup (pa_cons (pe_tupRg rfl (by rfl) T.n_tuple (prg_1 (by rfl) T.n_range (pv 4))) (pa_cons (pv 7) pa_nil))) (nomark _)) (pss_one (ps_ret pe_bl)) pss_nil)
    (pss_cons (ps_set (i := 13) sc_Lis_told.nd rfl (Or.inl rfl) (pe_op op_cat (pe_op op_cat (pe_lst (pa_cons (pe_tup (pa_cons pe_str (pa_cons pe_str (pa_cons (pe_tup (pa_cons (pe_tup (pa_cons pe_int (pa_cons pe_str (pa_cons (pe_tup pa_nil) pa_nil)))) pa_nil)) pa_nil)))) pa_nil)) (pe_slice (slK_list (K := K) rfl) (pv 3) po_none (po_some pe_int))) (pe_lst (pa_cons (pe_tup (pa_cons pe_str (pa_cons (pe_tup (pa_cons (pe_tup (pa_cons (pe_un un_neg pe_int) (pa_cons pe_str (pa_cons (pe_tup pa_nil) pa_nil)))) pa_nil)) pa_nil))) pa_nil))))
    (pss_cons (ps_set (i := 11) sc_Lis_told.nd rfl (Or.inl rfl) (pe_fn D_run_in (hr.mono (by decide)) (by rfl) (pa_cons (pe_make M_Cell F_Cell (hr.mono (by decide)) (by rfl) hm_Cell b_Cell .nil pass0 (pa_cons (pe_fn D_Ltext (hr.mono (by decide)) (by rfl) (pa_cons (pe_callTy (tupleK (K := K) rfl) (by rfl) T.n_tuple (by decide +kernel) (pa_cons (pv 13) pa_nil)) pa_nil)) pa_nil)) (pa_cons (pe_callTy call_dictD (by rfl) T.n_dict (by decide +kernel) (pa_cons (pv 2) pa_nil)) pa_nil))))
    (pss_one (ps_ret (pe_and (pe_cmpR (eqK_D (K := K) rfl hr.units) (pe_ix (ixK_tup (K := K) rfl) (pv 11) pe_int (fun _ _ => rfl)) (pe_tup (pa_cons (pe_op (catK_A (K := K) rfl) (pe_tupRg rfl (by rfl) T.n_tuple (prg_1 (by rfl) T.n_range (pe_callB (call_min2 rfl) (by rfl) T.n_min (by decide +kernel) (pa_cons pe_int (pa_cons (pv 1) pa_nil))))) (pe_tup (pa_cons (pe_op op_sub pe_int (pe_op op_pow pe_int pe_int)) pa_nil))) (pa_cons pe_non pa_nil))) (nomark _)) (pe_one (pe_cmpR op_eq (pe_dget (hu_of hr) (pe_ix (ixK_tup (K := K) rfl) (pv 11) pe_int (fun _ _ => rfl)) pe_str (fun _ _ => rfl)) (pe_op op_pow pe_int pe_int) (nomark _)))))))))))))))))), ?_⟩
    refine fun pR npR => ⟨10, 9, rfl, rfl, ⟨by decide, by decide, by decide⟩, upd_same, bigR, rfl, by decide, ?_⟩
    have em : mergeK [] bigR = bigR := by decide +kernel
    rw [em]
    generalize e1 : upd (upd H pR _) pR _ = H1
    have s1 : Same H H1 := fun x o e => by rw [← e1, upd_ne (ne_of_none e npR), upd_ne (ne_of_none e npR)]; exact e
    have hR1 : H1 pR = some (.dK bigR) := e1 ▸ upd_same
    have hRb : pR ≠ b := hB.ne npR
    have k1 : Kp b H H1 := Kp.of hB s1
    have lA : ((ahd m).map rowD).length = m := by simp [ahd]
    have nA := noLs_rowD (ahd m)
    refine ⟨_, rfl, (m : Int), rfl, by omega, by omega, fun D nD => ?_⟩
    refine lc_dp (K := K) walk_range ((ahd m).map rowD) lA nA (Nat.lt_of_lt_of_le hm (by decide)) nD (fun _ _ => trivial) ?_ ?_
    · rintro j x d H3 H4 C hj s3 ⟨rfl, rfl⟩ hd k
      have ed : d = rowD (shR j) := by
        unfold ahd at hd
        rw [List.map_map, List.getElem?_map, List.getElem?_range (show j < m by omega)] at hd
        exact (Option.some.inj hd).symm
      subst ed
      have ej : V.int (0 + (j : Int)) = V.int ((j : Nat) : Int) := by rw [Int.zero_add]
      have n1 : noL (smD [⟨false, .num j, []⟩]) = true := noL_sm _
      have n2 : noL (PyData.tuple [.int 1, .int (j : Nat), .tuple []]) = true := by simp [noL, noLs]
      have ev : EvD K (tTup (tCons (tC (V.str (Str.ofString "show"))) (tCons (tTup (tCons (tTup (tCons (tC (V.int 1)) (tCons (tVar 14) (tCons (tTup tNil) tNil)))) tNil)) tNil))) [some (.ref b), some (.int (m : Nat)), some (.ref pR), none, none, none, none, none, none, none, none, none, none, none, some (.int (0 + (j : Int)))] H4 (rowD (shR j)) :=
        evd_tup (evds_cons rfl evd_str (evds_cons n1 (evd_tup (evds_cons n2 (evd_tup (evds_cons rfl evd_int (evds_cons rfl (evd_var rfl rfl (by rw [ej]; exact .int _)) (evds_cons rfl (evd_tup evds_nil rfl (by show 0 ≤ 1000; decide)) evds_nil))) (by simp [noL, noLs, atmD]) (by show 3 ≤ 1000; decide)) evds_nil) (by simp [noL, noLs, noL_prd]) (by show 1 ≤ 1000; decide)) evds_nil)) (by simp [noLs, noL_sm, noL]) (by show 2 ≤ 1000; decide)
      exact evd_imp ev fun v H4 s4 d4 => k v H4 d4 s4
    intro H2 xs s2 hD dA
    have k2 : Kp b H H2 := Kp.of hB (s1.trans s2)
    have hDb : D ≠ b := hB.ne (s1.free nD)
    have hR2 := s2 _ _ hR1
    have A2 : LstAt K H2 D ((ahd m).map rowD) := ⟨xs, hD, dA⟩
    refine ⟨_, rfl, _, rfl, m, 1, rfl, rfl, b, (m : Int) + 1, rfl, k2.bag, by omega, by omega, fun t H3 t0 t1 k3 => ⟨_, rfl, b, 4, rfl, k3.bag, by decide, by decide, fun k H4 h0 h1 k4 => ⟨_, _, rfl, ?_⟩⟩⟩
    obtain ⟨t, rfl⟩ := Int.eq_ofNat_of_zero_le t0
    obtain ⟨k, rfl⟩ := Int.eq_ofNat_of_zero_le h0
    have ht : t < m + 1 := by omega
    have hk : k < 4 := by omega
    refine ⟨_, rfl, _, rfl, b, k, rfl, k4.bag, hk, fun v j H5 hj k5 d5 => ?_⟩
    cases d5 with
    | tup st da =>
    cases da with
    | cons d6 da =>
    cases da with
    | cons d7 da =>
    cases da with
    | nil =>
    rename_i a5 v6 v7
    refine ⟨a5, _, rfl, st, rfl, _, _, rfl, _, _, rfl, rfl, ?_⟩
    refine ⟨_, rfl, _, rfl, b, 4, rfl, k5.bag, by decide, by decide, fun k2' H6 h0' h1' k6 => ?_⟩
    obtain ⟨k', rfl⟩ := Int.eq_ofNat_of_zero_le h0'
    have hk' : k' < 4 := by omega
    refine ⟨b, k', rfl, k6.bag, hk', fun v j' H7 hj' k7 d8 => ?_⟩
    have k67 := k6.trans k7
    have d6' := Dp.tk (Kp.tk k67 k5.bag) _ _ (noL_row _) d6
    have d7' := Dp.tk (Kp.tk k67 k5.bag) _ _ (noL_flt _) d7
    cases d8 with
    | tup st8 da =>
    cases da with
    | cons d8 da =>
    cases da with
    | cons d9 da =>
    cases da with
    | nil =>
    rename_i a8 v8 v9
    refine ⟨a8, _, rfl, st8, rfl, _, _, rfl, _, _, rfl, rfl, ?_⟩
    have k37 := k3.trans (k4.trans (k5.trans k67))
    have A7 : LstAt K H7 D ((ahd m).map rowD) := A2.kp k37 k2.bag nA hDb
    have hR7 : H7 pR = some (.dK bigR) := k37.keep _ _ hRb hR2
    have K7 : Kp b H H7 := k2.trans k37
    have lt : (((ahd m).map rowD).take t).length ≤ 4 := by rw [List.length_take, lA]; omega
    have ld : (((ahd m).map rowD).drop t).length ≤ 4 := by rw [List.length_drop, lA]; omega
    have nT := noLs_take _ t nA
    have nDr := noLs_dropN t _ nA
    have nOne : ∀ r : Row, noLs [rowD r] = true := fun r => by simp [noLs, noL_row]
    obtain ⟨ok1, f11, f12, f13, f14⟩ := fact1' hm ht hj hk
    dsimp only
    change tSeq _ _ _ [some (.ref b), some (.int (m : Nat)), some (.ref pR), some (.ref D), some (.int (t : Nat)), some (.int (k : Nat)), some v6, some v7, some v8, some v9, none, none, none, none, none] H7
    refine seq_asg (evd_imp (K := K) (d := rowsD (rows1 m t j k)) ?_ fun v10 H8 s8 d10 => ?_)
    · rw [rowsD1]
      refine evd_tpl (evL_cat (evL_cat (evL_take (evL_var rfl nA A7) nA (evO_var rfl)) (evL_lst (evds_cons (noL_row _) (evd_var rfl (noL_row _) d6') evds_nil) (nOne _) (by show 1 ≤ 1000; decide)) nT (nOne _) ?_) (evL_drop (evL_var rfl nA A7) nA (by rw [lA]; omega) (evO_var rfl)) (noLs_cat _ _ nT (nOne _)) nDr ?_) (noLs_cat _ _ (noLs_cat _ _ nT (nOne _)) nDr)
      · show _ + 1 ≤ 1000
        omega
      · rw [List.length_append]
        show _ + 1 + _ ≤ 1000
        omega
    have hR8 := s8 _ _ hR7
    refine seq_asg (ev_run imp_Cell (evd_var rfl (noL_rows _) d10) ok1 rfl hR8 _ fun v11 H9 s9 r11 => ?_)
    have hR9 := s9 _ _ hR8
    have d7a := Dp.tk (Same.tk (s8.trans s9)) _ _ (noL_flt _) d7'
    have nF : noL (fltD (fflt k)) = true := noL_flt _
    have evF : ∀ {σ : L2.St} {H : Hp}, σ[4]? = some (some (.int (t : Nat))) → σ[7]? = some (some v7) → Dp K H v7 (fltD (fflt k)) → EvD K (tTup (tCons (tTupRg (tRg1 (tVar 4))) (tCons (tVar 7) tNil))) σ H (outD (rgI t) (some (fflt k))) := fun h4 h7 d => evd_tup (evds_cons (noLs_ints _) (evd_tupRg (evI_var h4) (by omega)) (evds_cons nF (evd_var h7 nF d) evds_nil)) (noL_out _ _) (by show 2 ≤ 1000; decide)
    refine seq_if2 (fun Q q => ne_self (K := K) (ev_told0 rfl r11 f11 f12) (evF rfl rfl d7a) (noL_out _ _) f14 q) (fun H10 s10 Q q => ?_) fun H10 s10 => ?_
    · obtain ⟨p, o, rd, se, d, ys, rfl, hp, _, _, _, _, _, hd⟩ := r11
      rw [f13] at hd
      exact ⟨_, rfl, p, _, 3, .ref d, rfl, rfl, SqT.of (s10 _ _ hp), rfl, _, rfl, d, pR, bigR, bigR, rfl, rfl, s10 _ _ hd, s10 _ _ hR9, rfl, by decide +kernel, q _ (Same.refl _)⟩
    have s710 := s8.trans (s9.trans s10)
    have A10 := A7.same s710 nA
    have hR10 := s10 _ _ hR9
    have d6b := Dp.tk (Same.tk s710) _ _ (noL_row _) d6'
    have d7b := Dp.tk (Same.tk s710) _ _ (noL_flt _) d7'
    have d8b := Dp.tk (Same.tk s710) _ _ (noL_row _) d8
    obtain ⟨ok2, f21, f22⟩ := fact2' hm ht hj hk hj' hk'
    have n3 : noLs [rowD (frow j k), rowD (bRow (.num 4)), rowD (frow j' k')] = true := by simp [noLs, noL_row]
    refine seq_asg (evd_imp (K := K) (d := rowsD (rows2 m t j k j' k')) ?_ fun v12 H11 s11 d12 => ?_)
    · rw [rowsD2]
      refine evd_tpl (evL_cat (evL_take (evL_var rfl nA A10) nA (evO_var rfl)) (evL_lst (evds_cons (noL_row _) (evd_var rfl (noL_row _) d6b) (evds_cons (noL_row _) evB (evds_cons (noL_row _) (evd_var rfl (noL_row _) d8b) evds_nil))) n3 (by show 3 ≤ 1000; decide)) nT n3 ?_) (noLs_cat _ _ nT n3)
      show _ + 3 ≤ 1000
      omega
    have hR11 := s11 _ _ hR10
    have d7c := Dp.tk (Same.tk s11) _ _ (noL_flt _) d7b
    refine seq_if1 (fun Q q => ne_self (K := K) (ev_run0 imp_Cell (evd_var rfl (noL_rows _) d12) ok2 rfl hR11 f21 f22) (evF rfl rfl d7c) (noL_out _ _) f14 q) fun H12 s12 => ?_
    have A12 := A10.same (s11.trans s12) nA
    have hR12 := s12 _ _ hR11
    obtain ⟨ok3, f31, f32, f34, f35⟩ := fact3' hm
    have nT3 := noLs_take _ 3 nA
    have lt3 : (((ahd m).map rowD).take 3).length ≤ 3 := by rw [List.length_take]; omega
    refine seq_asg (evl_imp (K := K) (ds := [rowD (bRow (.nm "big"))] ++ ((ahd m).map rowD).take 3 ++ [rowD (.pl (.shw [⟨true, .nm "big", []⟩]))]) ?_ fun p13 H13 s13 A13 => ?_)
    · refine evL_cat (evL_cat (evL_lst (evds_cons (noL_row _) evG evds_nil) (nOne _) (by show 1 ≤ 1000; decide)) (evL_take (evL_var rfl nA A12) nA evO_int) (nOne _) nT3 ?_) (evL_lst (evds_cons (noL_row _) evN evds_nil) (nOne _) (by show 1 ≤ 1000; decide)) (noLs_cat _ _ (nOne _) nT3) (nOne _) ?_
      · show 1 + _ ≤ 1000
        omega
      · rw [List.length_append]
        show 1 + _ + 1 ≤ 1000
        omega
    have nG := noLs_cat _ _ (noLs_cat _ _ (nOne (bRow (.nm "big"))) nT3) (nOne (.pl (.shw [⟨true, .nm "big", []⟩])))
    have hR13 := s13 _ _ hR12
    have evX : EvD K (tCB (rTpl K) (tCons (tVar 13) tNil)) [some (.ref b), some (.int (m : Nat)), some (.ref pR), some (.ref D), some (.int (t : Nat)), some (.int (k : Nat)), some v6, some v7, some v8, some v9, some v10, some v11, some v12, some (.ref p13), none] H13 (rowsD (rows3 m)) := by
      rw [rowsD3]
      exact evd_tpl (evL_var rfl nG A13) nG
    refine seq_asg (ev_run imp_Cell evX ok3 rfl hR13 _ fun v14 H14 s14 r14 => ?_)
    refine ret_and2 (fun Q q => eq_self (K := K) (d := outD (goodSh m) none) (ev_told0 rfl r14 f31 f32) ?_ (noL_out _ _) f35 q) (fun H15 s15 Q q => ?_) fun H15 s15 => ?_
    · have eg : (goodSh m).map PyData.int = (rgI (min 3 m)).map PyData.int ++ [.int (-1000000000)] := by
        unfold goodSh
        rw [List.map_append]
        rfl
      have n4 := noLs_ints (rgI (min 3 m))
      refine evd_tup (evds_cons (noLs_ints _) ?_ (evds_cons rfl evd_non evds_nil)) (noL_out _ _) (by show 2 ≤ 1000; decide)
      rw [eg]
      refine evd_catT (evd_tupRg (fun H Q q => ⟨_, rfl, 3, m, rfl, ?_⟩) (by omega)) (evd_tup (evds_cons rfl (fun H1 s Q q => ⟨10, 9, rfl, rfl, ⟨by decide, by decide, by decide⟩, 0, _, rfl, rfl, q _ _ (Same.refl H1) ?_⟩) evds_nil) rfl (by show 1 ≤ 1000; decide)) n4 rfl ?_
      · have ei : (if (m : Int) < 3 then (m : Int) else 3) = ((min 3 m : Nat) : Int) := by split <;> omega
        rw [ei]
        exact q
      · have e9 : (0 - (10 : Int) ^ (9 : Int).toNat) = -1000000000 := by decide +kernel
        show Dp K _ (V.int (0 - (10 : Int) ^ (9 : Int).toNat)) _
        rw [e9]
        exact .int _
      · rw [List.length_map]
        unfold rgI
        rw [List.length_map, List.length_range]
        show _ + 1 ≤ 1000
        omega
    · obtain ⟨p, o, rd, se, d, ys, rfl, hp, _, _, _, _, _, hd⟩ := r14
      have hg : DGet H15 d (.str "b") (some (.int 1000000000)) := f34 ▸ DGet.k (k := Sum.inr "b") (s15 _ _ hd)
      exact ⟨_, rfl, p, _, 3, .ref d, rfl, rfl, SqT.of (s15 _ _ hp), rfl, d, _, rfl, hg, 10, 9, rfl, rfl, ⟨by decide, by decide, by decide⟩, rfl, q _ (Same.refl _)⟩
    · exact q _ (K7.same (s710.trans (s11.trans (s12.trans (s13.trans (s14.trans s15))))))

abbrev s_law : Stmt := topS 42
abbrev n_law : List Str := ["_law_script", "_law_k", "_law_bag_here", "_law_turn", "_law_told"]
abbrev p_law : List Str := ["_law_script"]
theorem sc_law : FnScope n_law p_law (defScope s_law) := ⟨rfl, rfl, rfl, by decide +kernel, rfl, by decide +kernel, by decide +kernel⟩
def rs4 : List Row := [.pl (.set "a" [⟨false, .num 1, []⟩]), .pl (.shw [⟨false, .nm "a", []⟩]), .pl (.shw [⟨false, .nm "a", [(false, .num 0)]⟩]), .pl (.drop "a")]
def roomA : Room_ := [(Sum.inr "a", .int 1)]
theorem rs4_T : rowsT rs4 = "a = 1\nshow a\nshow a // 0\ndrop a" := by decide +kernel
theorem fact4 : (rowsOkb rs4 && decide ((runE (rs0 []) rs4).1 = some .nought) && decide ((runE (rs0 []) rs4).2.shown = [1]) && decide ((runE (rs0 []) rs4).2.room = roomA) && fineD (outD [1] (some .nought))) = true := by decide +kernel
theorem fact4' : RowsOk rs4 ∧ (runE (rs0 []) rs4).1 = some .nought ∧ (runE (rs0 []) rs4).2.shown = [1] ∧ (runE (rs0 []) rs4).2.room = roomA ∧ fineD (outD [1] (some .nought)) = true := by
  have h := fact4
  simp only [Bool.and_eq_true, decide_eq_true_eq] at h
  exact ⟨rowsOkb_ok h.1.1.1.1, h.1.1.1.2, h.1.1.2, h.1.2, h.2⟩
theorem law_at {f : Addr} {fd : FuncData} (F : Fun K "law" "law" s_law f fd) (T : Txt K w mg) (D_Lbag : Dn P w K mg base "_law_bag" 1 p_Lbag (spBag K)) (D_Ltake : Dn P w K mg base "_law_take" 1 p_Ltake spTake) (D_Lis_told : Dn P w K mg base "_law_is_told" 10 p_Lis_told (spTold K)) (D_Cell : DnC P w K mg base "Cell" 8 (spCellNew K mg)) (D_run_in : Dn P w K mg base "run_in" 9 p_run_in (spRunIn K mg)) : FnOk P w K mg base CX0 11 f fd p_law (spLaw K) := by
  refine F.ok sc_law (fun vs H Q E h => ?_) (fun cdv A outer s H vs Q E hr h => ?_)
  · obtain ⟨a, ns, rfl, _⟩ := h
    rfl
  · obtain ⟨a, ns, rfl, hS, hl, q⟩ := h
    obtain ⟨C_Cell, f_Cell, fd_Cell, ps_Cell, spI_Cell, hm_Cell, M_Cell, b_Cell, F_Cell, imp_Cell⟩ := D_Cell.ex
    refine ⟨_, (pss_cons (ps_for PassesOwn.never rfl (pi_range1 (by rfl) T.n_range (pa_cons (pe_callB (call_max2 rfl) (by rfl) T.n_max (by decide +kernel) (pa_cons pe_int (pa_cons (pe_callB (call_min2 rfl) (by rfl) T.n_min (by decide +kernel) (pa_cons pe_int (pa_cons (pe_callB (lenK (K := K) rfl) (by rfl) T.n_len (by decide +kernel) (pa_cons (pv 0) pa_nil)) pa_nil))) pa_nil))) pa_nil)) (pg_name (i := 1) sc_law.nd rfl (Or.inl rfl))
    (pss_cons (ps_set (i := 2) sc_law.nd rfl (Or.inl rfl) (pe_fn D_Lbag (hr.mono (by decide)) (by rfl) (pa_cons (pv 0) (pa_cons (pv 1) pa_nil))))
    (pss_one (ps_for PassesOwn.never rfl (pi_range1 (by rfl) T.n_range (pa_cons pe_int pa_nil)) (pg_name (i := 3) sc_law.nd rfl (Or.inl rfl))
    (pss_one (ps_if (pt_not (pt_val (pe_fn D_Lis_told (hr.mono (by decide)) (by rfl) (pa_cons (pv 2) (pa_cons (pe_fn D_Ltake (hr.mono (by decide)) (by rfl) (pa_cons (pv 2) (pa_cons pe_int pa_nil))) pa_nil))))) (pss_one (ps_ret pe_bl)) pss_nil))))))
    (pss_cons (ps_set (i := 4) sc_law.nd rfl (Or.inl rfl) (pe_fn D_run_in (hr.mono (by decide)) (by rfl) (pa_cons (pe_make M_Cell F_Cell (hr.mono (by decide)) (by rfl) hm_Cell b_Cell .nil pass0 (pa_cons pe_str pa_nil)) (pa_cons pe_dnewK pa_nil))))
    (pss_one (ps_ret (pe_and (pe_cmpR (eqK_D (K := K) rfl hr.units) (pe_ix (ixK_tup (K := K) rfl) (pv 4) pe_int (fun _ _ => rfl)) (pe_tup (pa_cons (pe_tup (pa_cons pe_int pa_nil)) (pa_cons (pe_tup (pa_cons pe_str pa_nil)) pa_nil))) (nomark _)) (pe_one (pe_cmpR (op_eq_dictA (Nat.lt_of_succ_lt (hu_of hr))) (pe_ix (ixK_tup (K := K) rfl) (pv 4) pe_int (fun _ _ => rfl)) (pe_disp (pps_cons pe_str pe_int pps_nil) (by rfl) (by rfl) (fun z => by cases z) (by decide)) (nomark _)))))))), ?_⟩
    have hl' : (ns.map V.int).length ≤ 63 := by rw [List.length_map]; exact hl
    refine ⟨_, rfl, a, _, rfl, .inl hS, 5, _, rfl, 2, _, rfl, _, rfl, by omega, by omega, for_range (lo := 0) (fun i σ H' => ∃ v1 v2 v3, σ = [some (.ref a), v1, v2, v3, none] ∧ Same H H')
      ⟨_, _, _, rfl, Same.refl H⟩ ?_ ?_⟩
    · rintro i σ H0 hi ⟨v1, v2, v3, rfl, s0⟩
      have hi' : i < 100 := by omega
      refine ⟨_, rfl, _, rfl, a, ns, i, by rw [Int.zero_add]; rfl, s0.seq hS, hl, hi', fun b H1 nb s1 hB => ?_⟩
      have nb0 : H0 b = none := nb
      refine ⟨8, rfl, by decide, by decide, for_range (lo := 0) (fun j σ H' => ∃ v3, σ = [some (.ref a), some (.int (0 + (i : Nat))), some (.ref b), v3, none] ∧ Kp b H1 H')
        ⟨_, rfl, Kp.of hB (Same.refl H1)⟩ ?_ ?_⟩
      · rintro j σ H2 hj ⟨v3, rfl, kp⟩
        refine ⟨_, rfl, _, rfl, b, 4, rfl, kp.bag, by decide, by decide, fun r H3 r0 r1 k3 => ?_⟩
        obtain ⟨r, rfl⟩ := Int.eq_ofNat_of_zero_le r0
        exact ⟨b, r, rfl, k3.bag, by omega, fun H4 k4 => ⟨true, rfl, iteF ⟨_, rfl, kp.trans (k3.trans k4)⟩⟩⟩
      · rintro σ H2 ⟨v3, rfl, kp⟩
        exact ⟨_, _, _, rfl, s0.trans (kp.out s1 nb0)⟩
    · rintro σ H2 ⟨v1, v2, v3, rfl, s0⟩
      obtain ⟨ok, f1, f2, f3, f5⟩ := fact4'
      refine make_at imp_Cell _ ⟨rs4, by rw [rs4_T]; rfl, ok, fun c H3 s3 nc cv => ⟨c, rfl, fun pd npd => ?_⟩⟩
      obtain ⟨ca, C', dx, rv, e, hm, ha, hrv⟩ := cv
      cases e
      refine ⟨.ref c, rs4, pd, [], rfl, ⟨c, C', dx, rv, rfl, hm, same_upd npd _ _ ha, Dp.tk (tk_put npd) _ _ (noL_rows rs4) hrv⟩, ok, .inl upd_same, fun p hp => (by cases hp), by decide, fun v H4 s4 r4 => ?_⟩
      refine ret_and2 (fun Q q => eq_self (K := K) (d := outD [1] (some .nought)) (ev_told0 rfl r4 f1 f2) ?_ (noL_out _ _) f5 q) (fun H5 s5 Q q => ?_) fun H5 s5 => q _
      · exact (evd_tup (evds_cons rfl (evd_tup (evds_cons rfl evd_int evds_nil) rfl (by decide)) (evds_cons rfl (evd_tup (evds_cons rfl evd_str evds_nil) rfl (by decide)) evds_nil)) rfl (by decide))
      · obtain ⟨p, o, rd, se, d, ys, rfl, hp, _, _, _, _, _, hd⟩ := r4
        rw [f3] at hd
        have hd5 := s5 _ _ hd
        refine ⟨_, rfl, p, _, 3, .ref d, rfl, rfl, SqT.of (s5 _ _ hp), rfl, fun pa npa => ⟨upd_same, roomA, rfl, by decide, d, pa, roomA, _, rfl, rfl, ?_, upd_same, rfl, by decide +kernel, q _ ?_⟩⟩
        · rw [upd_ne (ne_of_none hd5 npa), upd_ne (ne_of_none hd5 npa)]
          exact hd5
        · intro x o e
          rw [upd_ne (ne_of_none e npa), upd_ne (ne_of_none e npa)]
          exact e

end
theorem all_mk {l : PySem.W.OpenLaw} {w : World} {K : PySem.W.Frag} {h : Heap} {mg : Str → Option Value} {fa : Addr} (X : K.In h) (G : h.Ns mainGlobals mg) (hfa : mg "law" = some (.ref fa))
    {f_is_name : Addr} {od_is_name an_is_name : Option Addr} {sl_is_name : Array (Option Value)} {oc_is_name kV_is_name dc_is_name pm_is_name cd_is_name ct_is_name : Value}
    (a_is_name : PySem.W.nsIn K mainGlobals "is_name" = some (some (.ref f_is_name))) (l_is_name : K.lookup f_is_name = some ⟨oc_is_name, od_is_name, .func (PySem.W.fnOf "is_name" "is_name" (defArgs s_is_name) (defBody s_is_name) (defScope s_is_name) .none kV_is_name dc_is_name pm_is_name an_is_name cd_is_name ct_is_name), sl_is_name⟩) (c_is_name : PySem.W.codeIn K cd_is_name "is_name" = true) (k_is_name : PySem.W.keepIn K (.ref f_is_name) = true)
    {f_is_number_word : Addr} {od_is_number_word an_is_number_word : Option Addr} {sl_is_number_word : Array (Option Value)} {oc_is_number_word kV_is_number_word dc_is_number_word pm_is_number_word cd_is_number_word ct_is_number_word : Value}
    (a_is_number_word : PySem.W.nsIn K mainGlobals "is_number_word" = some (some (.ref f_is_number_word))) (l_is_number_word : K.lookup f_is_number_word = some ⟨oc_is_number_word, od_is_number_word, .func (PySem.W.fnOf "is_number_word" "is_number_word" (defArgs s_is_number_word) (defBody s_is_number_word) (defScope s_is_number_word) .none kV_is_number_word dc_is_number_word pm_is_number_word an_is_number_word cd_is_number_word ct_is_number_word), sl_is_number_word⟩) (c_is_number_word : PySem.W.codeIn K cd_is_number_word "is_number_word" = true) (k_is_number_word : PySem.W.keepIn K (.ref f_is_number_word) = true)
    {f_read_atom : Addr} {od_read_atom an_read_atom : Option Addr} {sl_read_atom : Array (Option Value)} {oc_read_atom kV_read_atom dc_read_atom pm_read_atom cd_read_atom ct_read_atom : Value}
    (a_read_atom : PySem.W.nsIn K mainGlobals "read_atom" = some (some (.ref f_read_atom))) (l_read_atom : K.lookup f_read_atom = some ⟨oc_read_atom, od_read_atom, .func (PySem.W.fnOf "read_atom" "read_atom" (defArgs s_read_atom) (defBody s_read_atom) (defScope s_read_atom) .none kV_read_atom dc_read_atom pm_read_atom an_read_atom cd_read_atom ct_read_atom), sl_read_atom⟩) (c_read_atom : PySem.W.codeIn K cd_read_atom "read_atom" = true) (k_read_atom : PySem.W.keepIn K (.ref f_read_atom) = true)
    {f_marked_words : Addr} {od_marked_words an_marked_words : Option Addr} {sl_marked_words : Array (Option Value)} {oc_marked_words kV_marked_words dc_marked_words pm_marked_words cd_marked_words ct_marked_words : Value}
    (a_marked_words : PySem.W.nsIn K mainGlobals "marked_words" = some (some (.ref f_marked_words))) (l_marked_words : K.lookup f_marked_words = some ⟨oc_marked_words, od_marked_words, .func (PySem.W.fnOf "marked_words" "marked_words" (defArgs s_marked_words) (defBody s_marked_words) (defScope s_marked_words) .none kV_marked_words dc_marked_words pm_marked_words an_marked_words cd_marked_words ct_marked_words), sl_marked_words⟩) (c_marked_words : PySem.W.codeIn K cd_marked_words "marked_words" = true) (k_marked_words : PySem.W.keepIn K (.ref f_marked_words) = true)
    {f_read_sum : Addr} {od_read_sum an_read_sum : Option Addr} {sl_read_sum : Array (Option Value)} {oc_read_sum kV_read_sum dc_read_sum pm_read_sum cd_read_sum ct_read_sum : Value}
    (a_read_sum : PySem.W.nsIn K mainGlobals "read_sum" = some (some (.ref f_read_sum))) (l_read_sum : K.lookup f_read_sum = some ⟨oc_read_sum, od_read_sum, .func (PySem.W.fnOf "read_sum" "read_sum" (defArgs s_read_sum) (defBody s_read_sum) (defScope s_read_sum) .none kV_read_sum dc_read_sum pm_read_sum an_read_sum cd_read_sum ct_read_sum), sl_read_sum⟩) (c_read_sum : PySem.W.codeIn K cd_read_sum "read_sum" = true) (k_read_sum : PySem.W.keepIn K (.ref f_read_sum) = true)
    {f_within_limit : Addr} {od_within_limit an_within_limit : Option Addr} {sl_within_limit : Array (Option Value)} {oc_within_limit kV_within_limit dc_within_limit pm_within_limit cd_within_limit ct_within_limit : Value}
    (a_within_limit : PySem.W.nsIn K mainGlobals "within_limit" = some (some (.ref f_within_limit))) (l_within_limit : K.lookup f_within_limit = some ⟨oc_within_limit, od_within_limit, .func (PySem.W.fnOf "within_limit" "within_limit" (defArgs s_within_limit) (defBody s_within_limit) (defScope s_within_limit) .none kV_within_limit dc_within_limit pm_within_limit an_within_limit cd_within_limit ct_within_limit), sl_within_limit⟩) (c_within_limit : PySem.W.codeIn K cd_within_limit "within_limit" = true) (k_within_limit : PySem.W.keepIn K (.ref f_within_limit) = true)
    {f_atom_in : Addr} {od_atom_in an_atom_in : Option Addr} {sl_atom_in : Array (Option Value)} {oc_atom_in kV_atom_in dc_atom_in pm_atom_in cd_atom_in ct_atom_in : Value}
    (a_atom_in : PySem.W.nsIn K mainGlobals "atom_in" = some (some (.ref f_atom_in))) (l_atom_in : K.lookup f_atom_in = some ⟨oc_atom_in, od_atom_in, .func (PySem.W.fnOf "atom_in" "atom_in" (defArgs s_atom_in) (defBody s_atom_in) (defScope s_atom_in) .none kV_atom_in dc_atom_in pm_atom_in an_atom_in cd_atom_in ct_atom_in), sl_atom_in⟩) (c_atom_in : PySem.W.codeIn K cd_atom_in "atom_in" = true) (k_atom_in : PySem.W.keepIn K (.ref f_atom_in) = true)
    {f_joined : Addr} {od_joined an_joined : Option Addr} {sl_joined : Array (Option Value)} {oc_joined kV_joined dc_joined pm_joined cd_joined ct_joined : Value}
    (a_joined : PySem.W.nsIn K mainGlobals "joined" = some (some (.ref f_joined))) (l_joined : K.lookup f_joined = some ⟨oc_joined, od_joined, .func (PySem.W.fnOf "joined" "joined" (defArgs s_joined) (defBody s_joined) (defScope s_joined) .none kV_joined dc_joined pm_joined an_joined cd_joined ct_joined), sl_joined⟩) (c_joined : PySem.W.codeIn K cd_joined "joined" = true) (k_joined : PySem.W.keepIn K (.ref f_joined) = true)
    {f_product_in : Addr} {od_product_in an_product_in : Option Addr} {sl_product_in : Array (Option Value)} {oc_product_in kV_product_in dc_product_in pm_product_in cd_product_in ct_product_in : Value}
    (a_product_in : PySem.W.nsIn K mainGlobals "product_in" = some (some (.ref f_product_in))) (l_product_in : K.lookup f_product_in = some ⟨oc_product_in, od_product_in, .func (PySem.W.fnOf "product_in" "product_in" (defArgs s_product_in) (defBody s_product_in) (defScope s_product_in) .none kV_product_in dc_product_in pm_product_in an_product_in cd_product_in ct_product_in), sl_product_in⟩) (c_product_in : PySem.W.codeIn K cd_product_in "product_in" = true) (k_product_in : PySem.W.keepIn K (.ref f_product_in) = true)
    {f_worked_out : Addr} {od_worked_out an_worked_out : Option Addr} {sl_worked_out : Array (Option Value)} {oc_worked_out kV_worked_out dc_worked_out pm_worked_out cd_worked_out ct_worked_out : Value}
    (a_worked_out : PySem.W.nsIn K mainGlobals "worked_out" = some (some (.ref f_worked_out))) (l_worked_out : K.lookup f_worked_out = some ⟨oc_worked_out, od_worked_out, .func (PySem.W.fnOf "worked_out" "worked_out" (defArgs s_worked_out) (defBody s_worked_out) (defScope s_worked_out) .none kV_worked_out dc_worked_out pm_worked_out an_worked_out cd_worked_out ct_worked_out), sl_worked_out⟩) (c_worked_out : PySem.W.codeIn K cd_worked_out "worked_out" = true) (k_worked_out : PySem.W.keepIn K (.ref f_worked_out) = true)
    {f_run_in : Addr} {od_run_in an_run_in : Option Addr} {sl_run_in : Array (Option Value)} {oc_run_in kV_run_in dc_run_in pm_run_in cd_run_in ct_run_in : Value}
    (a_run_in : PySem.W.nsIn K mainGlobals "run_in" = some (some (.ref f_run_in))) (l_run_in : K.lookup f_run_in = some ⟨oc_run_in, od_run_in, .func (PySem.W.fnOf "run_in" "run_in" (defArgs s_run_in) (defBody s_run_in) (defScope s_run_in) .none kV_run_in dc_run_in pm_run_in an_run_in cd_run_in ct_run_in), sl_run_in⟩) (c_run_in : PySem.W.codeIn K cd_run_in "run_in" = true) (k_run_in : PySem.W.keepIn K (.ref f_run_in) = true)
    {f_read_rows : Addr} {od_read_rows an_read_rows : Option Addr} {sl_read_rows : Array (Option Value)} {oc_read_rows kV_read_rows dc_read_rows pm_read_rows cd_read_rows ct_read_rows : Value}
    (a_read_rows : PySem.W.nsIn K mainGlobals "read_rows" = some (some (.ref f_read_rows))) (l_read_rows : K.lookup f_read_rows = some ⟨oc_read_rows, od_read_rows, .func (PySem.W.fnOf "read_rows" "read_rows" (defArgs s_read_rows) (defBody s_read_rows) (defScope s_read_rows) .none kV_read_rows dc_read_rows pm_read_rows an_read_rows cd_read_rows ct_read_rows), sl_read_rows⟩) (c_read_rows : PySem.W.codeIn K cd_read_rows "read_rows" = true) (k_read_rows : PySem.W.keepIn K (.ref f_read_rows) = true)
    {f_read_row : Addr} {od_read_row an_read_row : Option Addr} {sl_read_row : Array (Option Value)} {oc_read_row kV_read_row dc_read_row pm_read_row cd_read_row ct_read_row : Value}
    (a_read_row : PySem.W.nsIn K mainGlobals "read_row" = some (some (.ref f_read_row))) (l_read_row : K.lookup f_read_row = some ⟨oc_read_row, od_read_row, .func (PySem.W.fnOf "read_row" "read_row" (defArgs s_read_row) (defBody s_read_row) (defScope s_read_row) .none kV_read_row dc_read_row pm_read_row an_read_row cd_read_row ct_read_row), sl_read_row⟩) (c_read_row : PySem.W.codeIn K cd_read_row "read_row" = true) (k_read_row : PySem.W.keepIn K (.ref f_read_row) = true)
    {f_read_plain_row : Addr} {od_read_plain_row an_read_plain_row : Option Addr} {sl_read_plain_row : Array (Option Value)} {oc_read_plain_row kV_read_plain_row dc_read_plain_row pm_read_plain_row cd_read_plain_row ct_read_plain_row : Value}
    (a_read_plain_row : PySem.W.nsIn K mainGlobals "read_plain_row" = some (some (.ref f_read_plain_row))) (l_read_plain_row : K.lookup f_read_plain_row = some ⟨oc_read_plain_row, od_read_plain_row, .func (PySem.W.fnOf "read_plain_row" "read_plain_row" (defArgs s_read_plain_row) (defBody s_read_plain_row) (defScope s_read_plain_row) .none kV_read_plain_row dc_read_plain_row pm_read_plain_row an_read_plain_row cd_read_plain_row ct_read_plain_row), sl_read_plain_row⟩) (c_read_plain_row : PySem.W.codeIn K cd_read_plain_row "read_plain_row" = true) (k_read_plain_row : PySem.W.keepIn K (.ref f_read_plain_row) = true)
    {f_sum_or_none : Addr} {od_sum_or_none an_sum_or_none : Option Addr} {sl_sum_or_none : Array (Option Value)} {oc_sum_or_none kV_sum_or_none dc_sum_or_none pm_sum_or_none cd_sum_or_none ct_sum_or_none : Value}
    (a_sum_or_none : PySem.W.nsIn K mainGlobals "sum_or_none" = some (some (.ref f_sum_or_none))) (l_sum_or_none : K.lookup f_sum_or_none = some ⟨oc_sum_or_none, od_sum_or_none, .func (PySem.W.fnOf "sum_or_none" "sum_or_none" (defArgs s_sum_or_none) (defBody s_sum_or_none) (defScope s_sum_or_none) .none kV_sum_or_none dc_sum_or_none pm_sum_or_none an_sum_or_none cd_sum_or_none ct_sum_or_none), sl_sum_or_none⟩) (c_sum_or_none : PySem.W.codeIn K cd_sum_or_none "sum_or_none" = true) (k_sum_or_none : PySem.W.keepIn K (.ref f_sum_or_none) = true)
    {f_Ltake : Addr} {od_Ltake an_Ltake : Option Addr} {sl_Ltake : Array (Option Value)} {oc_Ltake kV_Ltake dc_Ltake pm_Ltake cd_Ltake ct_Ltake : Value}
    (a_Ltake : PySem.W.nsIn K mainGlobals "_law_take" = some (some (.ref f_Ltake))) (l_Ltake : K.lookup f_Ltake = some ⟨oc_Ltake, od_Ltake, .func (PySem.W.fnOf "_law_take" "_law_take" (defArgs s_Ltake) (defBody s_Ltake) (defScope s_Ltake) .none kV_Ltake dc_Ltake pm_Ltake an_Ltake cd_Ltake ct_Ltake), sl_Ltake⟩) (c_Ltake : PySem.W.codeIn K cd_Ltake "_law_take" = true) (k_Ltake : PySem.W.keepIn K (.ref f_Ltake) = true)
    {f_Ltext : Addr} {od_Ltext an_Ltext : Option Addr} {sl_Ltext : Array (Option Value)} {oc_Ltext kV_Ltext dc_Ltext pm_Ltext cd_Ltext ct_Ltext : Value}
    (a_Ltext : PySem.W.nsIn K mainGlobals "_law_text" = some (some (.ref f_Ltext))) (l_Ltext : K.lookup f_Ltext = some ⟨oc_Ltext, od_Ltext, .func (PySem.W.fnOf "_law_text" "_law_text" (defArgs s_Ltext) (defBody s_Ltext) (defScope s_Ltext) .none kV_Ltext dc_Ltext pm_Ltext an_Ltext cd_Ltext ct_Ltext), sl_Ltext⟩) (c_Ltext : PySem.W.codeIn K cd_Ltext "_law_text" = true) (k_Ltext : PySem.W.keepIn K (.ref f_Ltext) = true)
    {f_Lrow_text : Addr} {od_Lrow_text an_Lrow_text : Option Addr} {sl_Lrow_text : Array (Option Value)} {oc_Lrow_text kV_Lrow_text dc_Lrow_text pm_Lrow_text cd_Lrow_text ct_Lrow_text : Value}
    (a_Lrow_text : PySem.W.nsIn K mainGlobals "_law_row_text" = some (some (.ref f_Lrow_text))) (l_Lrow_text : K.lookup f_Lrow_text = some ⟨oc_Lrow_text, od_Lrow_text, .func (PySem.W.fnOf "_law_row_text" "_law_row_text" (defArgs s_Lrow_text) (defBody s_Lrow_text) (defScope s_Lrow_text) .none kV_Lrow_text dc_Lrow_text pm_Lrow_text an_Lrow_text cd_Lrow_text ct_Lrow_text), sl_Lrow_text⟩) (c_Lrow_text : PySem.W.codeIn K cd_Lrow_text "_law_row_text" = true) (k_Lrow_text : PySem.W.keepIn K (.ref f_Lrow_text) = true)
    {f_Lsum_text : Addr} {od_Lsum_text an_Lsum_text : Option Addr} {sl_Lsum_text : Array (Option Value)} {oc_Lsum_text kV_Lsum_text dc_Lsum_text pm_Lsum_text cd_Lsum_text ct_Lsum_text : Value}
    (a_Lsum_text : PySem.W.nsIn K mainGlobals "_law_sum_text" = some (some (.ref f_Lsum_text))) (l_Lsum_text : K.lookup f_Lsum_text = some ⟨oc_Lsum_text, od_Lsum_text, .func (PySem.W.fnOf "_law_sum_text" "_law_sum_text" (defArgs s_Lsum_text) (defBody s_Lsum_text) (defScope s_Lsum_text) .none kV_Lsum_text dc_Lsum_text pm_Lsum_text an_Lsum_text cd_Lsum_text ct_Lsum_text), sl_Lsum_text⟩) (c_Lsum_text : PySem.W.codeIn K cd_Lsum_text "_law_sum_text" = true) (k_Lsum_text : PySem.W.keepIn K (.ref f_Lsum_text) = true)
    {f_Lbag : Addr} {od_Lbag an_Lbag : Option Addr} {sl_Lbag : Array (Option Value)} {oc_Lbag kV_Lbag dc_Lbag pm_Lbag cd_Lbag ct_Lbag : Value}
    (a_Lbag : PySem.W.nsIn K mainGlobals "_law_bag" = some (some (.ref f_Lbag))) (l_Lbag : K.lookup f_Lbag = some ⟨oc_Lbag, od_Lbag, .func (PySem.W.fnOf "_law_bag" "_law_bag" (defArgs s_Lbag) (defBody s_Lbag) (defScope s_Lbag) .none kV_Lbag dc_Lbag pm_Lbag an_Lbag cd_Lbag ct_Lbag), sl_Lbag⟩) (c_Lbag : PySem.W.codeIn K cd_Lbag "_law_bag" = true) (k_Lbag : PySem.W.keepIn K (.ref f_Lbag) = true)
    {f_Lfault_row : Addr} {od_Lfault_row an_Lfault_row : Option Addr} {sl_Lfault_row : Array (Option Value)} {oc_Lfault_row kV_Lfault_row dc_Lfault_row pm_Lfault_row cd_Lfault_row ct_Lfault_row : Value}
    (a_Lfault_row : PySem.W.nsIn K mainGlobals "_law_fault_row" = some (some (.ref f_Lfault_row))) (l_Lfault_row : K.lookup f_Lfault_row = some ⟨oc_Lfault_row, od_Lfault_row, .func (PySem.W.fnOf "_law_fault_row" "_law_fault_row" (defArgs s_Lfault_row) (defBody s_Lfault_row) (defScope s_Lfault_row) .none kV_Lfault_row dc_Lfault_row pm_Lfault_row an_Lfault_row cd_Lfault_row ct_Lfault_row), sl_Lfault_row⟩) (c_Lfault_row : PySem.W.codeIn K cd_Lfault_row "_law_fault_row" = true) (k_Lfault_row : PySem.W.keepIn K (.ref f_Lfault_row) = true)
    {f_Lis_told : Addr} {od_Lis_told an_Lis_told : Option Addr} {sl_Lis_told : Array (Option Value)} {oc_Lis_told kV_Lis_told dc_Lis_told pm_Lis_told cd_Lis_told ct_Lis_told : Value}
    (a_Lis_told : PySem.W.nsIn K mainGlobals "_law_is_told" = some (some (.ref f_Lis_told))) (l_Lis_told : K.lookup f_Lis_told = some ⟨oc_Lis_told, od_Lis_told, .func (PySem.W.fnOf "_law_is_told" "_law_is_told" (defArgs s_Lis_told) (defBody s_Lis_told) (defScope s_Lis_told) .none kV_Lis_told dc_Lis_told pm_Lis_told an_Lis_told cd_Lis_told ct_Lis_told), sl_Lis_told⟩) (c_Lis_told : PySem.W.codeIn K cd_Lis_told "_law_is_told" = true) (k_Lis_told : PySem.W.keepIn K (.ref f_Lis_told) = true)
    {f_law : Addr} {od_law an_law : Option Addr} {sl_law : Array (Option Value)} {oc_law kV_law dc_law pm_law cd_law ct_law : Value}
    (a_law : PySem.W.nsIn K mainGlobals "law" = some (some (.ref f_law))) (l_law : K.lookup f_law = some ⟨oc_law, od_law, .func (PySem.W.fnOf "law" "law" (defArgs s_law) (defBody s_law) (defScope s_law) .none kV_law dc_law pm_law an_law cd_law ct_law), sl_law⟩) (c_law : PySem.W.codeIn K cd_law "law" = true) (k_law : PySem.W.keepIn K (.ref f_law) = true)
    {C_Run : Addr} (a_Run : PySem.W.nsIn K mainGlobals "Run" = some (some (.ref C_Run))) (pg_Run : PySem.W.plainGet K C_Run Str.empty = true) (hd_Run : PySem.W.hasDictIn K C_Run = true) (po_Run : PySem.W.plainOver K C_Run = true) (sa_Run : PySem.W.findIn K (.ref C_Run) "__setattr__" = some (some (.builtin "object.__setattr__"))) (mk_Run : PySem.W.makesIn K C_Run = true) (kc_Run : PySem.W.keepIn K (.ref C_Run) = true)
    (no_Run_standing : PySem.W.findIn K (.ref C_Run) "standing" = some none)
    (no_Run_shown : PySem.W.findIn K (.ref C_Run) "shown" = some none)
    (no_Run_first_reads : PySem.W.findIn K (.ref C_Run) "first_reads" = some none)
    (no_Run_changed : PySem.W.findIn K (.ref C_Run) "changed" = some none)
    {f_Run___init__ : Addr} {od_Run___init__ an_Run___init__ : Option Addr} {sl_Run___init__ : Array (Option Value)} {oc_Run___init__ kV_Run___init__ dc_Run___init__ pm_Run___init__ cd_Run___init__ ct_Run___init__ : Value}
    (a_Run___init__ : PySem.W.findIn K (.ref C_Run) "__init__" = some (some (.ref f_Run___init__))) (i_Run___init__ : PySem.W.isFn K (.ref f_Run___init__) = true) (l_Run___init__ : K.lookup f_Run___init__ = some ⟨oc_Run___init__, od_Run___init__, .func (PySem.W.fnOf "__init__" "Run.__init__" (defArgs s_Run___init__) (defBody s_Run___init__) (defScope s_Run___init__) .none kV_Run___init__ dc_Run___init__ pm_Run___init__ an_Run___init__ cd_Run___init__ ct_Run___init__), sl_Run___init__⟩) (c_Run___init__ : PySem.W.codeIn K cd_Run___init__ "Run.__init__" = true) (k_Run___init__ : PySem.W.keepIn K (.ref f_Run___init__) = true)
    {f_Run_follow : Addr} {od_Run_follow an_Run_follow : Option Addr} {sl_Run_follow : Array (Option Value)} {oc_Run_follow kV_Run_follow dc_Run_follow pm_Run_follow cd_Run_follow ct_Run_follow : Value}
    (a_Run_follow : PySem.W.findIn K (.ref C_Run) "follow" = some (some (.ref f_Run_follow))) (i_Run_follow : PySem.W.isFn K (.ref f_Run_follow) = true) (l_Run_follow : K.lookup f_Run_follow = some ⟨oc_Run_follow, od_Run_follow, .func (PySem.W.fnOf "follow" "Run.follow" (defArgs s_Run_follow) (defBody s_Run_follow) (defScope s_Run_follow) .none kV_Run_follow dc_Run_follow pm_Run_follow an_Run_follow cd_Run_follow ct_Run_follow), sl_Run_follow⟩) (c_Run_follow : PySem.W.codeIn K cd_Run_follow "Run.follow" = true) (k_Run_follow : PySem.W.keepIn K (.ref f_Run_follow) = true)
    {f_Run_work_out : Addr} {od_Run_work_out an_Run_work_out : Option Addr} {sl_Run_work_out : Array (Option Value)} {oc_Run_work_out kV_Run_work_out dc_Run_work_out pm_Run_work_out cd_Run_work_out ct_Run_work_out : Value}
    (a_Run_work_out : PySem.W.findIn K (.ref C_Run) "work_out" = some (some (.ref f_Run_work_out))) (i_Run_work_out : PySem.W.isFn K (.ref f_Run_work_out) = true) (l_Run_work_out : K.lookup f_Run_work_out = some ⟨oc_Run_work_out, od_Run_work_out, .func (PySem.W.fnOf "work_out" "Run.work_out" (defArgs s_Run_work_out) (defBody s_Run_work_out) (defScope s_Run_work_out) .none kV_Run_work_out dc_Run_work_out pm_Run_work_out an_Run_work_out cd_Run_work_out ct_Run_work_out), sl_Run_work_out⟩) (c_Run_work_out : PySem.W.codeIn K cd_Run_work_out "Run.work_out" = true) (k_Run_work_out : PySem.W.keepIn K (.ref f_Run_work_out) = true)
    {f_Run_change : Addr} {od_Run_change an_Run_change : Option Addr} {sl_Run_change : Array (Option Value)} {oc_Run_change kV_Run_change dc_Run_change pm_Run_change cd_Run_change ct_Run_change : Value}
    (a_Run_change : PySem.W.findIn K (.ref C_Run) "change" = some (some (.ref f_Run_change))) (i_Run_change : PySem.W.isFn K (.ref f_Run_change) = true) (l_Run_change : K.lookup f_Run_change = some ⟨oc_Run_change, od_Run_change, .func (PySem.W.fnOf "change" "Run.change" (defArgs s_Run_change) (defBody s_Run_change) (defScope s_Run_change) .none kV_Run_change dc_Run_change pm_Run_change an_Run_change cd_Run_change ct_Run_change), sl_Run_change⟩) (c_Run_change : PySem.W.codeIn K cd_Run_change "Run.change" = true) (k_Run_change : PySem.W.keepIn K (.ref f_Run_change) = true)
    {C_Cell : Addr} (a_Cell : PySem.W.nsIn K mainGlobals "Cell" = some (some (.ref C_Cell))) (pg_Cell : PySem.W.plainGet K C_Cell Str.empty = true) (hd_Cell : PySem.W.hasDictIn K C_Cell = true) (po_Cell : PySem.W.plainOver K C_Cell = true) (sa_Cell : PySem.W.findIn K (.ref C_Cell) "__setattr__" = some (some (.builtin "object.__setattr__"))) (mk_Cell : PySem.W.makesIn K C_Cell = true) (kc_Cell : PySem.W.keepIn K (.ref C_Cell) = true)
    (no_Cell_text : PySem.W.findIn K (.ref C_Cell) "text" = some none)
    (no_Cell_rows : PySem.W.findIn K (.ref C_Cell) "rows" = some none)
    {f_Cell___init__ : Addr} {od_Cell___init__ an_Cell___init__ : Option Addr} {sl_Cell___init__ : Array (Option Value)} {oc_Cell___init__ kV_Cell___init__ dc_Cell___init__ pm_Cell___init__ cd_Cell___init__ ct_Cell___init__ : Value}
    (a_Cell___init__ : PySem.W.findIn K (.ref C_Cell) "__init__" = some (some (.ref f_Cell___init__))) (i_Cell___init__ : PySem.W.isFn K (.ref f_Cell___init__) = true) (l_Cell___init__ : K.lookup f_Cell___init__ = some ⟨oc_Cell___init__, od_Cell___init__, .func (PySem.W.fnOf "__init__" "Cell.__init__" (defArgs s_Cell___init__) (defBody s_Cell___init__) (defScope s_Cell___init__) .none kV_Cell___init__ dc_Cell___init__ pm_Cell___init__ an_Cell___init__ cd_Cell___init__ ct_Cell___init__), sl_Cell___init__⟩) (c_Cell___init__ : PySem.W.codeIn K cd_Cell___init__ "Cell.__init__" = true) (k_Cell___init__ : PySem.W.keepIn K (.ref f_Cell___init__) = true)
    (z_len : PySem.W.nsIn K mainGlobals "len" = some none)
    (z_isinstance : PySem.W.nsIn K mainGlobals "isinstance" = some none)
    (z_range : PySem.W.nsIn K mainGlobals "range" = some none)
    (z_all : PySem.W.nsIn K mainGlobals "all" = some none)
    (z_list : PySem.W.nsIn K mainGlobals "list" = some none)
    (z_str : PySem.W.nsIn K mainGlobals "str" = some none)
    (z_int : PySem.W.nsIn K mainGlobals "int" = some none)
    (z_tuple : PySem.W.nsIn K mainGlobals "tuple" = some none)
    (z_dict : PySem.W.nsIn K mainGlobals "dict" = some none)
    (z_abs : PySem.W.nsIn K mainGlobals "abs" = some none)
    (z_min : PySem.W.nsIn K mainGlobals "min" = some none)
    (z_max : PySem.W.nsIn K mainGlobals "max" = some none)
    (z_sorted : PySem.W.nsIn K mainGlobals "sorted" = some none)
    (z_enumerate : PySem.W.nsIn K mainGlobals "enumerate" = some none)
    {t_LETTERS : Tok} (g_LETTERS : PySem.W.nsIn K mainGlobals "LETTERS" = some (some (.str "abcdefghijklmnopqrstuvwxyz" t_LETTERS)))
    {t_FIGURES : Tok} (g_FIGURES : PySem.W.nsIn K mainGlobals "FIGURES" = some (some (.str "0123456789" t_FIGURES)))
    {w_WORDS : Addr} {dd_WORDS : Option Addr} {nn_WORDS : Nat} {ss_WORDS : Array (Option Value)} {t0_WORDS t1_WORDS t2_WORDS : Tok} (g_WORDS : PySem.W.nsIn K mainGlobals "WORDS" = some (some (.ref w_WORDS))) (o_WORDS : K.lookup w_WORDS = some ⟨.type "tuple", dd_WORDS, .seq #[.str "show" t0_WORDS, .str "drop" t1_WORDS, .str "if" t2_WORDS] nn_WORDS, ss_WORDS⟩)
    {t_MOST_SIGNS : Tok} (g_MOST_SIGNS : PySem.W.nsIn K mainGlobals "MOST_SIGNS" = some (some (.int 4 t_MOST_SIGNS)))
    {t_MOST_FIGURES : Tok} (g_MOST_FIGURES : PySem.W.nsIn K mainGlobals "MOST_FIGURES" = some (some (.int 3 t_MOST_FIGURES)))
    {t_MOST_ATOMS : Tok} (g_MOST_ATOMS : PySem.W.nsIn K mainGlobals "MOST_ATOMS" = some (some (.int 8 t_MOST_ATOMS)))
    {t_LIMIT : Tok} (g_LIMIT : PySem.W.nsIn K mainGlobals "LIMIT" = some (some (.int 1000000000 t_LIMIT)))
    {w_SIGNS : Addr} {es_SIGNS : Array DictEntry} {nn_SIGNS : Nat} {t0_SIGNS t1_SIGNS : Tok} (g_SIGNS : PySem.W.nsIn K mainGlobals "SIGNS" = some (some (.ref w_SIGNS))) (o_SIGNS : K.lookup w_SIGNS = some ⟨.type "dict", none, .dict es_SIGNS nn_SIGNS, #[]⟩) (q_SIGNS : PySem.W.KeysLit w.params es_SIGNS.toList) (r_SIGNS : (w_SIGNS == sysModules) = false) (v0_SIGNS : PySem.W.nsIn K w_SIGNS "+" = some (some (.int (1) t0_SIGNS))) (v1_SIGNS : PySem.W.nsIn K w_SIGNS "-" = some (some (.int (-1) t1_SIGNS))) (y0_SIGNS : PySem.W.nsIn K w_SIGNS "*" = some none) (y1_SIGNS : PySem.W.nsIn K w_SIGNS "//" = some none)
    {w_JOINTS : Addr} {dd_JOINTS : Option Addr} {nn_JOINTS : Nat} {ss_JOINTS : Array (Option Value)} {t0_JOINTS t1_JOINTS : Tok} (g_JOINTS : PySem.W.nsIn K mainGlobals "JOINTS" = some (some (.ref w_JOINTS))) (o_JOINTS : K.lookup w_JOINTS = some ⟨.type "tuple", dd_JOINTS, .seq #[.str "*" t0_JOINTS, .str "//" t1_JOINTS] nn_JOINTS, ss_JOINTS⟩)
    {t_MOST_ROWS : Tok} (g_MOST_ROWS : PySem.W.nsIn K mainGlobals "MOST_ROWS" = some (some (.int 6 t_MOST_ROWS))) :
    ∃ fd : FuncData, (∀ (s : Shared) (v : Value), BindsTo s fd ⟨[v], []⟩ [("_law_script", v)]) ∧ ∀ base : Heap, K.In base → base.Ns mainGlobals mg → FnOk l.prog w K mg base CX0 11 fa fd ["_law_script"] (spLaw K) := by
  have e := hfa.symm.trans (PySem.W.mg_of X G a_law)
  cases e
  have T : Txt K w mg := ⟨PySem.W.mg_none_of X G z_len, PySem.W.mg_none_of X G z_isinstance, PySem.W.mg_none_of X G z_range, PySem.W.mg_none_of X G z_all, PySem.W.mg_none_of X G z_list, PySem.W.mg_none_of X G z_str, PySem.W.mg_none_of X G z_int, PySem.W.mg_none_of X G z_tuple, PySem.W.mg_none_of X G z_dict, PySem.W.mg_none_of X G z_abs, PySem.W.mg_none_of X G z_min, PySem.W.mg_none_of X G z_max, PySem.W.mg_none_of X G z_sorted, PySem.W.mg_none_of X G z_enumerate, ⟨_, PySem.W.mg_of X G g_LETTERS⟩, ⟨_, PySem.W.mg_of X G g_FIGURES⟩, ⟨_, PySem.W.mg_of X G g_WORDS, fun H => .inr ⟨_, _, _, o_WORDS, rfl, rfl, (by show 3 ≤ sizeLine; decide), .cons ⟨_, rfl⟩ (.cons ⟨_, rfl⟩ (.cons ⟨_, rfl⟩ (.nil)))⟩⟩, ⟨_, PySem.W.mg_of X G g_MOST_SIGNS⟩, ⟨_, PySem.W.mg_of X G g_MOST_FIGURES⟩, ⟨_, PySem.W.mg_of X G g_MOST_ATOMS⟩, ⟨_, PySem.W.mg_of X G g_LIMIT⟩, ⟨_, _, _, PySem.W.mg_of X G g_SIGNS, ⟨o_SIGNS, q_SIGNS, r_SIGNS⟩, ⟨_, v0_SIGNS⟩, ⟨_, v1_SIGNS⟩, y0_SIGNS, y1_SIGNS⟩, ⟨_, PySem.W.mg_of X G g_JOINTS, fun H => .inr ⟨_, _, _, o_JOINTS, rfl, rfl, (by show 2 ≤ sizeLine; decide), .cons ⟨_, rfl⟩ (.cons ⟨_, rfl⟩ (.nil))⟩⟩, ⟨_, PySem.W.mg_of X G g_MOST_ROWS⟩, ⟨_, PySem.W.mg_of X G a_Run, ⟨pg_Run, hd_Run, po_Run, sa_Run⟩, no_Run_standing, no_Run_shown, no_Run_first_reads, no_Run_changed⟩, ⟨_, PySem.W.mg_of X G a_Cell, ⟨pg_Cell, hd_Cell, po_Cell, sa_Cell⟩, no_Cell_text, no_Cell_rows⟩⟩
  have S_is_name : Src K mg "is_name" s_is_name p_is_name := ⟨_, _, PySem.W.mg_of X G a_is_name, fun_mk (st := s_is_name) l_is_name c_is_name k_is_name, (fun_mk (st := s_is_name) l_is_name c_is_name k_is_name).binds (ps := p_is_name) fun _ _ _ _ _ _ us hl => match us, hl with | [_], _ => rfl⟩
  have S_is_number_word : Src K mg "is_number_word" s_is_number_word p_is_number_word := ⟨_, _, PySem.W.mg_of X G a_is_number_word, fun_mk (st := s_is_number_word) l_is_number_word c_is_number_word k_is_number_word, (fun_mk (st := s_is_number_word) l_is_number_word c_is_number_word k_is_number_word).binds (ps := p_is_number_word) fun _ _ _ _ _ _ us hl => match us, hl with | [_], _ => rfl⟩
  have S_read_atom : Src K mg "read_atom" s_read_atom p_read_atom := ⟨_, _, PySem.W.mg_of X G a_read_atom, fun_mk (st := s_read_atom) l_read_atom c_read_atom k_read_atom, (fun_mk (st := s_read_atom) l_read_atom c_read_atom k_read_atom).binds (ps := p_read_atom) fun _ _ _ _ _ _ us hl => match us, hl with | [_], _ => rfl⟩
  have S_marked_words : Src K mg "marked_words" s_marked_words p_marked_words := ⟨_, _, PySem.W.mg_of X G a_marked_words, fun_mk (st := s_marked_words) l_marked_words c_marked_words k_marked_words, (fun_mk (st := s_marked_words) l_marked_words c_marked_words k_marked_words).binds (ps := p_marked_words) fun _ _ _ _ _ _ us hl => match us, hl with | [_], _ => rfl⟩
  have S_read_sum : Src K mg "read_sum" s_read_sum p_read_sum := ⟨_, _, PySem.W.mg_of X G a_read_sum, fun_mk (st := s_read_sum) l_read_sum c_read_sum k_read_sum, (fun_mk (st := s_read_sum) l_read_sum c_read_sum k_read_sum).binds (ps := p_read_sum) fun _ _ _ _ _ _ us hl => match us, hl with | [_], _ => rfl⟩
  have S_within_limit : Src K mg "within_limit" s_within_limit p_within_limit := ⟨_, _, PySem.W.mg_of X G a_within_limit, fun_mk (st := s_within_limit) l_within_limit c_within_limit k_within_limit, (fun_mk (st := s_within_limit) l_within_limit c_within_limit k_within_limit).binds (ps := p_within_limit) fun _ _ _ _ _ _ us hl => match us, hl with | [_], _ => rfl⟩
  have S_atom_in : Src K mg "atom_in" s_atom_in p_atom_in := ⟨_, _, PySem.W.mg_of X G a_atom_in, fun_mk (st := s_atom_in) l_atom_in c_atom_in k_atom_in, (fun_mk (st := s_atom_in) l_atom_in c_atom_in k_atom_in).binds (ps := p_atom_in) fun _ _ _ _ _ _ us hl => match us, hl with | [_, _, _], _ => rfl⟩
  have S_joined : Src K mg "joined" s_joined p_joined := ⟨_, _, PySem.W.mg_of X G a_joined, fun_mk (st := s_joined) l_joined c_joined k_joined, (fun_mk (st := s_joined) l_joined c_joined k_joined).binds (ps := p_joined) fun _ _ _ _ _ _ us hl => match us, hl with | [_, _, _], _ => rfl⟩
  have S_product_in : Src K mg "product_in" s_product_in p_product_in := ⟨_, _, PySem.W.mg_of X G a_product_in, fun_mk (st := s_product_in) l_product_in c_product_in k_product_in, (fun_mk (st := s_product_in) l_product_in c_product_in k_product_in).binds (ps := p_product_in) fun _ _ _ _ _ _ us hl => match us, hl with | [_, _, _, _], _ => rfl⟩
  have S_worked_out : Src K mg "worked_out" s_worked_out p_worked_out := ⟨_, _, PySem.W.mg_of X G a_worked_out, fun_mk (st := s_worked_out) l_worked_out c_worked_out k_worked_out, (fun_mk (st := s_worked_out) l_worked_out c_worked_out k_worked_out).binds (ps := p_worked_out) fun _ _ _ _ _ _ us hl => match us, hl with | [_, _], _ => rfl⟩
  have S_run_in : Src K mg "run_in" s_run_in p_run_in := ⟨_, _, PySem.W.mg_of X G a_run_in, fun_mk (st := s_run_in) l_run_in c_run_in k_run_in, (fun_mk (st := s_run_in) l_run_in c_run_in k_run_in).binds (ps := p_run_in) fun _ _ _ _ _ _ us hl => match us, hl with | [_, _], _ => rfl⟩
  have S_read_rows : Src K mg "read_rows" s_read_rows p_read_rows := ⟨_, _, PySem.W.mg_of X G a_read_rows, fun_mk (st := s_read_rows) l_read_rows c_read_rows k_read_rows, (fun_mk (st := s_read_rows) l_read_rows c_read_rows k_read_rows).binds (ps := p_read_rows) fun _ _ _ _ _ _ us hl => match us, hl with | [_], _ => rfl⟩
  have S_read_row : Src K mg "read_row" s_read_row p_read_row := ⟨_, _, PySem.W.mg_of X G a_read_row, fun_mk (st := s_read_row) l_read_row c_read_row k_read_row, (fun_mk (st := s_read_row) l_read_row c_read_row k_read_row).binds (ps := p_read_row) fun _ _ _ _ _ _ us hl => match us, hl with | [_], _ => rfl⟩
  have S_read_plain_row : Src K mg "read_plain_row" s_read_plain_row p_read_plain_row := ⟨_, _, PySem.W.mg_of X G a_read_plain_row, fun_mk (st := s_read_plain_row) l_read_plain_row c_read_plain_row k_read_plain_row, (fun_mk (st := s_read_plain_row) l_read_plain_row c_read_plain_row k_read_plain_row).binds (ps := p_read_plain_row) fun _ _ _ _ _ _ us hl => match us, hl with | [_], _ => rfl⟩
  have S_sum_or_none : Src K mg "sum_or_none" s_sum_or_none p_sum_or_none := ⟨_, _, PySem.W.mg_of X G a_sum_or_none, fun_mk (st := s_sum_or_none) l_sum_or_none c_sum_or_none k_sum_or_none, (fun_mk (st := s_sum_or_none) l_sum_or_none c_sum_or_none k_sum_or_none).binds (ps := p_sum_or_none) fun _ _ _ _ _ _ us hl => match us, hl with | [_], _ => rfl⟩
  have S_Ltake : Src K mg "_law_take" s_Ltake p_Ltake := ⟨_, _, PySem.W.mg_of X G a_Ltake, fun_mk (st := s_Ltake) l_Ltake c_Ltake k_Ltake, (fun_mk (st := s_Ltake) l_Ltake c_Ltake k_Ltake).binds (ps := p_Ltake) fun _ _ _ _ _ _ us hl => match us, hl with | [_, _], _ => rfl⟩
  have S_Ltext : Src K mg "_law_text" s_Ltext p_Ltext := ⟨_, _, PySem.W.mg_of X G a_Ltext, fun_mk (st := s_Ltext) l_Ltext c_Ltext k_Ltext, (fun_mk (st := s_Ltext) l_Ltext c_Ltext k_Ltext).binds (ps := p_Ltext) fun _ _ _ _ _ _ us hl => match us, hl with | [_], _ => rfl⟩
  have S_Lrow_text : Src K mg "_law_row_text" s_Lrow_text p_Lrow_text := ⟨_, _, PySem.W.mg_of X G a_Lrow_text, fun_mk (st := s_Lrow_text) l_Lrow_text c_Lrow_text k_Lrow_text, (fun_mk (st := s_Lrow_text) l_Lrow_text c_Lrow_text k_Lrow_text).binds (ps := p_Lrow_text) fun _ _ _ _ _ _ us hl => match us, hl with | [_], _ => rfl⟩
  have S_Lsum_text : Src K mg "_law_sum_text" s_Lsum_text p_Lsum_text := ⟨_, _, PySem.W.mg_of X G a_Lsum_text, fun_mk (st := s_Lsum_text) l_Lsum_text c_Lsum_text k_Lsum_text, (fun_mk (st := s_Lsum_text) l_Lsum_text c_Lsum_text k_Lsum_text).binds (ps := p_Lsum_text) fun _ _ _ _ _ _ us hl => match us, hl with | [_], _ => rfl⟩
  have S_Lbag : Src K mg "_law_bag" s_Lbag p_Lbag := ⟨_, _, PySem.W.mg_of X G a_Lbag, fun_mk (st := s_Lbag) l_Lbag c_Lbag k_Lbag, (fun_mk (st := s_Lbag) l_Lbag c_Lbag k_Lbag).binds (ps := p_Lbag) fun _ _ _ _ _ _ us hl => match us, hl with | [_, _], _ => rfl⟩
  have S_Lfault_row : Src K mg "_law_fault_row" s_Lfault_row p_Lfault_row := ⟨_, _, PySem.W.mg_of X G a_Lfault_row, fun_mk (st := s_Lfault_row) l_Lfault_row c_Lfault_row k_Lfault_row, (fun_mk (st := s_Lfault_row) l_Lfault_row c_Lfault_row k_Lfault_row).binds (ps := p_Lfault_row) fun _ _ _ _ _ _ us hl => match us, hl with | [_, _], _ => rfl⟩
  have S_Lis_told : Src K mg "_law_is_told" s_Lis_told p_Lis_told := ⟨_, _, PySem.W.mg_of X G a_Lis_told, fun_mk (st := s_Lis_told) l_Lis_told c_Lis_told k_Lis_told, (fun_mk (st := s_Lis_told) l_Lis_told c_Lis_told k_Lis_told).binds (ps := p_Lis_told) fun _ _ _ _ _ _ us hl => match us, hl with | [_, _], _ => rfl⟩
  have S_law : Src K mg "law" s_law p_law := ⟨_, _, PySem.W.mg_of X G a_law, fun_mk (st := s_law) l_law c_law k_law, (fun_mk (st := s_law) l_law c_law k_law).binds (ps := p_law) fun _ _ _ _ _ _ us hl => match us, hl with | [_], _ => rfl⟩
  have S_Run___init__ : SrcI K mg "Run" "Run.__init__" s_Run___init__ p_Run___init__ := ⟨_, _, _, PySem.W.mg_of X G a_Run, ⟨mk_Run, a_Run___init__, i_Run___init__, kc_Run⟩, fun_mk (st := s_Run___init__) l_Run___init__ c_Run___init__ k_Run___init__, (fun_mk (st := s_Run___init__) l_Run___init__ c_Run___init__ k_Run___init__).binds (ps := p_Run___init__) fun _ _ _ _ _ _ us hl => match us, hl with | [_, _], _ => rfl⟩
  have S_Run_follow : SrcM K mg "Run" "follow" "Run.follow" s_Run_follow p_Run_follow := ⟨_, _, _, PySem.W.mg_of X G a_Run, ⟨pg_Run, hd_Run, po_Run, sa_Run⟩, ⟨a_Run_follow, i_Run_follow, k_Run_follow⟩, fun_mk (st := s_Run_follow) l_Run_follow c_Run_follow k_Run_follow, (fun_mk (st := s_Run_follow) l_Run_follow c_Run_follow k_Run_follow).binds (ps := p_Run_follow) fun _ _ _ _ _ _ us hl => match us, hl with | [_, _], _ => rfl⟩
  have S_Run_work_out : SrcM K mg "Run" "work_out" "Run.work_out" s_Run_work_out p_Run_work_out := ⟨_, _, _, PySem.W.mg_of X G a_Run, ⟨pg_Run, hd_Run, po_Run, sa_Run⟩, ⟨a_Run_work_out, i_Run_work_out, k_Run_work_out⟩, fun_mk (st := s_Run_work_out) l_Run_work_out c_Run_work_out k_Run_work_out, (fun_mk (st := s_Run_work_out) l_Run_work_out c_Run_work_out k_Run_work_out).binds (ps := p_Run_work_out) fun _ _ _ _ _ _ us hl => match us, hl with | [_, _], _ => rfl⟩
  have S_Run_change : SrcM K mg "Run" "change" "Run.change" s_Run_change p_Run_change := ⟨_, _, _, PySem.W.mg_of X G a_Run, ⟨pg_Run, hd_Run, po_Run, sa_Run⟩, ⟨a_Run_change, i_Run_change, k_Run_change⟩, fun_mk (st := s_Run_change) l_Run_change c_Run_change k_Run_change, (fun_mk (st := s_Run_change) l_Run_change c_Run_change k_Run_change).binds (ps := p_Run_change) fun _ _ _ _ _ _ us hl => match us, hl with | [_, _, _], _ => rfl⟩
  have S_Cell___init__ : SrcI K mg "Cell" "Cell.__init__" s_Cell___init__ p_Cell___init__ := ⟨_, _, _, PySem.W.mg_of X G a_Cell, ⟨mk_Cell, a_Cell___init__, i_Cell___init__, kc_Cell⟩, fun_mk (st := s_Cell___init__) l_Cell___init__ c_Cell___init__ k_Cell___init__, (fun_mk (st := s_Cell___init__) l_Cell___init__ c_Cell___init__ k_Cell___init__).binds (ps := p_Cell___init__) fun _ _ _ _ _ _ us hl => match us, hl with | [_, _], _ => rfl⟩
  refine ⟨PySem.W.fnOf "law" "law" (defArgs s_law) (defBody s_law) (defScope s_law) .none kV_law dc_law pm_law an_law cd_law ct_law, fun s v => .of_eq rfl, fun base _ _ => ?_⟩
  have D_Ltake := d_Ltake (P := l.prog) (w := w) (base := base) S_Ltake
  have D_Lbag := d_Lbag (P := l.prog) (w := w) (base := base) S_Lbag T
  have D_is_name := d_is_name (P := l.prog) (w := w) (base := base) S_is_name T
  have D_is_number_word := d_is_number_word (P := l.prog) (w := w) (base := base) S_is_number_word T
  have D_read_atom := d_read_atom (P := l.prog) (w := w) (base := base) S_read_atom T D_is_name D_is_number_word
  have D_marked_words := d_marked_words (P := l.prog) (w := w) (base := base) S_marked_words T
  have D_read_sum := d_read_sum (P := l.prog) (w := w) (base := base) S_read_sum T D_marked_words D_read_atom
  have D_sum_or_none := d_sum_or_none (P := l.prog) (w := w) (base := base) S_sum_or_none D_read_sum
  have D_read_plain_row := d_read_plain_row (P := l.prog) (w := w) (base := base) S_read_plain_row D_is_name D_sum_or_none
  have D_read_row := d_read_row (P := l.prog) (w := w) (base := base) S_read_row D_read_plain_row D_sum_or_none
  have D_read_rows := d_read_rows (P := l.prog) (w := w) (base := base) S_read_rows T D_read_row
  have D_Cell := d_Cell___init__ (P := l.prog) (w := w) (base := base) S_Cell___init__ T D_read_rows
  have D_within_limit := d_within_limit (P := l.prog) (w := w) (base := base) S_within_limit T
  have D_atom_in := d_atom_in (P := l.prog) (w := w) (base := base) S_atom_in T
  have D_joined := d_joined (P := l.prog) (w := w) (base := base) S_joined D_within_limit
  have D_product_in := d_product_in (P := l.prog) (w := w) (base := base) S_product_in D_atom_in D_joined
  have D_worked_out := d_worked_out (P := l.prog) (w := w) (base := base) S_worked_out D_product_in D_within_limit
  have D_Run := d_Run___init__ (P := l.prog) (w := w) (base := base) S_Run___init__ T
  have D_Run_change := d_Run_change (P := l.prog) (w := w) (base := base) S_Run_change T
  have D_Run_work_out := d_Run_work_out (P := l.prog) (w := w) (base := base) S_Run_work_out T D_worked_out
  have D_Run_follow := d_Run_follow (P := l.prog) (w := w) (base := base) S_Run_follow T D_Run_change D_Run_work_out
  have D_run_in := d_run_in (P := l.prog) (w := w) (base := base) S_run_in T D_Run D_Run_follow
  have D_Lsum_text := d_Lsum_text (P := l.prog) (w := w) (base := base) S_Lsum_text T
  have D_Lrow_text := d_Lrow_text (P := l.prog) (w := w) (base := base) S_Lrow_text D_Lsum_text
  have D_Ltext := d_Ltext (P := l.prog) (w := w) (base := base) S_Ltext D_Lrow_text
  have D_Lfault_row := d_Lfault_row (P := l.prog) (w := w) (base := base) S_Lfault_row D_Ltake
  have D_Lis_told := d_Lis_told (P := l.prog) (w := w) (base := base) S_Lis_told T D_Ltake D_Lfault_row D_Ltext D_Cell D_run_in
  exact law_at (fun_mk (st := s_law) l_law c_law k_law) T D_Lbag D_Ltake D_Lis_told D_Cell D_run_in
theorem walk {l : PySem.W.OpenLaw} {q : Program} {loose : List Str} {XP : (Str → Option Value) → Heap → Prop} {YP : World → Heap → Prop} {d : DefRec} {K : Params → PySem.W.Frag} (hn : l.most = some 63) (hdf : d.params.defaults = [])
    (hY : ∀ (w : World) (h : Heap), YP w h → (K w.params).In h)
    (F : ∀ (w : World) (mg : Str → Option Value) (fa : Addr) (h : Heap), (K w.params).In h → h.Ns mainGlobals mg → mg d.name = some (.ref fa) →
      ∃ fd : FuncData, (∀ (s : Shared) (u : Value), BindsTo s fd ⟨[u], []⟩ [("_law_script", u)]) ∧ ∀ base : Heap, (K w.params).In base → base.Ns mainGlobals mg → FnOk l.prog w (K w.params) mg base CX0 11 fa fd ["_law_script"] (spLaw (K w.params))) :
    PySem.W.WalkO q loose XP YP l.row.toRowW d [] (fun f vs => PySem.call f vs) :=
  L2.walk_of (n := 63) (k := 11) (x := "_law_script") (CX := fun _ => CX0) (sp := fun w => spLaw (K w.params)) hn (by decide) hdf ⟨rfl, by decide, by decide⟩ hY F (fun _ _ a ns hl _ hS => ⟨a, ns, rfl, hS, hl, fun _ => rfl⟩) fun _ _ _ _ _ z => z
end Fc

open PySem PySem.W PyProof.Rows in
set_option maxRecDepth 100000 in
set_option maxHeartbeats 0 in
theorem PySem.Challenge.cw_freshcells_k13_faults_end_holds : PySem.Challenge.rw_freshcells_k13_faults_end.Holds := by
  w_on; o_law; k_head; (case hw => w_witness2)
  k_fill
  refine Fc.walk (l := PySem.Challenge.rw_freshcells_k13_faults_end) rfl rfl (fun w h Y => PySem.W.kIn_of Y) ?F
  case F =>
    intro w mg fa h KX G hmg
    refine' Fc.all_mk KX G hmg ?a_is_name ?l_is_name ?c_is_name ?k_is_name ?a_is_number_word ?l_is_number_word ?c_is_number_word ?k_is_number_word ?a_read_atom ?l_read_atom ?c_read_atom ?k_read_atom ?a_marked_words ?l_marked_words ?c_marked_words ?k_marked_words ?a_read_sum ?l_read_sum ?c_read_sum ?k_read_sum ?a_within_limit ?l_within_limit ?c_within_limit ?k_within_limit ?a_atom_in ?l_atom_in ?c_atom_in ?k_atom_in ?a_joined ?l_joined ?c_joined ?k_joined ?a_product_in ?l_product_in ?c_product_in ?k_product_in ?a_worked_out ?l_worked_out ?c_worked_out ?k_worked_out ?a_run_in ?l_run_in ?c_run_in ?k_run_in ?a_read_rows ?l_read_rows ?c_read_rows ?k_read_rows ?a_read_row ?l_read_row ?c_read_row ?k_read_row ?a_read_plain_row ?l_read_plain_row ?c_read_plain_row ?k_read_plain_row ?a_sum_or_none ?l_sum_or_none ?c_sum_or_none ?k_sum_or_none ?a_Ltake ?l_Ltake ?c_Ltake ?k_Ltake ?a_Ltext ?l_Ltext ?c_Ltext ?k_Ltext ?a_Lrow_text ?l_Lrow_text ?c_Lrow_text ?k_Lrow_text ?a_Lsum_text ?l_Lsum_text ?c_Lsum_text ?k_Lsum_text ?a_Lbag ?l_Lbag ?c_Lbag ?k_Lbag ?a_Lfault_row ?l_Lfault_row ?c_Lfault_row ?k_Lfault_row ?a_Lis_told ?l_Lis_told ?c_Lis_told ?k_Lis_told ?a_law ?l_law ?c_law ?k_law ?a_Run ?pg_Run ?hd_Run ?po_Run ?sa_Run ?mk_Run ?kc_Run ?no_Run_standing ?no_Run_shown ?no_Run_first_reads ?no_Run_changed ?a_Run___init__ ?i_Run___init__ ?l_Run___init__ ?c_Run___init__ ?k_Run___init__ ?a_Run_follow ?i_Run_follow ?l_Run_follow ?c_Run_follow ?k_Run_follow ?a_Run_work_out ?i_Run_work_out ?l_Run_work_out ?c_Run_work_out ?k_Run_work_out ?a_Run_change ?i_Run_change ?l_Run_change ?c_Run_change ?k_Run_change ?a_Cell ?pg_Cell ?hd_Cell ?po_Cell ?sa_Cell ?mk_Cell ?kc_Cell ?no_Cell_text ?no_Cell_rows ?a_Cell___init__ ?i_Cell___init__ ?l_Cell___init__ ?c_Cell___init__ ?k_Cell___init__ ?z_len ?z_isinstance ?z_range ?z_all ?z_list ?z_str ?z_int ?z_tuple ?z_dict ?z_abs ?z_min ?z_max ?z_sorted ?z_enumerate ?g_LETTERS ?g_FIGURES ?g_WORDS ?o_WORDS ?g_MOST_SIGNS ?g_MOST_FIGURES ?g_MOST_ATOMS ?g_LIMIT ?g_SIGNS ?o_SIGNS ?q_SIGNS ?r_SIGNS ?v0_SIGNS ?v1_SIGNS ?y0_SIGNS ?y1_SIGNS ?g_JOINTS ?o_JOINTS ?g_MOST_ROWS
    (case a_is_name => k_is)
    (case l_is_name => k_is)
    (case c_is_name => k_is)
    (case k_is_name => k_is)
    (case a_is_number_word => k_is)
    (case l_is_number_word => k_is)
    (case c_is_number_word => k_is)
    (case k_is_number_word => k_is)
    (case a_read_atom => k_is)
    (case l_read_atom => k_is)
    (case c_read_atom => k_is)
    (case k_read_atom => k_is)
    (case a_marked_words => k_is)
    (case l_marked_words => k_is)
    (case c_marked_words => k_is)
    (case k_marked_words => k_is)
    (case a_read_sum => k_is)
    (case l_read_sum => k_is)
    (case c_read_sum => k_is)
    (case k_read_sum => k_is)
    (case a_within_limit => k_is)
    (case l_within_limit => k_is)
    (case c_within_limit => k_is)
    (case k_within_limit => k_is)
    (case a_atom_in => k_is)
    (case l_atom_in => k_is)
    (case c_atom_in => k_is)
    (case k_atom_in => k_is)
    (case a_joined => k_is)
    (case l_joined => k_is)
    (case c_joined => k_is)
    (case k_joined => k_is)
    (case a_product_in => k_is)
    (case l_product_in => k_is)
    (case c_product_in => k_is)
    (case k_product_in => k_is)
    (case a_worked_out => k_is)
    (case l_worked_out => k_is)
    (case c_worked_out => k_is)
    (case k_worked_out => k_is)
    (case a_run_in => k_is)
    (case l_run_in => k_is)
    (case c_run_in => k_is)
    (case k_run_in => k_is)
    (case a_read_rows => k_is)
    (case l_read_rows => k_is)
    (case c_read_rows => k_is)
    (case k_read_rows => k_is)
    (case a_read_row => k_is)
    (case l_read_row => k_is)
    (case c_read_row => k_is)
    (case k_read_row => k_is)
    (case a_read_plain_row => k_is)
    (case l_read_plain_row => k_is)
    (case c_read_plain_row => k_is)
    (case k_read_plain_row => k_is)
    (case a_sum_or_none => k_is)
    (case l_sum_or_none => k_is)
    (case c_sum_or_none => k_is)
    (case k_sum_or_none => k_is)
    (case a_Ltake => k_is)
    (case l_Ltake => k_is)
    (case c_Ltake => k_is)
    (case k_Ltake => k_is)
    (case a_Ltext => k_is)
    (case l_Ltext => k_is)
    (case c_Ltext => k_is)
    (case k_Ltext => k_is)
    (case a_Lrow_text => k_is)
    (case l_Lrow_text => k_is)
    (case c_Lrow_text => k_is)
    (case k_Lrow_text => k_is)
    (case a_Lsum_text => k_is)
    (case l_Lsum_text => k_is)
    (case c_Lsum_text => k_is)
    (case k_Lsum_text => k_is)
    (case a_Lbag => k_is)
    (case l_Lbag => k_is)
    (case c_Lbag => k_is)
    (case k_Lbag => k_is)
    (case a_Lfault_row => k_is)
    (case l_Lfault_row => k_is)
    (case c_Lfault_row => k_is)
    (case k_Lfault_row => k_is)
    (case a_Lis_told => k_is)
    (case l_Lis_told => k_is)
    (case c_Lis_told => k_is)
    (case k_Lis_told => k_is)
    (case a_law => k_is)
    (case l_law => k_is)
    (case c_law => k_is)
    (case k_law => k_is)
    (case a_Run => k_is)
    (case pg_Run => k_is)
    (case hd_Run => k_is)
    (case po_Run => k_is)
    (case sa_Run => k_is)
    (case mk_Run => k_is)
    (case kc_Run => k_is)
    (case no_Run_standing => k_is)
    (case no_Run_shown => k_is)
    (case no_Run_first_reads => k_is)
    (case no_Run_changed => k_is)
    (case a_Run___init__ => k_is)
    (case i_Run___init__ => k_is)
    (case l_Run___init__ => k_is)
    (case c_Run___init__ => k_is)
    (case k_Run___init__ => k_is)
    (case a_Run_follow => k_is)
    (case i_Run_follow => k_is)
    (case l_Run_follow => k_is)
    (case c_Run_follow => k_is)
    (case k_Run_follow => k_is)
    (case a_Run_work_out => k_is)
    (case i_Run_work_out => k_is)
    (case l_Run_work_out => k_is)
    (case c_Run_work_out => k_is)
    (case k_Run_work_out => k_is)
    (case a_Run_change => k_is)
    (case i_Run_change => k_is)
    (case l_Run_change => k_is)
    (case c_Run_change => k_is)
    (case k_Run_change => k_is)
    (case a_Cell => k_is)
    (case pg_Cell => k_is)
    (case hd_Cell => k_is)
    (case po_Cell => k_is)
    (case sa_Cell => k_is)
    (case mk_Cell => k_is)
    (case kc_Cell => k_is)
    (case no_Cell_text => k_is)
    (case no_Cell_rows => k_is)
    (case a_Cell___init__ => k_is)
    (case i_Cell___init__ => k_is)
    (case l_Cell___init__ => k_is)
    (case c_Cell___init__ => k_is)
    (case k_Cell___init__ => k_is)
    (case z_len => k_is)
    (case z_isinstance => k_is)
    (case z_range => k_is)
    (case z_all => k_is)
    (case z_list => k_is)
    (case z_str => k_is)
    (case z_int => k_is)
    (case z_tuple => k_is)
    (case z_dict => k_is)
    (case z_abs => k_is)
    (case z_min => k_is)
    (case z_max => k_is)
    (case z_sorted => k_is)
    (case z_enumerate => k_is)
    (case g_LETTERS => k_is)
    (case g_FIGURES => k_is)
    (case g_WORDS => k_is)
    (case o_WORDS => k_is)
    (case g_MOST_SIGNS => k_is)
    (case g_MOST_FIGURES => k_is)
    (case g_MOST_ATOMS => k_is)
    (case g_LIMIT => k_is)
    (case g_SIGNS => k_is)
    (case o_SIGNS => k_is)
    (case q_SIGNS => k_keys)
    (case r_SIGNS => decide)
    (case v0_SIGNS => k_is)
    (case v1_SIGNS => k_is)
    (case y0_SIGNS => k_is)
    (case y1_SIGNS => k_is)
    (case g_JOINTS => k_is)
    (case o_JOINTS => k_is)
    (case g_MOST_ROWS => k_is)

