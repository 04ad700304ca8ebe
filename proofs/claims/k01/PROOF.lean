import PyProof.Rows.All
import Wide.All
import OpenK.AllK
import Wide.FinOn
import HandS.ForMost
import HandS.IsInst
import HandS.Style
import HandS.Codes
import HandS.Walk
import PySem.Challenge.RW_freshcells_k01_names
set_option Elab.async false
set_option linter.all false
set_option maxRecDepth 100000
set_option maxHeartbeats 4000000
/-! Fc0: own words over the hand layer: a def by its name, heaps, list(text). -/
namespace Fc
open PySem PySem.Spec PyProof.Rows L2 TL

/-! ### a def of the text, found by its name -/
structure Src (K : PySem.W.Frag) (mg : Str → Option Value) (x : Str) (st : Stmt) (ps : List Str) : Prop where
  ex : ∃ f fd, mg x = some (.ref f) ∧ Fun K x x st f fd ∧ Binds K fd ps []
structure Dn (P : Program) (w : World) (K : PySem.W.Frag) (mg : Str → Option Value) (base : Heap) (x : Str) (k : Nat) (ps : List Str) (sp : Sp) : Prop where
  ex : ∃ f fd, mg x = some (.ref f) ∧ PySem.W.keepIn K (.ref f) = true ∧ Binds K fd ps [] ∧ FnOk P w K mg base CX0 k f fd ps sp
section
variable {P : Program} {w : World} {K : PySem.W.Frag} {mg : Str → Option Value} {base : Heap} {x : Str} {st : Stmt} {N ps : List Str} {k : Nat} {sp sp' : Sp}
theorem Src.ok (S : Src K mg x st ps) (sc : FnScope N ps (defScope st)) (len : ∀ vs H Q E, sp vs H Q E → vs.length = ps.length)
    (hbody : ∀ (f : Addr) (cdv : Value) (A : Around) (outer : List Env) (s : Shared) (H : Hp) (vs : List V) (Q : VK) (E : XK), Room k (A.deeper (envOfC x (defScope st) s.heap.objs.size f cdv)) → sp vs H Q E →
      ∃ t, PSs (cxOf CX0 P w K mg base N x (defScope st) f cdv A outer s H E).nox (defBody st) t ∧ t { nx := fun _ H' => Q .non H', rt := Q } (start N vs) H) : Dn P w K mg base x (k + 1) ps sp := by
  obtain ⟨f, fd, m, F, b⟩ := S.ex
  exact ⟨f, fd, m, F.kp, b, F.ok sc len (hbody f)⟩
theorem Dn.imp (D : Dn P w K mg base x k ps sp) (h : ∀ vs H Q E, sp' vs H Q E → sp vs H Q E) : Dn P w K mg base x k ps sp' := by
  obtain ⟨f, fd, m, kp, b, F⟩ := D.ex
  exact ⟨f, fd, m, kp, b, F.imp h⟩
end
section
variable {X : Cx} {x : Str} {ps : List Str} {sp : Sp} {k : Nat} {p pos : Pos} {e : Expr} {es : List Expr} {t : TA}
theorem pe_fn (D : Dn X.prog X.w X.K X.mg X.base x k ps sp) (hr : Room k X.A) (hg : Gl X x)
    (ha : PA X (e :: es) t) (hdb : (x == ("__debug__" : Str)) = false := by decide) (he : starEach (e :: es) X.env = (false, eval e X.env) :: starEach es X.env := by rfl) (hpl : (backTo pos (starEach es X.env)).any (·.1) = false := by rfl) :
    PE X (.Call (.Name x p) (e :: es) [] pos) (tCall sp [] E0 t) := by
  obtain ⟨f, fd, m, kp, b, F⟩ := D.ex
  exact pe_call F hr hg m kp b .nil pass0 ha hdb he hpl
theorem pe_fn0 (D : Dn X.prog X.w X.K X.mg X.base x k ps sp) (hr : Room k X.A) (hg : Gl X x) (hdb : (x == ("__debug__" : Str)) = false := by decide) :
    PE X (.Call (.Name x p) [] [] pos) (tCall sp [] E0 tNil) := by
  obtain ⟨f, fd, m, kp, b, F⟩ := D.ex
  exact pe_call0 F hr hg m kp b .nil pass0 hdb
end

/-! ### list(text) -/
def sgn (c : Nat) : V := .str ⟨#[c]⟩
def sgns (z : Str) : List V := z.cps.toList.map sgn
theorem vals_signs : ∀ (cs : List Nat) (us : List Value), us.length = cs.length → (∀ (j : Nat) (v : Value), us[j]? = some v → ∃ (c : Nat) (u : Tok), cs[j]? = some c ∧ v = Value.str ⟨#[c]⟩ u) → Vals (cs.map sgn) us
  | [], [], _, _ => .nil
  | [], _ :: _, h, _ => by simp at h
  | _ :: _, [], h, _ => by simp at h
  | c :: cs, u :: us, h, q => by
    obtain ⟨c', t, e1, e2⟩ := q 0 u rfl
    have e1' : c = c' := Option.some.inj e1
    subst e1'
    exact .cons ⟨t, e2⟩ (vals_signs cs us (by simpa using h) fun j v e => q (j + 1) v e)
theorem call_list_txt {X : Cx} (hc : X.calm = true) : CallR X (.type "list") (fun xs H Q => ∃ z : Str, xs = [.str z] ∧ z.length ≤ sizeLine ∧ ∀ l, H l = none → Q (.ref l) (upd H l (.lst (sgns z)))) := by
  intro pins s σ H xs us Q I r h
  obtain ⟨z, rfl, hz, q⟩ := h
  obtain ⟨u, rfl, rx⟩ := vals1 r
  obtain ⟨t, rfl⟩ := rx
  refine PySem.call_list_str (I.ok.hd hc) z t (fun h' tk acc' c' kp e it => ?_) hz
  obtain ⟨hsz, hit⟩ := it
  refine ⟨.ref s.heap.objs.size, _, I.laid (t' := tk) kp (Nat.le_refl _) (show ObjOk X.prog X.w _ h' _ (.lst (sgns z)) from ⟨?_, acc'.toList, c', ?_, e⟩), rfl, q _ (I.hok.fresh (Nat.le_refl _))⟩
  · unfold sgns
    rw [List.length_map, Array.length_toList]
    exact hz
  · refine vals_signs _ _ ?_ fun j v ej => ?_
    · rw [Array.length_toList, Array.length_toList]; exact hsz
    · rw [Array.getElem?_toList] at ej
      obtain ⟨c, u, e1, e2⟩ := hit j v ej
      refine ⟨c, u, ?_, e2⟩
      rw [Array.getElem?_toList]
      exact e1

/-! ### heaps -/
theorem same_upd {H : Hp} {p : Addr} {o : HO} (h : H p = none) : Same H (upd H p o) := fun b x e => by
  rw [upd_ne (ne_of_none e h)]
  exact e
/-- the draws' bag at b: a great number's rest, a number mixed -/
def Bag (H : Hp) (b : Addr) : Prop := ∃ g m : Int, H b = some (.lst [.int g, .int m]) ∧ 0 ≤ g ∧ 0 ≤ m ∧ m < 2147483648
/-- all but the bag is kept -/
structure Kp (b : Addr) (H H' : Hp) : Prop where
  keep : ∀ a o, a ≠ b → H a = some o → H' a = some o
  bag : Bag H' b
theorem Kp.refl {b : Addr} {H : Hp} (h : Bag H b) : Kp b H H := ⟨fun _ _ _ e => e, h⟩
theorem Kp.trans {b : Addr} {H H1 H2 : Hp} (a : Kp b H H1) (c : Kp b H1 H2) : Kp b H H2 := ⟨fun x o n e => c.keep x o n (a.keep x o n e), c.bag⟩
theorem Bag.same {b : Addr} {H H' : Hp} (h : Bag H b) (s : Same H H') : Bag H' b := by
  obtain ⟨g, m, e, r⟩ := h
  exact ⟨g, m, s _ _ e, r⟩
theorem Kp.same {b : Addr} {H H1 H2 : Hp} (a : Kp b H H1) (s : Same H1 H2) : Kp b H H2 := ⟨fun x o n e => s x o (a.keep x o n e), a.bag.same s⟩
theorem Kp.of {b : Addr} {H H' : Hp} (h : Bag H b) (s : Same H H') : Kp b H H' := (Kp.refl h).same s
/-- a bag is no new object -/
theorem Bag.ne {b p : Addr} {H : Hp} (h : Bag H b) (n : H p = none) : p ≠ b := by
  obtain ⟨g, m, e, _⟩ := h
  exact (ne_of_none e n).symm
theorem Kp.none {b p : Addr} {H H' : Hp} (k : Kp b H H') (h : Bag H b) (n : H' p = Option.none) : H p = Option.none := by
  cases e : H p with
  | none => rfl
  | some o =>
    by_cases hp : p = b
    · rw [hp] at n
      obtain ⟨g, m, e2, _⟩ := k.bag
      rw [e2] at n
      cases n
    · rw [k.keep p o hp e] at n
      cases n
theorem same_put {H H' : Hp} {p : Addr} {o : HO} (s : Same H H') (h : H p = Option.none) : Same H (L2.upd H' p o) := fun b x e => by
  rw [upd_ne (ne_of_none e h)]
  exact s b x e
theorem upd_keep {H : Hp} {p q : Addr} {o u : HO} (h : H q = some u) (n : H p = none) : L2.upd H p o q = some u := by
  rw [upd_ne (ne_of_none h n)]
  exact h
theorem wipe1 (σ : L2.St) (i : Nat) (v : Option V) : wipe ((wipe σ [i]).set i v) [i] = wipe σ [i] := by
  show ((σ.set i none).set i v).set i none = σ.set i none
  rw [List.set_set, List.set_set]
theorem tyes {A B : Hp → Prop} {σ : L2.St} {H : Hp} (h : A H) : tYes σ H (fun b H3 => if b = true then A H3 else B H3) := by
  show (if true = true then A H else B H)
  rw [if_pos rfl]
  exact h
/-- a comprehension whose items hang on the walked item alone; the heap may grow meanwhile (kept: what stood at its start) -/
theorem lc_map {J : It} {n : Nat} {G : Hp → Prop} {te : TE} {i : Nat} {σ : L2.St} {H1 : Hp} {D : Addr} {Qd : Hp → Prop} (xs ys : List V)
    (w : Walk J n G fun j H x H' => H' = H ∧ xs[j]? = some x) (hn : xs.length = n) (hl : ys.length = n) (hz : n < sizeLine) (nD : H1 D = none) (hG : ∀ H, Same H1 H → G H)
    (hs : ∀ (j : Nat) (x y : V) (H : Hp) (Q : VK), Same H1 H → xs[j]? = some x → ys[j]? = some y → (∀ H', (∀ a o, a ≠ D → H a = some o → H' a = some o) → (∀ acc, H D = some (.lst acc) → H' D = some (.lst acc)) → Q y H') → te ((wipe σ [i]).set i (some x)) H Q)
    (hd : ∀ H, Same H1 H → H D = some (.lst ys) → Qd H) :
    ∃ W : Nat → Nat → Hp → Prop, (∃ m, W 0 m (upd H1 D (.lst []))) ∧ ∀ k m H, W k m H →
      (J.stop k H ∧ Qd H) ∨ (J.go k H ∧ ∃ Nx : Hp → Prop, (∀ H', Nx H' → ∃ m', m' < m ∧ W (k + 1) m' H') ∧ ∀ x H', J.yld k H x H' → gName i x (wipe σ [i]) H' fun σ2 H2 => wipe σ2 [i] = wipe σ [i] ∧ tYes σ2 H2 fun b H3 =>
        if b = true then te σ2 H3 fun y H4 => ∃ acc, H4 D = some (.lst acc) ∧ acc.length < sizeLine ∧ Nx (upd H4 D (.lst (acc ++ [y]))) else Nx H3) := by
  refine lc_it w (fun k H => Same H1 H ∧ H D = some (.lst (ys.take k))) ⟨same_upd nD, by rw [upd_same]; rfl⟩ (fun k H _ p => hG H p.1) ?_ (fun H p => hd H p.1 (by rw [p.2, ← hl, List.take_length]))
  rintro k x H H2 hk ⟨s, e⟩ ⟨eh, hx⟩
  subst eh
  refine ⟨wipe1 σ i _, ?_⟩
  refine tyes ?_
  have hy : ys[k]? = some ys[k] := List.getElem?_eq_getElem (by omega)
  refine hs k x _ _ _ s hx hy fun H' kp kD => ?_
  refine ⟨_, kD _ e, by rw [List.length_take]; omega, fun a o ea => ?_, ?_⟩
  · have na : a ≠ D := ne_of_none ea nD
    rw [upd_ne na]
    exact kp a o na (s a o ea)
  · rw [upd_same, List.take_add_one, hy]
    rfl
theorem walk_sgn {z : Str} : Walk (Its z) (sgns z).length (fun _ => True) (fun j H x H' => H' = H ∧ (sgns z)[j]? = some x) := by
  have e : (sgns z).length = z.cps.size := by
    unfold sgns
    rw [List.length_map, Array.length_toList]
  rw [e]
  refine walk_str.mono (fun _ h => h) fun i H v H' hi _ y => ?_
  obtain ⟨h, c, e1, e2⟩ := y
  refine ⟨h, ?_⟩
  unfold sgns
  rw [List.getElem?_map, Array.getElem?_toList, e1, e2]
  rfl
theorem sgns_length (z : Str) : (sgns z).length = z.length := by
  unfold sgns
  rw [List.length_map, Array.length_toList]
  rfl
/-- of what is no object's text: the kind -/
inductive Thg (K : PySem.W.Frag) (H : Hp) : V → Option Str → Prop
  | str (z : Str) (h : z.length ≤ 2000) : Thg K H (.str z) (some z)
  | oth (v : V) (T : String) (t : TyX K H v (.type T)) (e : kitB T "str" = some false) : Thg K H v none
theorem Thg.isi {K : PySem.W.Frag} {H : Hp} {v : V} {o : Option Str} (t : Thg K H v o) : ∃ u, TyX K H v u ∧ PySem.W.kitOne K u (.type "str") = some o.isSome := by
  cases t with
  | str z h => exact ⟨_, .base (.str z), kit_ty (r := true) (by decide +kernel)⟩
  | oth v T t e => exact ⟨_, t, kit_ty e⟩
theorem TyX.mono {K : PySem.W.Frag} {H H' : Hp} {v : V} {t : Value} (h : TyX K H v t) (s : ∀ a o, v = .ref a → H a = some o → H' a = some o) : TyX K H' v t := by
  cases h with
  | base b =>
    cases b with
    | non => exact .base .non
    | bl y => exact .base (.bl y)
    | int i => exact .base (.int i)
    | str y => exact .base (.str y)
    | flt y => exact .base (.flt y)
    | lst e => exact .base (.lst (s _ _ rfl e))
    | frz e => exact .base (.frz (s _ _ rfl e))
    | tup e => exact .base (.tup (s _ _ rfl e))
    | dK e => exact .base (.dK (s _ _ rfl e))
    | dT e => exact .base (.dT (s _ _ rfl e))
    | ins e cl ha hn htk hm => exact .base (.ins (s _ _ rfl e) cl ha hn htk hm)
  | byt b => exact .byt b
  | set e => exact .set (s _ _ rfl e)
  | kList e c => exact .kList e c
  | kTuple e c => exact .kTuple e c
  | kDict e c => exact .kDict e c
  | fTuple e => exact .fTuple (s _ _ rfl e)
  | fDict e => exact .fDict (s _ _ rfl e)
theorem Thg.mono {K : PySem.W.Frag} {H H' : Hp} {v : V} {o : Option Str} (h : Thg K H v o) (s : ∀ a u, v = .ref a → H a = some u → H' a = some u) : Thg K H' v o := by
  cases h with
  | str z h => exact .str z h
  | oth v T t e => exact .oth v T (TyX.mono t s) e
/-! ### names -/
def letS : Str := "abcdefghijklmnopqrstuvwxyz"
def words3 : List V := [.str "show", .str "drop", .str "if"]
def isLet (c : Nat) : Bool := decide (c ∈ letS.cps.toList)
def isNm (z : Str) : Bool := (decide ((1 : Int) ≤ z.length) && decide ((z.length : Int) ≤ 4)) && (!inV (.str z) words3 && z.cps.toList.all isLet)
def nmO : Option Str → Bool
  | some z => isNm z
  | none => false
theorem all_id (cs : List Nat) (f : Nat → Bool) : (cs.map f).all id = cs.all f := by
  rw [List.all_map]
  rfl
theorem inV_sgns (c : Nat) (z : Str) : inV (sgn c) (sgns z) = decide (c ∈ z.cps.toList) := by
  unfold inV sgns
  rw [List.any_map]
  rw [Bool.eq_iff_iff, List.any_eq_true, decide_eq_true_eq]
  constructor
  · rintro ⟨x, hx, e⟩
    have e' : ((⟨#[x]⟩ : Str) == ⟨#[c]⟩) = true := e
    have e2 : (⟨#[x]⟩ : Str) = ⟨#[c]⟩ := by simpa using e'
    have e3 : x = c := by
      injection e2 with e3
      simpa using e3
    exact e3 ▸ hx
  · intro h
    refine ⟨c, h, ?_⟩
    show ((⟨#[c]⟩ : Str) == ⟨#[c]⟩) = true
    simp
/-! ### rules by a named K (within a comprehension's block the K is the def's) -/
section
variable {X : Cx} {K : PySem.W.Frag}
theorem ixK_list (h : X.K = K) : IxR X (rIxL K) := h ▸ ix_list
theorem ixK_tup (h : X.K = K) : IxR X (rIxT K) := h ▸ ix_tup
theorem inK_seq (h : X.K = K) : OpR X (compareOp .In) (rIn K false) := h ▸ op_in_seq
theorem notinK_seq (h : X.K = K) : OpR X (compareOp .NotIn) (rIn K true) := h ▸ op_notIn_seq
def rLen (K : PySem.W.Frag) : List V → Hp → VK → Prop := fun xs H Q => ∃ p ys, xs = [.ref p] ∧ (SqL K H p ys ∨ SqT K H p ys) ∧ Q (.int ys.length) H
theorem lenK (h : X.K = K) : CallR X (.builtin "len") (rLen K) := h ▸ call_len_seq
def rLst (K : PySem.W.Frag) : List V → Hp → VK → Prop := fun xs H Q => ∃ p ys, xs = [.ref p] ∧ (SqL K H p ys ∨ SqT K H p ys) ∧ ∀ l, H l = none → Q (.ref l) (upd H l (.lst ys))
theorem listK (h : X.K = K) : CallR X (.type "list") (rLst K) := h ▸ call_list_of
def rTpl (K : PySem.W.Frag) : List V → Hp → VK → Prop := fun xs H Q => ∃ p ys, xs = [.ref p] ∧ ((SqL K H p ys ∧ ∀ l, H l = none → Q (.ref l) (upd H l (.tup ys))) ∨ (SqT K H p ys ∧ Q (.ref p) H))
theorem tupleK (h : X.K = K) : CallR X (.type "tuple") (rTpl K) := h ▸ call_tuple_of
theorem allK (h : X.K = K) (hc : X.calm = true) : CallR X (.builtin "all") (rAll K) := h ▸ cr_all hc
theorem anyK (h : X.K = K) (hc : X.calm = true) : CallR X (.builtin "any") (rAny K) := h ▸ cr_any hc
theorem sumK (h : X.K = K) (hc : X.calm = true) : CallR X (.builtin "sum") (rSum K) := h ▸ cr_sum hc
theorem sortedSK (h : X.K = K) : CallR X (.builtin "sorted") (rSortedS K) := h ▸ cr_sortedS
theorem eqK_D (h : X.K = K) (hu : X.A.units + 64 < cLine) : OpR X (compareOp .Eq) (rEqD K) := h ▸ op_eqD hu
theorem neK_D (h : X.K = K) (hu : X.A.units + 64 < cLine) : OpR X (compareOp .NotEq) (rNeD K) := h ▸ op_neD hu
theorem isiK (h : X.K = K) : CallR X (.builtin "isinstance") (rIsi K) := h ▸ call_isi
theorem slK_list (h : X.K = K) : SlR X (rSlL K) := h ▸ sl_list
theorem slK_tup (h : X.K = K) : SlR X (rSlT K) := h ▸ sl_tup
theorem catK_T (h : X.K = K) : OpR X (binaryOp .Add) (rCatT K) := h ▸ op_catT
theorem piK_list {tg l : Expr} {tl : TE} (h : X.K = K) (hl : PE X l tl) : PI X tg l (iList K tl) := h ▸ pi_list hl
theorem piK_tup {tg l : Expr} {tl : TE} (h : X.K = K) (hl : PE X l tl) : PI X tg l (iTup K tl) := h ▸ pi_tup hl
def rJoin (K : PySem.W.Frag) : V → List V → Hp → VK → Prop := fun x xs H Q => ∃ a p, ∃ ys : List Str, x = .str a ∧ xs = [.ref p] ∧ (SqL K H p (ys.map V.str) ∨ SqT K H p (ys.map V.str)) ∧
    (ys.map (·.length)).sum + ys.length * a.length ≤ 16777216 ∧ Q (.str (Txt.join a ys)) H
theorem pe_joinK {o e : Expr} {to te : TE} {apos pos : Pos} (h : X.K = K) (ho : PE X o to) (he : PE X e te) (hs : starEach [e] X.env = [(false, eval e X.env)] := by rfl) (hbase : attributeBase o "join" X.env (eval o X.env) = eval o X.env := by rfl) (hline : (apos.endLine == pos.line) = true := by rfl) :
    PE X (.Call (.Attribute o "join" apos) [e] [] pos) (tM1 (rJoin K) to te) := h ▸ pe_join ho he hs hbase hline
theorem pe_revLK {e : Expr} {te : TE} {k : Nat} {p1 p2 p3 pos : Pos} (h : X.K = K) (he : PE X e te) : PE X (.Subscript e (.Slice none none (some (.UnaryOp .USub (.Constant (.int 1) k p1) p2)) p3) pos) (tRevL K te) := h ▸ pe_revL he
end
theorem Kp.upd {b D : Addr} {H H' : Hp} {o : HO} (k : Kp b H H') (h : H D = Option.none) (n : D ≠ b) : Kp b H (L2.upd H' D o) := by
  refine ⟨fun a u ha e => ?_, ?_⟩
  · rw [upd_ne (ne_of_none e h)]
    exact k.keep a u ha e
  · obtain ⟨g, m, e, r⟩ := k.bag
    exact ⟨g, m, by rw [upd_ne n.symm]; exact e, r⟩
/-- a comprehension over a range whose items are drawn from the bag -/
theorem lc_bag {te : TE} {i n : Nat} {lo : Int} {σ : L2.St} {H1 : Hp} {D b : Addr} {Qd : Hp → Prop} (F : Hp → V → Prop) (hz : n < sizeLine) (nD : H1 D = none) (hB : Bag H1 b)
    (hk : ∀ H H' y, F H y → (∀ a o, y = .ref a → H a = some o → H' a = some o) → F H' y)
    (hs : ∀ (k : Nat) (H : Hp) (Q : VK), k < n → Kp b H1 H → (∀ y H', F H' y → (∀ a, y = .ref a → H a = none) → Kp b H H' → Q y H') → te ((wipe σ [i]).set i (some (.int (lo + k)))) H Q)
    (hd : ∀ H ys, Kp b H1 H → H D = some (.lst ys) → ys.length = n → (∀ y ∈ ys, y ≠ .ref b ∧ y ≠ .ref D ∧ F H y) → Qd H) :
    ∃ W : Nat → Nat → Hp → Prop, (∃ m, W 0 m (upd H1 D (.lst []))) ∧ ∀ k m H, W k m H →
      ((Itr lo n).stop k H ∧ Qd H) ∨ ((Itr lo n).go k H ∧ ∃ Nx : Hp → Prop, (∀ H', Nx H' → ∃ m', m' < m ∧ W (k + 1) m' H') ∧ ∀ x H', (Itr lo n).yld k H x H' → gName i x (wipe σ [i]) H' fun σ2 H2 => wipe σ2 [i] = wipe σ [i] ∧ tYes σ2 H2 fun b H3 =>
        if b = true then te σ2 H3 fun y H4 => ∃ acc, H4 D = some (.lst acc) ∧ acc.length < sizeLine ∧ Nx (upd H4 D (.lst (acc ++ [y]))) else Nx H3) := by
  have nb : D ≠ b := hB.ne nD
  refine lc_range (fun k H => Kp b H1 H ∧ ∃ ys, H D = some (.lst ys) ∧ ys.length = k ∧ ∀ y ∈ ys, y ≠ .ref b ∧ y ≠ .ref D ∧ F H y) ⟨(Kp.refl hB).upd nD nb, [], upd_same, rfl, fun y h => by cases h⟩ ?_ (fun H p => by
    obtain ⟨k, ys, e, l, f⟩ := p
    exact hd H ys k e l f)
  rintro k H hkn ⟨kp, ys, e, l, f⟩
  refine ⟨wipe1 σ i _, tyes ?_⟩
  refine hs k H _ hkn kp fun y H' fy fr kp' => ?_
  have e' : H' D = some (.lst ys) := kp'.keep D _ nb e
  refine ⟨ys, e', by omega, (kp.trans kp').upd nD nb, ys ++ [y], upd_same, by rw [List.length_append, l]; rfl, fun x hx => ?_⟩
  have yb : y ≠ .ref b := fun q => by
    have h := fr b q
    obtain ⟨g, m, e2, _⟩ := kp.bag
    rw [h] at e2
    cases e2
  have yD : y ≠ .ref D := fun q => by
    have h := fr D q
    rw [h] at e
    cases e
  rcases List.mem_append.mp hx with hx | hx
  · obtain ⟨x1, x2, x3⟩ := f x hx
    refine ⟨x1, x2, hk _ _ _ x3 fun a o ea h => ?_⟩
    have na : a ≠ D := fun q => x2 (by rw [ea, q])
    rw [upd_ne na]
    exact kp'.keep a o (fun q => x1 (by rw [ea, q])) h
  · obtain rfl : x = y := by simpa using hx
    refine ⟨yb, yD, hk _ _ _ fy fun a o ea h => ?_⟩
    rw [upd_ne (fun q => yD (by rw [ea, q]))]
    exact h
/-! ### texts by their signs -/
def mkS (cs : List Nat) : Str := ⟨cs.toArray⟩
theorem tl_mkS (cs : List Nat) : tl (mkS cs) = cs := rfl
theorem len_mkS (cs : List Nat) : (mkS cs).length = cs.length := by
  show cs.toArray.size = cs.length
  exact List.size_toArray
theorem ext_tl {x y : Str} (h : tl x = tl y) : x = y := by
  cases x with
  | mk a =>
    cases y with
    | mk b =>
      have : a.toList = b.toList := h
      rw [Array.toList_inj.mp this]
theorem joinL_nil : ∀ cs : List Nat, joinL [] (cs.map fun c => [c]) = cs
  | [] => rfl
  | [c] => rfl
  | c :: d :: r => by
    show [c] ++ ([] ++ joinL [] ((d :: r).map fun c => [c])) = c :: d :: r
    rw [joinL_nil (d :: r)]
    rfl
theorem join_signs (cs : List Nat) : Txt.join "" (cs.map fun c => (⟨#[c]⟩ : Str)) = mkS cs := by
  refine ext_tl ?_
  rw [join_eq, tl_join, List.map_map, tl_mkS]
  exact joinL_nil cs
theorem signs_sum : ∀ cs : List Nat, ((cs.map fun c => (⟨#[c]⟩ : Str)).map (·.length)).sum = cs.length
  | [] => rfl
  | c :: r => by
    have h := signs_sum r
    rw [List.map_cons, List.map_cons, List.sum_cons, h, List.length_cons]
    show 1 + r.length = r.length + 1
    omega
theorem at_in {α : Type} {xs : List α} {z : Int} (h0 : 0 ≤ z) (h : z.toNat < xs.length) : atI xs z = some xs[z.toNat] := by
  have e : z = ((z.toNat : Nat) : Int) := by omega
  have q : atI xs ((z.toNat : Nat) : Int) = some xs[z.toNat] := atI_nat (List.getElem?_eq_getElem h)
  rw [← e] at q
  exact q
theorem Kp.out {b : Addr} {H0 H1 H2 : Hp} (k : Kp b H1 H2) (s : Same H0 H1) (n : H0 b = Option.none) : Same H0 H2 := fun a o e =>
  k.keep a o (ne_of_none e n) (s a o e)
def spLaw (K : PySem.W.Frag) : Sp := fun vs H Q _ => ∃ (a : Addr) (ns : List Int), vs = [.ref a] ∧ SqL K H a (ns.map V.int) ∧ ns.length ≤ 63 ∧ ∀ H', Q (.bl true) H'
end Fc

set_option Elab.async false
set_option linter.all false
set_option maxRecDepth 100000
set_option maxHeartbeats 4000000
namespace Fc
open PySem PySem.Spec PyProof.Rows L2 TL

def topS (i : Nat) : Stmt := PySem.Challenge.pw_freshcells_k01_names.main.body.getD i (.Pass ⟨0, 0, 0, 0⟩)

structure Txt (K : PySem.W.Frag) (mg : Str → Option Value) : Prop where
  n_len : mg "len" = none
  n_isinstance : mg "isinstance" = none
  n_range : mg "range" = none
  n_all : mg "all" = none
  n_list : mg "list" = none
  n_str : mg "str" = none
  n_bool : mg "bool" = none
  n_abs : mg "abs" = none
  n_min : mg "min" = none
  n_max : mg "max" = none
  g_LETTERS : ∃ t, mg "LETTERS" = some (.str "abcdefghijklmnopqrstuvwxyz" t)
  g_WORDS : ∃ a, mg "WORDS" = some (.ref a) ∧ ∀ H, SqT K H a [.str "show", .str "drop", .str "if"]
  g_MOST_SIGNS : ∃ t, mg "MOST_SIGNS" = some (.int 4 t)
section
variable {P : Program} {w : World} {K : PySem.W.Frag} {mg : Str → Option Value} {base : Heap}
abbrev s_Ltake : Stmt := topS 7
abbrev n_Ltake : List Str := ["_law_bag_here", "_law_many", "_law_digit"]
abbrev p_Ltake : List Str := ["_law_bag_here", "_law_many"]
theorem sc_Ltake : FnScope n_Ltake p_Ltake (defScope s_Ltake) := ⟨rfl, rfl, rfl, by decide +kernel, rfl, by decide +kernel, by decide +kernel⟩
def spTake : Sp := fun vs H Q _ => ∃ (b : Addr) (m : Int), vs = [.ref b, .int m] ∧ Bag H b ∧ 0 < m ∧ m < 1073741824 ∧ ∀ (r : Int) (H' : Hp), 0 ≤ r → r < m → Kp b H H' → Q (.int r) H'
theorem d_Ltake (S : Src K mg "_law_take" s_Ltake p_Ltake) : Dn P w K mg base "_law_take" 1 p_Ltake spTake := by
  refine S.ok sc_Ltake (fun vs H Q E h => ?_) (fun f cdv A outer s H vs Q E hr h => ?_)
  · obtain ⟨b, m, rfl, _⟩ := h
    rfl
  · obtain ⟨b, m, rfl, hB, m0, m1, q⟩ := h
    obtain ⟨g, z, hb, g0, z0, z1⟩ := hB
    refine ⟨_, (pss_cons (ps_if (pt_cmpR op_gt (pe_ix (ixK_list (K := K) rfl) (pv 0) pe_int (fun _ _ => rfl)) pe_int (nomark _)) (pss_cons (ps_set (i := 2) sc_Ltake.nd rfl (Or.inl rfl) (pe_op op_modN (pe_ix (ixK_list (K := K) rfl) (pv 0) pe_int (fun _ _ => rfl)) (pv 1)))
    (pss_cons (ps_asg (pe_op op_fdivN (pe_ix (ixK_list (K := K) rfl) (pv 0) pe_int (fun _ _ => rfl)) (pv 1)) (pg_sub (pv 0) pe_int set_list))
    (pss_one (ps_ret (pv 2))))) pss_nil)
    (pss_cons (ps_asg (pe_op op_mod (pe_op op_add (pe_op op_mul (pe_ix (ixK_list (K := K) rfl) (pv 0) pe_int (fun _ _ => rfl)) pe_int) pe_int) pe_int) (pg_sub (pv 0) pe_int set_list))
    (pss_one (ps_ret (pe_op op_modN (pe_op op_fdivN (pe_op op_mod (pe_op op_pow (pe_ix (ixK_list (K := K) rfl) (pv 0) pe_int (fun _ _ => rfl)) pe_int) pe_int) pe_int) (pv 1)))))), ?_⟩
    refine ⟨_, rfl, b, _, 0, .int g, rfl, rfl, SqL.of hb, rfl, g, 0, rfl, rfl, _, rfl, ite2 (fun h => ?_) (fun h => ?_)⟩
    · refine ⟨_, rfl, b, _, 0, .int g, rfl, rfl, SqL.of hb, rfl, _, rfl, g, m, rfl, rfl, (show m ≠ 0 by omega), ?_⟩
      refine ⟨_, rfl, b, _, 0, .int g, rfl, rfl, SqL.of hb, rfl, _, rfl, g, m, rfl, rfl, ⟨(show m ≠ 0 by omega), (show m.natAbs < 1073741824 by omega)⟩, _, rfl, b, _, 0, 0, rfl, rfl, hb, rfl, _, rfl, ?_⟩
      refine q _ _ (Int.fmod_nonneg_of_pos g m0) (Int.fmod_lt_of_pos g m0) ⟨fun a o n e => ?_, _, z, upd_same, ?_, z0, z1⟩
      · rw [upd_ne n]
        exact e
      · rw [Int.fdiv_eq_ediv_of_nonneg g (by omega)]
        exact Int.ediv_nonneg g0 (by omega)
    · refine ⟨_, rfl, b, _, 1, .int z, rfl, rfl, SqL.of hb, rfl, z, 69621, rfl, rfl, .inl ⟨by omega, by omega⟩, _, _, rfl, rfl, _, _, rfl, rfl, (by show (0 : Int) < 2147483647; decide), _, rfl, b, _, 1, 1, rfl, rfl, hb, rfl, ?_⟩
      have y0 : 0 ≤ (z * 69621 + 1299709) % 2147483647 := Int.emod_nonneg _ (by decide)
      have y1 : (z * 69621 + 1299709) % 2147483647 < 2147483647 := Int.emod_lt_of_pos _ (by decide)
      refine ⟨_, rfl, b, _, 1, .int ((z * 69621 + 1299709) % 2147483647), rfl, rfl, SqL.of upd_same, rfl, _, 3, rfl, rfl, ⟨by decide, by decide, (show ((z * 69621 + 1299709) % 2147483647).natAbs < 2 ^ 64 by omega)⟩, _, _, rfl, rfl, (by show (0 : Int) < 2147483629; decide), _, _, rfl, rfl, ⟨by decide, by decide⟩, _, rfl, _, m, rfl, rfl, (show m ≠ 0 by omega), ?_⟩
      refine q _ _ (Int.fmod_nonneg_of_pos _ m0) (Int.fmod_lt_of_pos _ m0) ⟨fun a o n e => ?_, _, (z * 69621 + 1299709) % 2147483647, upd_same, g0, y0, by omega⟩
      rw [upd_ne n]
      exact e

abbrev s_Lbag : Stmt := topS 9
abbrev n_Lbag : List Str := ["_law_script", "_law_at", "_law_cell", "_law_great", "_law_primes", "_law_mixed"]
abbrev p_Lbag : List Str := ["_law_script", "_law_at"]
theorem sc_Lbag : FnScope n_Lbag p_Lbag (defScope s_Lbag) := ⟨rfl, rfl, rfl, by decide +kernel, rfl, by decide +kernel, by decide +kernel⟩
def spBag (K : PySem.W.Frag) : Sp := fun vs H Q _ => ∃ (a : Addr) (ns : List Int) (i : Nat), vs = [.ref a, .int i] ∧ SqL K H a (ns.map V.int) ∧ ns.length ≤ 63 ∧ i < 100 ∧ ∀ (b : Addr) (H' : Hp), H b = none → Same H H' → Bag H' b → Q (.ref b) H'
def primes8 : List Int := [2147483647, 2147483629, 2147483587, 2147483579, 2147483563, 2147483549, 2147483543, 2147483497]
theorem primes_at (j : Nat) (h : j < 8) : ∃ p : Int, (primes8.map V.int)[j]? = some (.int p) ∧ 0 < p ∧ p < 2147483648 := by
  match j, h with
  | 0, _ => exact ⟨_, rfl, by decide, by decide⟩
  | 1, _ => exact ⟨_, rfl, by decide, by decide⟩
  | 2, _ => exact ⟨_, rfl, by decide, by decide⟩
  | 3, _ => exact ⟨_, rfl, by decide, by decide⟩
  | 4, _ => exact ⟨_, rfl, by decide, by decide⟩
  | 5, _ => exact ⟨_, rfl, by decide, by decide⟩
  | 6, _ => exact ⟨_, rfl, by decide, by decide⟩
  | 7, _ => exact ⟨_, rfl, by decide, by decide⟩
theorem d_Lbag (S : Src K mg "_law_bag" s_Lbag p_Lbag) (T : Txt K mg) : Dn P w K mg base "_law_bag" 1 p_Lbag (spBag K) := by
  refine S.ok sc_Lbag (fun vs H Q E h => ?_) (fun f cdv A outer s H vs Q E hr h => ?_)
  · obtain ⟨a, ns, i, rfl, _⟩ := h
    rfl
  · obtain ⟨a, ns, i, rfl, hS, hl, hi, q⟩ := h
    refine ⟨_, (pss_cons (ps_set (i := 2) sc_Lbag.nd rfl (Or.inl rfl) pe_int)
    (C8.pss_cut (ps_if (pt_cmpR op_lt (pv 1) (pe_callB (lenK (K := K) rfl) (by rfl) T.n_len (by decide +kernel) (pa_cons (pv 0) pa_nil)) (nomark _)) (pss_one (ps_set (i := 2) sc_Lbag.nd rfl (Or.inl rfl) (pe_ix (ixK_list (K := K) rfl) (pv 0) (pv 1) (fun _ _ => rfl)))) pss_nil)
    (pss_cons (ps_set (i := 3) sc_Lbag.nd rfl (Or.inl rfl) pe_int)
    (C8.pss_cut (ps_if (pt_cmpR op_ge (pe_callB call_abs (by rfl) T.n_abs (by decide +kernel) (pa_cons (pv 2) pa_nil)) (pe_op op_pow pe_int pe_int) (nomark _)) (pss_one (ps_set (i := 3) sc_Lbag.nd rfl (Or.inl rfl) (pe_callB call_abs (by rfl) T.n_abs (by decide +kernel) (pa_cons (pv 2) pa_nil)))) pss_nil)
    (pss_cons (ps_set (i := 4) sc_Lbag.nd rfl (Or.inl rfl) (pe_lst (pa_cons pe_int (pa_cons pe_int (pa_cons pe_int (pa_cons pe_int (pa_cons pe_int (pa_cons pe_int (pa_cons pe_int (pa_cons pe_int pa_nil))))))))))
    (pss_cons (ps_set (i := 5) sc_Lbag.nd rfl (Or.inl rfl) (pe_op op_add (pe_op op_add (pe_op op_add (pe_op op_mul (pe_op op_mod (pv 2) pe_int) pe_int) (pe_op op_mul (pe_op op_mul pe_int (pv 1)) (pv 1))) (pe_op op_mul pe_int (pv 1))) pe_int))
    (pss_one (ps_ret (pe_lst (pa_cons (pv 3) (pa_cons (pe_op op_modN (pv 5) (pe_ix (ixK_list (K := K) rfl) (pv 4) (pe_op op_mod (pv 1) pe_int) (fun _ _ => rfl))) pa_nil))))))))))), ?_⟩
    refine ⟨fun σ' H' => ∃ c : Int, H = H' ∧ σ' = [some (.ref a), some (.int i), some (.int c), none, none, none], ?_, ?_⟩
    · refine ⟨_, rfl, _, rfl, a, _, rfl, .inl hS, i, _, rfl, rfl, _, rfl, ite2 (fun h => ?_) (fun h => ⟨_, rfl, rfl⟩)⟩
      have h' : i < ns.length := by
        have q := of_decide_eq_true h
        rw [List.length_map] at q
        omega
      exact ⟨_, rfl, _, rfl, a, _, i, _, rfl, rfl, hS, atI_nat (by rw [List.getElem?_map, List.getElem?_eq_getElem h']; rfl), _, rfl, rfl⟩
    rintro _ _ ⟨c, rfl, rfl⟩
    refine ⟨fun σ' H1 => ∃ d : Int, 0 ≤ d ∧ H = H1 ∧ σ' = [some (.ref a), some (.int i), some (.int c), some (.int d), none, none], ?_, ?_⟩
    · refine ⟨_, rfl, c, rfl, 10, 18, rfl, rfl, ⟨by decide, by decide, by decide⟩, _, _, rfl, rfl, _, rfl, ite2 (fun h => ⟨_, rfl, c, rfl, _, ?_, rfl, rfl⟩) (fun h => ⟨0, by decide, rfl, rfl⟩)⟩
      split <;> omega
    rintro _ _ ⟨d, d0, rfl, rfl⟩
    obtain ⟨p, hp, p0, p1⟩ := primes_at (i % 8) (Nat.mod_lt _ (by decide))
    refine ⟨by show 8 ≤ sizeLine; decide, fun r hr' => ?_⟩
    have e1 : ((i : Int) % 8) = ((i % 8 : Nat) : Int) := by omega
    have c0 : 0 ≤ c % 2147483647 := Int.emod_nonneg _ (by decide)
    have c1 : c % 2147483647 < 2147483647 := Int.emod_lt_of_pos _ (by decide)
    refine ⟨_, rfl, c, 2147483647, rfl, rfl, (by show (0 : Int) < 2147483647; decide), c % 2147483647, 48611, rfl, rfl, .inl ⟨by omega, by omega⟩, _, rfl, 90007, i, rfl, rfl, .inl ⟨by decide, by decide⟩, _, rfl, _, i, rfl, rfl, .inr ⟨by omega, by omega⟩, _, _, rfl, rfl, _, rfl, 6133, i, rfl, rfl, .inl ⟨by decide, by decide⟩, _, _, rfl, rfl, _, _, rfl, rfl, ?_⟩
    refine ⟨_, rfl, _, rfl, _, rfl, _, rfl, i, 8, rfl, rfl, (by show (0 : Int) < 8; decide), r, primes8.map V.int, _, .int p, rfl, rfl, SqL.of upd_same, at_of e1 hp, _, p, rfl, rfl, (show p ≠ 0 by omega), by show 2 ≤ sizeLine; decide, fun b hb => ?_⟩
    have hb' : H b = none := (same_upd hr').free hb
    refine q b _ hb' ((same_upd hr').trans (same_upd hb)) ⟨d, _, upd_same, d0, Int.fmod_nonneg_of_pos _ p0, ?_⟩
    exact Int.lt_trans (Int.fmod_lt_of_pos _ p0) p1

abbrev s_is_name : Stmt := topS 4
abbrev n_is_name : List Str := ["thing", "sign"]
abbrev p_is_name : List Str := ["thing"]
theorem sc_is_name : FnScope n_is_name p_is_name (defScope s_is_name) := ⟨rfl, rfl, rfl, by decide +kernel, rfl, by decide +kernel, by decide +kernel⟩
def spIsName (K : PySem.W.Frag) : Sp := fun vs H Q _ => ∃ (v : V) (o : Option Str), vs = [v] ∧ Thg K H v o ∧ ∀ H', Same H H' → Q (.bl (nmO o)) H'
theorem d_is_name (S : Src K mg "is_name" s_is_name p_is_name) (T : Txt K mg) : Dn P w K mg base "is_name" 1 p_is_name (spIsName K) := by
  refine S.ok sc_is_name (fun vs H Q E h => ?_) (fun f cdv A outer s H vs Q E hr h => ?_)
  · obtain ⟨v, o, rfl, _⟩ := h
    rfl
  · obtain ⟨v, o, rfl, ht, q⟩ := h
    obtain ⟨_, g_LETTERS⟩ := T.g_LETTERS
    obtain ⟨_, g_MOST_SIGNS⟩ := T.g_MOST_SIGNS
    obtain ⟨a_WORDS, g_WORDS, h_WORDS⟩ := T.g_WORDS
    refine ⟨_, (pss_cons (ps_if (PW.pt (pw_or (pt_not (pt_val (pe_callB (isiK (K := K) rfl) (by rfl) T.n_isinstance (by decide +kernel) (pa_cons (pv 0) (pa_cons (pe_bltn (v := .ty "str") (by rfl) T.n_str (by decide +kernel) rfl) pa_nil))))) (pw_or1 (pt_not (pt_chain op_le op_le pe_int (pe_callB call_len_str (by rfl) T.n_len (by decide +kernel) (pa_cons (pv 0) pa_nil)) (pe_glob (v := .int _) (by rfl) g_MOST_SIGNS ⟨_, rfl⟩)))))) (pss_one (ps_ret pe_bl)) pss_nil)
    (pss_one (ps_ret (pe_and (pe_cmpR (notinK_seq (K := K) rfl) (pv 0) (pe_glob (v := .ref _) (by rfl) g_WORDS rfl) (by rfl)) (pe_one (pe_callB (allK (K := K) rfl rfl) (by rfl) T.n_all (by decide +kernel) (pa_cons (pe_lc (own := [("sign", 1)]) (g := gName 1) (tt := tYes) rfl sc_is_name.nd (pi_str (pv 0)) (blkOk_by (own := [("sign", 1)]) (N := n_is_name) (sc := defScope s_is_name) (by decide +kernel)) (fun _ _ _ _ _ => pg_name (i := 1) sc_is_name.nd rfl (Or.inl rfl)) (fun _ _ _ _ _ => pts_nil) (fun _ _ _ _ _ => (pe_cmpR op_in_sign (pv 1) (pe_glob (v := .str _) (by rfl) g_LETTERS ⟨_, rfl⟩) (by rfl)))) pa_nil))))))), ?_⟩
    have q0 : nmO o = false → Q (.bl false) H := fun e => by
      have h := q H (Same.refl H)
      rw [e] at h
      exact h
    obtain ⟨u, tu, ku⟩ := ht.isi
    refine ⟨_, rfl, _, _, _, _, _, rfl, .ty _, tu, ku, _, rfl, ?_⟩
    cases ht with
    | oth v T' t e => exact iteT (iteT (q0 rfl))
    | str z hz =>
      refine iteF ⟨_, rfl, z, rfl, Nat.le_trans hz (by decide), 1, _, rfl, rfl, _, rfl, ite2 (fun h1 => ?_) (fun h1 => ?_)⟩
      · refine ⟨_, 4, rfl, rfl, _, rfl, ?_⟩
        by_cases h2 : ((z.length : Nat) : Int) ≤ 4
        · rw [decide_eq_true h2]
          refine iteF ⟨_, rfl, a_WORDS, words3, rfl, .inr (h_WORDS _), rfl, rfl, !inV (.str z) words3, rfl, ite2 (fun h3 => ?_) (fun h3 => ?_)⟩
          · refine ⟨_, rfl, z, rfl, fun D nD => ?_⟩
            refine lc_map (sgns z) (z.cps.toList.map fun c => V.bl (isLet c)) walk_sgn rfl (by rw [sgns_length, List.length_map, Array.length_toList]; rfl) (by rw [sgns_length]; exact Nat.lt_of_le_of_lt hz (by decide)) nD (fun _ _ => trivial) ?_ ?_
            · intro j x y H' Q' sm hx hy k
              unfold sgns at hx
              rw [List.getElem?_map] at hx hy
              cases hc : z.cps.toList[j]? with
              | none =>
                rw [hc] at hx
                cases hx
              | some c =>
                rw [hc] at hx hy
                have ex : sgn c = x := Option.some.inj hx
                have ey : V.bl (isLet c) = y := Option.some.inj hy
                rw [← ey] at k
                rw [← ex]
                exact ⟨_, rfl, c, letS, rfl, rfl, k _ (fun _ _ _ e => e) fun _ e => e⟩
            · intro H' sm e
              refine ⟨_, z.cps.toList.map isLet, rfl, SqL.of (by rw [e, List.map_map]; rfl), ?_⟩
              have h := q H' sm
              have e2 : nmO (some z) = (z.cps.toList.map isLet).all id := by
                rw [all_id]
                show ((decide ((1 : Int) ≤ z.length) && decide ((z.length : Int) ≤ 4)) && (!inV (.str z) words3 && z.cps.toList.all isLet)) = _
                rw [h1, h3, decide_eq_true h2]
                rfl
              rw [e2] at h
              exact h
          · refine q0 ?_
            show ((decide ((1 : Int) ≤ z.length) && decide ((z.length : Int) ≤ 4)) && (!inV (.str z) words3 && z.cps.toList.all isLet)) = false
            rw [Bool.eq_false_iff.mpr h3]
            simp
        · rw [decide_eq_false h2]
          refine iteT (q0 ?_)
          show ((decide ((1 : Int) ≤ z.length) && decide ((z.length : Int) ≤ 4)) && (!inV (.str z) words3 && z.cps.toList.all isLet)) = false
          rw [decide_eq_false h2]
          simp
      · refine ⟨_, rfl, iteT (q0 ?_)⟩
        show ((decide ((1 : Int) ≤ z.length) && decide ((z.length : Int) ≤ 4)) && (!inV (.str z) words3 && z.cps.toList.all isLet)) = false
        rw [Bool.eq_false_iff.mpr h1]
        simp

abbrev s_Lis_name : Stmt := topS 10
abbrev n_Lis_name : List Str := ["_law_thing", "_law_letters", "_law_one"]
abbrev p_Lis_name : List Str := ["_law_thing"]
theorem sc_Lis_name : FnScope n_Lis_name p_Lis_name (defScope s_Lis_name) := ⟨rfl, rfl, rfl, by decide +kernel, rfl, by decide +kernel, by decide +kernel⟩
theorem d_Lis_name (S : Src K mg "_law_is_name" s_Lis_name p_Lis_name) (T : Txt K mg) : Dn P w K mg base "_law_is_name" 1 p_Lis_name (spIsName K) := by
  refine S.ok sc_Lis_name (fun vs H Q E h => ?_) (fun f cdv A outer s H vs Q E hr h => ?_)
  · obtain ⟨v, o, rfl, _⟩ := h
    rfl
  · obtain ⟨v, o, rfl, ht, q⟩ := h
    refine ⟨_, (pss_cons (ps_if (PW.pt (pw_or (pt_not (pt_val (pe_callB (isiK (K := K) rfl) (by rfl) T.n_isinstance (by decide +kernel) (pa_cons (pv 0) (pa_cons (pe_bltn (v := .ty "str") (by rfl) T.n_str (by decide +kernel) rfl) pa_nil))))) (pw_or1 (pt_cmpR (inK_seq (K := K) rfl) (pv 0) (pe_lst (pa_cons pe_str (pa_cons pe_str (pa_cons pe_str pa_nil)))) (by rfl))))) (pss_one (ps_ret pe_bl)) pss_nil)
    (pss_cons (ps_set (i := 1) sc_Lis_name.nd rfl (Or.inr rfl) (pe_callTy (call_list_txt rfl) (by rfl) T.n_list (by decide +kernel) (pa_cons pe_str pa_nil)))
    (pss_one (ps_ret (pe_and (pe_chain op_le op_le pe_int (pe_callB call_len_str (by rfl) T.n_len (by decide +kernel) (pa_cons (pv 0) pa_nil)) pe_int) (pe_one (pe_callB (allK (K := K) rfl rfl) (by rfl) T.n_all (by decide +kernel) (pa_cons (pe_lc (own := [("_law_one", 2)]) (g := gName 2) (tt := tYes) rfl sc_Lis_name.nd (pi_str (pv 0)) (blkOk_by (own := [("_law_one", 2)]) (N := n_Lis_name) (sc := defScope s_Lis_name) (by decide +kernel)) (fun _ _ _ _ _ => pg_name (i := 2) sc_Lis_name.nd rfl (Or.inl rfl)) (fun _ _ _ _ _ => pts_nil) (fun _ _ _ _ _ => (pe_cmpR (inK_seq (K := K) rfl) (pv 2) (pv 1) (by rfl)))) pa_nil)))))))), ?_⟩
    have q0 : nmO o = false → ∀ H', Same H H' → Q (.bl false) H' := fun e H' sm => by
      have h := q H' sm
      rw [e] at h
      exact h
    obtain ⟨u, tu, ku⟩ := ht.isi
    refine ⟨_, rfl, _, _, _, _, _, rfl, .ty _, tu, ku, _, rfl, ?_⟩
    cases ht with
    | oth v T' t e => exact iteT (iteT (q0 rfl H (Same.refl H)))
    | str z hz =>
      refine iteF ⟨_, rfl, by show 3 ≤ sizeLine; decide, fun p np => ⟨p, words3, rfl, .inl (SqL.of upd_same), rfl, rfl, inV (.str z) words3, rfl, ite2 (fun h3 => q0 ?_ _ (same_upd np)) (fun h3 => ?_)⟩⟩
      · show ((decide ((1 : Int) ≤ z.length) && decide ((z.length : Int) ≤ 4)) && (!inV (.str z) words3 && z.cps.toList.all isLet)) = false
        rw [h3]
        simp
      have s1 := same_upd (o := .lst words3) np
      refine ⟨letS, rfl, by decide, fun l nl => ?_⟩
      have s2 := s1.trans (same_upd (o := .lst (sgns letS)) nl)
      have hl : (upd (upd H p (.lst words3)) l (.lst (sgns letS))) l = some (.lst (sgns letS)) := upd_same
      refine ⟨_, rfl, z, rfl, Nat.le_trans hz (by decide), 1, _, rfl, rfl, _, rfl, ite2 (fun h1 => ?_) (fun h1 => ⟨_, rfl, iteF (q0 ?_ _ s2)⟩)⟩
      · refine ⟨_, 4, rfl, rfl, _, rfl, ite2 (fun h2 => ?_) (fun h2 => q0 ?_ _ s2)⟩
        · refine ⟨_, rfl, z, rfl, fun D nD => ?_⟩
          refine lc_map (sgns z) (z.cps.toList.map fun c => V.bl (isLet c)) walk_sgn rfl (by rw [sgns_length, List.length_map, Array.length_toList]; rfl) (by rw [sgns_length]; exact Nat.lt_of_le_of_lt hz (by decide)) nD (fun _ _ => trivial) ?_ ?_
          · intro j x y H' Q' sm hx hy k
            unfold sgns at hx
            rw [List.getElem?_map] at hx hy
            cases hc : z.cps.toList[j]? with
            | none =>
              rw [hc] at hx
              cases hx
            | some c =>
              rw [hc] at hx hy
              have ex : sgn c = x := Option.some.inj hx
              have ey : V.bl (isLet c) = y := Option.some.inj hy
              rw [← ey] at k
              rw [← ex]
              refine ⟨_, rfl, _, rfl, l, sgns letS, rfl, .inl (SqL.of (sm _ _ hl)), rfl, by decide, ?_⟩
              show Q' (V.bl (inV (sgn c) (sgns letS))) H'
              rw [inV_sgns]
              exact k _ (fun _ _ _ e => e) fun _ e => e
          · intro H' sm e
            refine ⟨_, z.cps.toList.map isLet, rfl, SqL.of (by rw [e, List.map_map]; rfl), ?_⟩
            have h := q H' (s2.trans sm)
            have e2 : nmO (some z) = (z.cps.toList.map isLet).all id := by
              rw [all_id]
              show ((decide ((1 : Int) ≤ z.length) && decide ((z.length : Int) ≤ 4)) && (!inV (.str z) words3 && z.cps.toList.all isLet)) = _
              rw [h1, h2, Bool.eq_false_iff.mpr h3]
              rfl
            rw [e2] at h
            exact h
        · show ((decide ((1 : Int) ≤ z.length) && decide ((z.length : Int) ≤ 4)) && (!inV (.str z) words3 && z.cps.toList.all isLet)) = false
          rw [Bool.eq_false_iff.mpr h2]
          simp
      · show ((decide ((1 : Int) ≤ z.length) && decide ((z.length : Int) ≤ 4)) && (!inV (.str z) words3 && z.cps.toList.all isLet)) = false
        rw [Bool.eq_false_iff.mpr h1]
        simp

abbrev s_Lany_name : Stmt := topS 6
abbrev n_Lany_name : List Str := ["_law_bag_here", "_law_letters", "_law_found", "_law_turn"]
abbrev p_Lany_name : List Str := ["_law_bag_here"]
theorem sc_Lany_name : FnScope n_Lany_name p_Lany_name (defScope s_Lany_name) := ⟨rfl, rfl, rfl, by decide +kernel, rfl, by decide +kernel, by decide +kernel⟩
def spAnyName : Sp := fun vs H Q _ => ∃ (b : Addr), vs = [.ref b] ∧ Bag H b ∧ ∀ (z : Str) (H' : Hp), isNm z = true → Kp b H H' → Q (.str z) H'
theorem letS_at (r : Int) (h0 : 0 ≤ r) (h1 : r < 26) : ∃ c, atI letS.cps.toList r = some c ∧ isLet c = true := by
  have hl : letS.cps.toList.length = 26 := by decide +kernel
  have hr : r.toNat < letS.cps.toList.length := by omega
  refine ⟨letS.cps.toList[r.toNat], at_in h0 hr, ?_⟩
  unfold isLet
  exact decide_eq_true (List.getElem_mem hr)
theorem d_Lany_name (S : Src K mg "_law_any_name" s_Lany_name p_Lany_name) (T : Txt K mg) (D_Ltake : Dn P w K mg base "_law_take" 1 p_Ltake spTake) : Dn P w K mg base "_law_any_name" 2 p_Lany_name spAnyName := by
  refine S.ok sc_Lany_name (fun vs H Q E h => ?_) (fun f cdv A outer s H vs Q E hr h => ?_)
  · obtain ⟨b, rfl, _⟩ := h
    rfl
  · obtain ⟨b, rfl, hB, q⟩ := h
    refine ⟨_, (pss_cons (ps_set (i := 1) sc_Lany_name.nd rfl (Or.inr rfl) pe_str)
    (pss_cons (ps_set (i := 2) sc_Lany_name.nd rfl (Or.inl rfl) (pe_joinK (K := K) rfl pe_str (pe_lc (own := [("_law_turn", 3)]) (g := gName 3) (tt := tYes) rfl sc_Lany_name.nd (pi_range1 (by rfl) T.n_range (pa_cons (pe_op op_add pe_int (pe_fn D_Ltake (hr.mono (by decide)) (by rfl) (pa_cons (pv 0) (pa_cons pe_int pa_nil)))) pa_nil)) (blkOk_by (own := [("_law_turn", 3)]) (N := n_Lany_name) (sc := defScope s_Lany_name) (by decide +kernel)) (fun _ _ _ _ _ => pg_name (i := 3) sc_Lany_name.nd rfl (Or.inl rfl)) (fun _ _ _ _ _ => pts_nil) (fun _ _ _ _ _ => (pe_ix ix_str (pv 1) (pe_fn D_Ltake (hr.mono (by decide)) (by rfl) (pa_cons (pv 0) (pa_cons pe_int pa_nil))) (fun _ _ => rfl))))))
    (pss_one (ps_ret (pe_ifExp (pt_cmpR (inK_seq (K := K) rfl) (pv 2) (pe_lst (pa_cons pe_str (pa_cons pe_str (pa_cons pe_str pa_nil)))) (by rfl)) pe_str (pv 2)))))), ?_⟩
    refine ⟨⟨_, rfl⟩, _, rfl, b, 4, rfl, hB, by decide, by decide, fun r H1 r0 r1 k1 => ?_⟩
    refine ⟨1, r, rfl, rfl, 1 + r, rfl, by omega, by omega, fun D nD => ?_⟩
    refine lc_bag (b := b) (fun _ y => ∃ c, y = sgn c ∧ isLet c = true) (Nat.lt_of_le_of_lt (show (1 + r).toNat ≤ 4 by omega) (by decide)) nD k1.bag (fun _ _ _ h _ => h) ?_ ?_
    · intro k H2 Q2 hk kp qq
      refine ⟨_, rfl, _, rfl, b, 26, rfl, kp.bag, by decide, by decide, fun t H3 t0 t1 k3 => ?_⟩
      obtain ⟨c, hc, lc⟩ := letS_at t t0 t1
      exact ⟨letS, t, c, rfl, rfl, by decide, hc, qq _ _ ⟨c, rfl, lc⟩ (fun a e => by cases e) k3⟩
    · intro H2 ys kp eD hl hy
      obtain ⟨cs, rfl, hcs⟩ : ∃ cs : List Nat, ys = cs.map sgn ∧ ∀ c ∈ cs, isLet c = true := by
        clear eD hl
        induction ys with
        | nil => exact ⟨[], rfl, fun c h => by cases h⟩
        | cons y r ih =>
          obtain ⟨cs, e, f⟩ := ih fun x hx => hy x (List.mem_cons_of_mem _ hx)
          obtain ⟨_, _, c, e1, e2⟩ := hy y List.mem_cons_self
          refine ⟨c :: cs, by rw [e1, e]; rfl, fun d hd => ?_⟩
          rcases List.mem_cons.mp hd with rfl | hd
          · exact e2
          · exact f d hd
      rw [List.length_map] at hl
      refine ⟨"", D, cs.map fun c => ⟨#[c]⟩, rfl, rfl, .inl (SqL.of (by rw [eD, List.map_map]; rfl)), by rw [signs_sum, hl]; show (1 + r).toNat + _ * 0 ≤ _; omega, ?_⟩
      rw [join_signs]
      refine ⟨_, rfl, by show 3 ≤ sizeLine; decide, fun p np => ⟨p, words3, rfl, .inl (SqL.of upd_same), rfl, rfl, inV (.str (mkS cs)) words3, rfl, ite2 (fun h3 => ?_) (fun h3 => ?_)⟩⟩
      · exact q _ _ (by decide +kernel) ((k1.trans kp).same (same_upd np))
      · refine ⟨_, rfl, q _ _ ?_ ((k1.trans kp).same (same_upd np))⟩
        show ((decide ((1 : Int) ≤ (mkS cs).length) && decide (((mkS cs).length : Int) ≤ 4)) && (!inV (.str (mkS cs)) words3 && cs.all isLet)) = true
        rw [len_mkS, hl, Bool.eq_false_iff.mpr h3, List.all_eq_true.mpr hcs, decide_eq_true (by omega), decide_eq_true (by omega)]
        rfl

abbrev s_Lodd : Stmt := topS 8
abbrev n_Lodd : List Str := ["_law_bag_here", "_law_some_here"]
abbrev p_Lodd : List Str := ["_law_bag_here"]
theorem sc_Lodd : FnScope n_Lodd p_Lodd (defScope s_Lodd) := ⟨rfl, rfl, rfl, by decide +kernel, rfl, by decide +kernel, by decide +kernel⟩
def spOdd (K : PySem.W.Frag) : Sp := fun vs H Q _ => ∃ (b : Addr), vs = [.ref b] ∧ Bag H b ∧ ∀ (v : V) (o : Option Str) (H' : Hp), Thg K H' v o → (∀ a, v = .ref a → H a = none) → Kp b H H' → Q v H'
theorem d_Lodd (S : Src K mg "_law_odd" s_Lodd p_Lodd) (D_Ltake : Dn P w K mg base "_law_take" 1 p_Ltake spTake) : Dn P w K mg base "_law_odd" 2 p_Lodd (spOdd K) := by
  refine S.ok sc_Lodd (fun vs H Q E h => ?_) (fun f cdv A outer s H vs Q E hr h => ?_)
  · obtain ⟨b, rfl, _⟩ := h
    rfl
  · obtain ⟨b, rfl, hB, q⟩ := h
    refine ⟨_, (pss_cons (ps_set (i := 1) sc_Lodd.nd rfl (Or.inl rfl) (pe_lst (pa_cons pe_non (pa_cons pe_bl (pa_cons pe_bl (pa_cons pe_str (pa_cons pe_str (pa_cons (pe_tup pa_nil) (pa_cons (pe_lst pa_nil) (pa_cons (pe_lst (pa_cons pe_int pa_nil)) (pa_cons (pe_tup (pa_cons pe_int (pa_cons pe_int pa_nil))) (pa_cons (pe_un un_neg pe_int) (pa_cons pe_int (pa_cons (pe_op op_pow pe_int pe_int) (pa_cons pe_str (pa_cons pe_dnewK (pa_cons (pe_tup (pa_cons pe_str (pa_cons pe_int pa_nil))) (pa_cons pe_str pa_nil))))))))))))))))))
    (pss_one (ps_ret (pe_ix (ixK_list (K := K) rfl) (pv 1) (pe_fn D_Ltake (hr.mono (by decide)) (by rfl) (pa_cons (pv 0) (pa_cons pe_int pa_nil))) (fun _ _ => rfl))))), ?_⟩
    refine ⟨Nat.zero_le _, fun p1 n1 => ?_⟩
    have s1 := same_upd (o := .tup []) n1
    refine ⟨Nat.zero_le _, fun p2 n2 => ?_⟩
    have s2 := same_upd (o := .lst []) n2
    refine ⟨by show 1 ≤ sizeLine; decide, fun p3 n3 => ?_⟩
    have s3 := same_upd (o := .lst [.int 0]) n3
    refine ⟨by show 2 ≤ sizeLine; decide, fun p4 n4 => ?_⟩
    have s4 := same_upd (o := .tup [.int 0, .int 1]) n4
    refine ⟨1, rfl, 10, 39, rfl, rfl, ⟨by decide, by decide, by decide⟩, fun p5 n5 => ?_⟩
    have s5 := same_upd (o := .dK []) n5
    refine ⟨by show 2 ≤ sizeLine; decide, fun p6 n6 => ?_⟩
    have s6 := same_upd (o := .tup [.str "run", .int 1]) n6
    refine ⟨by show 16 ≤ sizeLine; decide, fun L nL => ?_⟩
    have t5 := s1.trans (s2.trans (s3.trans (s4.trans s5)))
    have f2 := s1.free n2
    have f3 := s1.free (s2.free n3)
    have f4 := s1.free (s2.free (s3.free n4))
    have f5 := s1.free (s2.free (s3.free (s4.free n5)))
    have f6 := t5.free n6
    have fL := t5.free (s6.free nL)
    have t6 := t5.trans s6
    have u1 := s6 p1 _ (s5 p1 _ (s4 p1 _ (s3 p1 _ (s2 p1 _ upd_same))))
    have u2 := s6 p2 _ (s5 p2 _ (s4 p2 _ (s3 p2 _ upd_same)))
    have u3 := s6 p3 _ (s5 p3 _ (s4 p3 _ upd_same))
    have u4 := s6 p4 _ (s5 p4 _ upd_same)
    have u5 := s6 p5 _ upd_same
    have all : ∀ v ∈ [V.non, .bl true, .bl false, .str "1", .str "", .ref p1, .ref p2, .ref p3, .ref p4, .int (-1), .int 0, .int (10 ^ (39 : Int).toNat), .str "a", .ref p5, .ref p6, .str "x = 1"],
        ∃ o, Thg K (upd (upd (upd (upd (upd (upd H p1 (.tup [])) p2 (.lst [])) p3 (.lst [.int 0])) p4 (.tup [.int 0, .int 1])) p5 (.dK [])) p6 (.tup [.str "run", .int 1])) v o ∧ ∀ a, v = .ref a → H a = none := by
      intro v hv
      have st : ∀ z : Str, z.length ≤ 2000 → ∃ o, Thg K (upd (upd (upd (upd (upd (upd H p1 (.tup [])) p2 (.lst [])) p3 (.lst [.int 0])) p4 (.tup [.int 0, .int 1])) p5 (.dK [])) p6 (.tup [.str "run", .int 1])) (.str z) o ∧ ∀ a, V.str z = .ref a → H a = none :=
        fun z hz => ⟨_, .str z hz, fun a e => by cases e⟩
      have it : ∀ i : Int, ∃ o, Thg K (upd (upd (upd (upd (upd (upd H p1 (.tup [])) p2 (.lst [])) p3 (.lst [.int 0])) p4 (.tup [.int 0, .int 1])) p5 (.dK [])) p6 (.tup [.str "run", .int 1])) (.int i) o ∧ ∀ a, V.int i = .ref a → H a = none :=
        fun i => ⟨_, .oth _ "int" (.base (.int i)) (by decide +kernel), fun a e => by cases e⟩
      have bt : ∀ i : Bool, ∃ o, Thg K (upd (upd (upd (upd (upd (upd H p1 (.tup [])) p2 (.lst [])) p3 (.lst [.int 0])) p4 (.tup [.int 0, .int 1])) p5 (.dK [])) p6 (.tup [.str "run", .int 1])) (.bl i) o ∧ ∀ a, V.bl i = .ref a → H a = none :=
        fun i => ⟨_, .oth _ "bool" (.base (.bl i)) (by decide +kernel), fun a e => by cases e⟩
      simp only [List.mem_cons, List.not_mem_nil, or_false] at hv
      rcases hv with rfl | rfl | rfl | rfl | rfl | rfl | rfl | rfl | rfl | rfl | rfl | rfl | rfl | rfl | rfl | rfl
      · exact ⟨_, .oth _ "NoneType" (.base .non) (by decide +kernel), fun a e => by cases e⟩
      · exact bt _
      · exact bt _
      · exact st _ (by decide)
      · exact st _ (by decide)
      · exact ⟨_, .oth _ "tuple" (.base (.tup u1)) (by decide +kernel), fun a e => by cases e; exact n1⟩
      · exact ⟨_, .oth _ "list" (.base (.lst u2)) (by decide +kernel), fun a e => by cases e; exact f2⟩
      · exact ⟨_, .oth _ "list" (.base (.lst u3)) (by decide +kernel), fun a e => by cases e; exact f3⟩
      · exact ⟨_, .oth _ "tuple" (.base (.tup u4)) (by decide +kernel), fun a e => by cases e; exact f4⟩
      · exact it _
      · exact it _
      · exact it _
      · exact st _ (by decide)
      · exact ⟨_, .oth _ "dict" (.base (.dK u5)) (by decide +kernel), fun a e => by cases e; exact f5⟩
      · exact ⟨_, .oth _ "tuple" (.base (.tup upd_same)) (by decide +kernel), fun a e => by cases e; exact f6⟩
      · exact st _ (by decide)
    have sL := same_put t6 (o := .lst [V.non, .bl true, .bl false, .str "1", .str "", .ref p1, .ref p2, .ref p3, .ref p4, .int (-1), .int 0, .int (10 ^ (39 : Int).toNat), .str "a", .ref p5, .ref p6, .str "x = 1"]) fL
    have kL := Kp.of hB sL
    refine ⟨_, rfl, _, rfl, b, 16, rfl, kL.bag, by decide, by decide, fun r H3 r0 r1 k3 => ?_⟩
    have hlt : r.toNat < [V.non, .bl true, .bl false, .str "1", .str "", .ref p1, .ref p2, .ref p3, .ref p4, .int (-1), .int 0, .int (10 ^ (39 : Int).toNat), .str "a", .ref p5, .ref p6, .str "x = 1"].length := by
      show r.toNat < 16
      omega
    have nLb : L ≠ b := hB.ne fL
    refine ⟨L, _, r, _, rfl, rfl, SqL.of (k3.keep L _ nLb upd_same), at_in r0 hlt, ?_⟩
    obtain ⟨o, th, fr⟩ := all _ (List.getElem_mem hlt)
    refine q _ o H3 (th.mono fun a u e1 e2 => ?_) fr (kL.trans k3)
    have na : a ≠ b := fun e => by
      have h := fr a e1
      obtain ⟨g, m, e3, _⟩ := hB
      rw [e, e3] at h
      cases h
    refine k3.keep a u na ?_
    rw [upd_ne (ne_of_none e2 nL)]
    exact e2

abbrev s_Lsome : Stmt := topS 11
abbrev n_Lsome : List Str := ["_law_bag_here", "_law_word", "_law_signs", "_law_one", "_law_at", "_law_words", "_law_some_here"]
abbrev p_Lsome : List Str := ["_law_bag_here"]
theorem sc_Lsome : FnScope n_Lsome p_Lsome (defScope s_Lsome) := ⟨rfl, rfl, rfl, by decide +kernel, rfl, by decide +kernel, by decide +kernel⟩
def spSome (K : PySem.W.Frag) : Sp := fun vs H Q _ => ∃ (b : Addr), vs = [.ref b] ∧ Bag H b ∧ ∀ (v : V) (o : Option Str) (H' : Hp), Thg K H' v o → (∀ a, v = .ref a → H a = none) → Kp b H H' → Q v H'
def signs15 : Str := "abz019 AZ_-=+.~"
def words15 : List Str := ["show", "drop", "if", "sho", "i", "iff", "dro", "drops", "shown", "wohs", "IF", "Drop", "fi", "", " "]
theorem words15_short : ∀ z ∈ words15, z.length ≤ 10 := by decide +kernel
theorem cutS_le (z : Str) (lo hi : Option Int) : (cutS z lo hi).length ≤ z.length := by
  unfold cutS
  show (List.toArray _).size ≤ _
  rw [List.size_toArray, List.length_take, List.length_drop]
  show _ ≤ z.cps.size
  rw [← Array.length_toList]
  omega
theorem len_append (x y : Str) : (x ++ y).length = x.length + y.length := by
  rw [len_tl, len_tl x, len_tl y, tl_append, List.length_append]
theorem d_Lsome (S : Src K mg "_law_some" s_Lsome p_Lsome) (T : Txt K mg) (D_Ltake : Dn P w K mg base "_law_take" 1 p_Ltake spTake) (D_Lany_name : Dn P w K mg base "_law_any_name" 2 p_Lany_name spAnyName)
    (D_Lodd : Dn P w K mg base "_law_odd" 2 p_Lodd (spOdd K)) : Dn P w K mg base "_law_some" 3 p_Lsome (spSome K) := by
  refine S.ok sc_Lsome (fun vs H Q E h => ?_) (fun f cdv A outer s H vs Q E hr h => ?_)
  · obtain ⟨b, rfl, _⟩ := h
    rfl
  · obtain ⟨b, rfl, hB, q⟩ := h
    refine ⟨_, (pss_cons (ps_set (i := 1) sc_Lsome.nd rfl (Or.inl rfl) (pe_fn D_Lany_name (hr.mono (by decide)) (by rfl) (pa_cons (pv 0) pa_nil)))
    (pss_cons (ps_set (i := 2) sc_Lsome.nd rfl (Or.inl rfl) pe_str)
    (pss_cons (ps_set (i := 3) sc_Lsome.nd rfl (Or.inl rfl) (pe_ix ix_str (pv 2) (pe_fn D_Ltake (hr.mono (by decide)) (by rfl) (pa_cons (pv 0) (pa_cons pe_int pa_nil))) (fun _ _ => rfl)))
    (pss_cons (ps_set (i := 4) sc_Lsome.nd rfl (Or.inl rfl) (pe_fn D_Ltake (hr.mono (by decide)) (by rfl) (pa_cons (pv 0) (pa_cons (pe_op op_add (pe_callB call_len_str (by rfl) T.n_len (by decide +kernel) (pa_cons (pv 1) pa_nil)) pe_int) pa_nil))))
    (pss_cons (ps_set (i := 5) sc_Lsome.nd rfl (Or.inl rfl) (pe_lst (pa_cons pe_str (pa_cons pe_str (pa_cons pe_str (pa_cons pe_str (pa_cons pe_str (pa_cons pe_str (pa_cons pe_str (pa_cons pe_str (pa_cons pe_str (pa_cons pe_str (pa_cons pe_str (pa_cons pe_str (pa_cons pe_str (pa_cons pe_str (pa_cons pe_str pa_nil)))))))))))))))))
    (pss_cons (ps_set (i := 6) sc_Lsome.nd rfl (Or.inl rfl) (pe_lst (pa_cons (pv 1) (pa_cons (pe_op op_add_str (pe_op op_add_str (pe_slice sl_str (pv 1) po_none (po_some (pv 4))) (pv 3)) (pe_slice sl_str (pv 1) (po_some (pv 4)) po_none)) (pa_cons (pe_op op_add_str (pe_op op_add_str (pe_slice sl_str (pv 1) po_none (po_some (pv 4))) (pv 3)) (pe_slice sl_str (pv 1) (po_some (pe_op op_add (pv 4) pe_int)) po_none)) (pa_cons (pe_ix (ixK_list (K := K) rfl) (pv 5) (pe_fn D_Ltake (hr.mono (by decide)) (by rfl) (pa_cons (pv 0) (pa_cons pe_int pa_nil))) (fun _ _ => rfl)) pa_nil))))))
    (pss_one (ps_ret (pe_ix (ixK_list (K := K) rfl) (pe_op op_cat (pv 6) (pe_lst (pa_cons (pe_fn D_Lodd (hr.mono (by decide)) (by rfl) (pa_cons (pv 0) pa_nil)) pa_nil))) (pe_fn D_Ltake (hr.mono (by decide)) (by rfl) (pa_cons (pv 0) (pa_cons pe_int pa_nil))) (fun _ _ => rfl)))))))))), ?_⟩
    refine ⟨_, rfl, b, rfl, hB, fun z H1 hz k1 => ?_⟩
    have hz4 : z.length ≤ 4 := by
      have h : ((decide ((1 : Int) ≤ z.length) && decide ((z.length : Int) ≤ 4)) && (!inV (.str z) words3 && z.cps.toList.all isLet)) = true := hz
      simp only [Bool.and_eq_true, decide_eq_true_eq] at h
      omega
    refine ⟨_, rfl, _, rfl, b, 15, rfl, k1.bag, by decide, by decide, fun r H2 r0 r1 k2 => ?_⟩
    have hl : signs15.cps.toList.length = 15 := by decide +kernel
    refine ⟨signs15, r, _, rfl, rfl, by decide, at_in r0 (show r.toNat < signs15.cps.toList.length by omega), ?_⟩
    generalize signs15.cps.toList[r.toNat]'_ = c
    refine ⟨_, rfl, _, rfl, z, rfl, Nat.le_trans hz4 (by decide), _, 1, rfl, rfl, b, _, rfl, k2.bag, by omega, by omega, fun at_ H3 a0 a1 k3 => ?_⟩
    have k13 := k1.trans (k2.trans k3)
    refine ⟨by show 15 ≤ sizeLine; decide, fun W nW => ?_⟩
    have nWb : W ≠ b := k13.bag.ne nW
    generalize e4 : upd H3 W _ = H4
    have s4 : Same H3 H4 := e4 ▸ same_upd nW
    have h4 : H4 W = some (.lst (words15.map V.str)) := e4 ▸ upd_same
    have k4 := k13.same s4
    have hz5 : z.length ≤ sizeLine := Nat.le_trans hz4 (by decide)
    have l1 : ∀ c : Nat, (⟨#[c]⟩ : Str).length = 1 := fun _ => rfl
    have small : ∀ n : Nat, n ≤ 2000 → n ≤ sizeLine := fun n h => Nat.le_trans h (by decide)
    have c1 := cutS_le z none (some at_)
    have c2 := cutS_le z (some at_) none
    have c3 := cutS_le z (some (at_ + 1)) none
    refine ⟨_, rfl, _, rfl, _, rfl, at_, rfl, z, rfl, hz5, _, rfl, _, _, rfl, rfl, small _ (by rw [l1]; omega), _, rfl, _, rfl, at_, rfl, z, rfl, hz5, _, _, rfl, rfl, small _ (by rw [len_append, l1]; omega), ?_⟩
    refine ⟨_, rfl, _, rfl, at_, rfl, z, rfl, hz5, _, rfl, _, _, rfl, rfl, small _ (by rw [l1]; omega), _, rfl, _, rfl, at_, 1, rfl, rfl, at_ + 1, rfl, z, rfl, hz5, _, _, rfl, rfl, small _ (by rw [len_append, l1]; omega), ?_⟩
    refine ⟨_, rfl, _, rfl, b, 15, rfl, k4.bag, by decide, by decide, fun t H5 t0 t1 k5 => ?_⟩
    have tl15 : (words15.map V.str).length = 15 := by decide
    have ht : t.toNat < words15.length := by show t.toNat < 15; omega
    refine ⟨W, _, t, .str words15[t.toNat], rfl, rfl, SqL.of (k5.keep W _ nWb h4), ?_, by show 4 ≤ sizeLine; decide, fun L nL => ?_⟩
    · rw [at_in t0 (show t.toNat < (words15.map V.str).length by omega), List.getElem_map]
    have ws := words15_short _ (List.getElem_mem ht)
    generalize words15[t.toNat] = s4' at ws ⊢
    have k5' := k4.trans k5
    have nLb : L ≠ b := k5'.bag.ne nL
    generalize e6 : upd H5 L _ = H6
    have s6 : Same H5 H6 := e6 ▸ same_upd nL
    have h6 : H6 L = some _ := e6 ▸ upd_same
    have k6 := k5'.same s6
    refine ⟨_, rfl, _, rfl, b, rfl, k6.bag, fun v o H7 th fr k7 => ⟨by show 1 ≤ sizeLine; decide, fun M nM => ?_⟩⟩
    have h7 := k7.keep L _ nLb h6
    have k67 := k6.trans k7
    generalize e8 : upd H7 M _ = H8
    have s8 : Same H7 H8 := e8 ▸ same_upd nM
    have h8 : H8 M = some _ := e8 ▸ upd_same
    refine ⟨L, M, _, _, rfl, rfl, s8 _ _ h7, h8, by show 5 ≤ sizeLine; decide, fun C nC => ?_⟩
    have k8 := k67.same s8
    have nCb : C ≠ b := k8.bag.ne nC
    generalize e9 : upd H8 C _ = H9
    have s9 : Same H8 H9 := e9 ▸ same_upd nC
    have h9 : H9 C = some _ := e9 ▸ upd_same
    have k9 := k8.same s9
    refine ⟨_, rfl, b, 5, rfl, k9.bag, by decide, by decide, fun u Ha u0 u1 ka => ?_⟩
    refine ⟨C, _, u, _, rfl, rfl, SqL.of (ka.keep C _ nCb h9), at_in u0 (by show u.toNat < 5; omega), ?_⟩
    have frH : ∀ a, v = .ref a → H a = none := fun a e => k6.none hB (fr a e)
    have tha : Thg K Ha v o := th.mono fun a x e1 e2 => by
      have na : a ≠ b := fun e => by
        have h := frH a e1
        obtain ⟨g, m, e3, _⟩ := hB
        rw [e, e3] at h
        cases h
      exact ka.keep a _ na (s9 _ _ (s8 _ _ e2))
    have all : ∀ y ∈ [V.str z, .str (cutS z none (some at_) ++ ⟨#[c]⟩ ++ cutS z (some at_) none), .str (cutS z none (some at_) ++ ⟨#[c]⟩ ++ cutS z (some (at_ + 1)) none), .str s4'] ++ [v], ∃ o, Thg K Ha y o ∧ ∀ a, y = .ref a → H a = none := by
      intro y hy
      have st : ∀ z : Str, z.length ≤ 2000 → ∃ o, Thg K Ha (.str z) o ∧ ∀ a, V.str z = .ref a → H a = none := fun z hz => ⟨_, .str z hz, fun a e => by cases e⟩
      simp only [List.mem_append, List.mem_cons, List.not_mem_nil, or_false] at hy
      rcases hy with (rfl | rfl | rfl | rfl) | rfl
      · exact st _ (by omega)
      · exact st _ (by rw [len_append, len_append, l1]; omega)
      · exact st _ (by rw [len_append, len_append, l1]; omega)
      · exact st _ (by omega)
      · exact ⟨o, tha, frH⟩
    obtain ⟨o', th', fr'⟩ := all _ (List.getElem_mem _)
    exact q _ o' Ha th' fr' (k9.trans ka)

abbrev s_law : Stmt := topS 12
abbrev n_law : List Str := ["_law_script", "_law_k", "_law_bag_here", "_law_things", "_law_thing", "_law_told", "_law_turn"]
abbrev p_law : List Str := ["_law_script"]
theorem sc_law : FnScope n_law p_law (defScope s_law) := ⟨rfl, rfl, rfl, by decide +kernel, rfl, by decide +kernel, by decide +kernel⟩
theorem law_at {f : Addr} {fd : FuncData} (F : Fun K "law" "law" s_law f fd) (T : Txt K mg) (D_Lbag : Dn P w K mg base "_law_bag" 1 p_Lbag (spBag K)) (D_Lsome : Dn P w K mg base "_law_some" 3 p_Lsome (spSome K))
    (D_is_name : Dn P w K mg base "is_name" 1 p_is_name (spIsName K)) (D_Lis_name : Dn P w K mg base "_law_is_name" 1 p_Lis_name (spIsName K)) : FnOk P w K mg base CX0 4 f fd p_law (spLaw K) := by
  refine F.ok sc_law (fun vs H Q E h => ?_) (fun cdv A outer s H vs Q E hr h => ?_)
  · obtain ⟨a, ns, rfl, _⟩ := h
    rfl
  · obtain ⟨a, ns, rfl, hS, hl, q⟩ := h
    refine ⟨_, (pss_cons (ps_for PassesOwn.never rfl (pi_range1 (by rfl) T.n_range (pa_cons (pe_callB (call_max2 rfl) (by rfl) T.n_max (by decide +kernel) (pa_cons pe_int (pa_cons (pe_callB (call_min2 rfl) (by rfl) T.n_min (by decide +kernel) (pa_cons pe_int (pa_cons (pe_callB (lenK (K := K) rfl) (by rfl) T.n_len (by decide +kernel) (pa_cons (pv 0) pa_nil)) pa_nil))) pa_nil))) pa_nil)) (pg_name (i := 1) sc_law.nd rfl (Or.inl rfl))
    (pss_cons (ps_set (i := 2) sc_law.nd rfl (Or.inr rfl) (pe_fn D_Lbag (hr.mono (by decide)) (by rfl) (pa_cons (pv 0) (pa_cons (pv 1) pa_nil))))
    (pss_cons (ps_setLc (i := 3) (own := [("_law_turn", 6)]) (g := gName 6) (tt := tYes) rfl sc_law.nd rfl rfl (sw_true rfl rfl rfl (by decide +kernel)) (pi_range1 (by rfl) T.n_range (pa_cons pe_int pa_nil)) (blkOk_by (own := [("_law_turn", 6)]) (N := n_law) (sc := defScope s_law) (by decide +kernel)) (fun _ _ _ _ _ => pg_name (i := 6) sc_law.nd rfl (Or.inl rfl)) (fun _ _ _ _ _ => pts_nil) (fun _ _ _ _ _ => (pe_fn D_Lsome (hr.mono (by decide)) (by rfl) (pa_cons (pv 2) pa_nil))))
    (pss_one (ps_for PassesOwn.never rfl (piK_list (K := K) rfl (pe_op op_cat (pv 3) (pe_revLK (K := K) rfl (pv 3)))) (pg_name (i := 4) sc_law.nd rfl (Or.inl rfl))
    (pss_cons (ps_set (i := 5) sc_law.nd rfl (Or.inl rfl) (pe_fn D_is_name (hr.mono (by decide)) (by rfl) (pa_cons (pv 4) pa_nil)))
    (pss_one (ps_if (PW.pt (pw_or (pt_not (pt_val (pe_callB (isiK (K := K) rfl) (by rfl) T.n_isinstance (by decide +kernel) (pa_cons (pv 5) (pa_cons (pe_bltn (v := .ty "bool") (by rfl) T.n_bool (by decide +kernel) rfl) pa_nil))))) (pw_or1 (pt_cmpR op_ne (pv 5) (pe_fn D_Lis_name (hr.mono (by decide)) (by rfl) (pa_cons (pv 4) pa_nil)) (nomark _))))) (pss_one (ps_ret pe_bl)) pss_nil))))))))
    (pss_one (ps_ret (pe_and (pe_fn D_is_name (hr.mono (by decide)) (by rfl) (pa_cons pe_str pa_nil)) (pe_and (pe_not (pe_fn D_is_name (hr.mono (by decide)) (by rfl) (pa_cons pe_str pa_nil))) (pe_and (pe_not (pe_fn D_is_name (hr.mono (by decide)) (by rfl) (pa_cons pe_str pa_nil))) (pe_one (pe_fn D_is_name (hr.mono (by decide)) (by rfl) (pa_cons pe_str pa_nil))))))))), ?_⟩
    have hl' : (ns.map V.int).length ≤ 63 := by rw [List.length_map]; exact hl
    have str1 : ∀ (z : Str) (H' : Hp), z.length ≤ 2000 → Thg K H' (.str z) (some z) := fun z H' hz => .str z hz
    refine ⟨_, rfl, a, _, rfl, .inl hS, 6, _, rfl, 2, _, rfl, _, rfl, by omega, by omega, for_range (lo := 0) (fun i σ H' => ∃ v1 v2 v3 v4 v5 v6, σ = [some (.ref a), v1, v2, v3, v4, v5, v6] ∧ Same H H')
      ⟨_, _, _, _, _, _, rfl, Same.refl H⟩ ?_ ?_⟩
    · rintro i σ H0 hi ⟨v1, v2, v3, v4, v5, v6, rfl, s0⟩
      have hi' : i < 100 := by omega
      refine ⟨_, rfl, _, rfl, a, ns, i, by rw [Int.zero_add]; rfl, s0.seq hS, hl, hi', fun b H1 nb s1 hB => ?_⟩
      have nb0 : H0 b = none := nb
      refine ⟨12, rfl, by decide, by decide, fun D nD => ?_⟩
      refine lc_bag (b := b) (fun H y => ∃ o, Thg K H y o) (show 12 < sizeLine by decide) nD hB (fun _ _ _ ⟨o, h⟩ k => ⟨o, h.mono k⟩) ?_ ?_
      · intro k H2 Q2 hk kp qq
        exact ⟨_, rfl, b, rfl, kp.bag, fun v o H3 th fr k3 => qq v H3 ⟨o, th⟩ fr k3⟩
      · intro H2 ys kp eD hlen hy
        have hlen' : ys.length = 12 := hlen
        have s2 : Same H0 H2 := kp.out s1 nb0
        refine ⟨_, rfl, _, rfl, D, ys, rfl, SqL.of eD, fun R nR => ?_⟩
        generalize e3 : upd H2 R _ = H3
        have s3 : Same H2 H3 := e3 ▸ same_upd nR
        have h3 : H3 R = some (.lst ys.reverse) := e3 ▸ upd_same
        refine ⟨D, R, ys, ys.reverse, rfl, rfl, s3 _ _ eD, h3, by rw [List.length_reverse, hlen']; decide, fun C nC => ?_⟩
        generalize e4 : upd H3 C _ = H4
        have s4 : Same H3 H4 := e4 ▸ same_upd nC
        have h4 : H4 C = some (.lst (ys ++ ys.reverse)) := e4 ▸ upd_same
        have s24 := s3.trans s4
        have hy4 : ∀ y ∈ ys ++ ys.reverse, ∃ o, Thg K H4 y o := by
          intro y hm
          have hm' : y ∈ ys := by
            rcases List.mem_append.mp hm with h | h
            · exact h
            · exact List.mem_reverse.mp h
          obtain ⟨_, _, o, th⟩ := hy y hm'
          exact ⟨o, th.mono fun _ _ _ e => s24 _ _ e⟩
        refine ⟨C, rfl, ⟨_, SqL.of h4⟩, for_list (K := K) (a := C) (xs := ys ++ ys.reverse) (fun j σ H' => ∃ v1 v2 v4 v5 v6, σ = [some (.ref a), v1, v2, some (.ref D), v4, v5, v6] ∧ Same H4 H')
          ⟨_, _, _, _, _, rfl, Same.refl _⟩ (fun j σ H' _ ⟨_, _, _, _, _, _, s⟩ => s.seq (SqL.of h4)) ?_ ?_⟩
        · rintro j y σ H5 hj ⟨w1, w2, w4, w5, w6, rfl, s5⟩
          obtain ⟨o, th⟩ := hy4 y (List.mem_of_getElem? hj)
          have th5 := th.mono (H' := H5) fun _ _ _ e => s5 _ _ e
          refine ⟨_, rfl, y, o, rfl, th5, fun H6 s6 => ?_⟩
          refine ⟨_, rfl, _, _, _, _, true, rfl, .ty _, .base (.bl _), kit_ty (by decide +kernel), _, rfl, iteF ?_⟩
          refine ⟨_, rfl, _, rfl, y, o, rfl, th5.mono fun _ _ _ e => s6 _ _ e, fun H7 s7 => ?_⟩
          refine ⟨rfl, _, rfl, ?_⟩
          rw [decide_eq_true rfl]
          exact iteF ⟨_, _, _, _, _, rfl, s5.trans (s6.trans s7)⟩
        · rintro σ H5 ⟨w1, w2, w4, w5, w6, rfl, s5⟩
          exact ⟨_, _, _, _, _, _, rfl, s0.trans (s2.trans (s24.trans s5))⟩
    · rintro σ H0 ⟨v1, v2, v3, v4, v5, v6, rfl, s0⟩
      refine ⟨_, some "zzzz", rfl, .str _ (by decide), fun H1 s1 => ⟨_, rfl, ?_⟩⟩
      rw [show nmO (some "zzzz") = true by decide +kernel]
      refine iteT ⟨_, some "abcde", rfl, .str _ (by decide), fun H2 s2 => ⟨_, rfl, _, rfl, ?_⟩⟩
      rw [show nmO (some "abcde") = false by decide +kernel]
      refine iteT ⟨_, some "if", rfl, .str _ (by decide), fun H3 s3 => ⟨_, rfl, _, rfl, ?_⟩⟩
      rw [show nmO (some "if") = false by decide +kernel]
      refine iteT ⟨_, some "of", rfl, .str _ (by decide), fun H4 s4 => ?_⟩
      rw [show nmO (some "of") = true by decide +kernel]
      exact q H4

end
theorem all_mk {l : PySem.W.OpenLaw} {w : World} {K : PySem.W.Frag} {h : Heap} {mg : Str → Option Value} {fa : Addr} (X : K.In h) (G : h.Ns mainGlobals mg) (hfa : mg "law" = some (.ref fa))
    {f_is_name : Addr} {od_is_name an_is_name : Option Addr} {sl_is_name : Array (Option Value)} {oc_is_name kV_is_name dc_is_name pm_is_name cd_is_name ct_is_name : Value}
    (a_is_name : PySem.W.nsIn K mainGlobals "is_name" = some (some (.ref f_is_name))) (l_is_name : K.lookup f_is_name = some ⟨oc_is_name, od_is_name, .func (PySem.W.fnOf "is_name" "is_name" (defArgs s_is_name) (defBody s_is_name) (defScope s_is_name) .none kV_is_name dc_is_name pm_is_name an_is_name cd_is_name ct_is_name), sl_is_name⟩) (c_is_name : PySem.W.codeIn K cd_is_name "is_name" = true) (k_is_name : PySem.W.keepIn K (.ref f_is_name) = true)
    {f_Lany_name : Addr} {od_Lany_name an_Lany_name : Option Addr} {sl_Lany_name : Array (Option Value)} {oc_Lany_name kV_Lany_name dc_Lany_name pm_Lany_name cd_Lany_name ct_Lany_name : Value}
    (a_Lany_name : PySem.W.nsIn K mainGlobals "_law_any_name" = some (some (.ref f_Lany_name))) (l_Lany_name : K.lookup f_Lany_name = some ⟨oc_Lany_name, od_Lany_name, .func (PySem.W.fnOf "_law_any_name" "_law_any_name" (defArgs s_Lany_name) (defBody s_Lany_name) (defScope s_Lany_name) .none kV_Lany_name dc_Lany_name pm_Lany_name an_Lany_name cd_Lany_name ct_Lany_name), sl_Lany_name⟩) (c_Lany_name : PySem.W.codeIn K cd_Lany_name "_law_any_name" = true) (k_Lany_name : PySem.W.keepIn K (.ref f_Lany_name) = true)
    {f_Ltake : Addr} {od_Ltake an_Ltake : Option Addr} {sl_Ltake : Array (Option Value)} {oc_Ltake kV_Ltake dc_Ltake pm_Ltake cd_Ltake ct_Ltake : Value}
    (a_Ltake : PySem.W.nsIn K mainGlobals "_law_take" = some (some (.ref f_Ltake))) (l_Ltake : K.lookup f_Ltake = some ⟨oc_Ltake, od_Ltake, .func (PySem.W.fnOf "_law_take" "_law_take" (defArgs s_Ltake) (defBody s_Ltake) (defScope s_Ltake) .none kV_Ltake dc_Ltake pm_Ltake an_Ltake cd_Ltake ct_Ltake), sl_Ltake⟩) (c_Ltake : PySem.W.codeIn K cd_Ltake "_law_take" = true) (k_Ltake : PySem.W.keepIn K (.ref f_Ltake) = true)
    {f_Lodd : Addr} {od_Lodd an_Lodd : Option Addr} {sl_Lodd : Array (Option Value)} {oc_Lodd kV_Lodd dc_Lodd pm_Lodd cd_Lodd ct_Lodd : Value}
    (a_Lodd : PySem.W.nsIn K mainGlobals "_law_odd" = some (some (.ref f_Lodd))) (l_Lodd : K.lookup f_Lodd = some ⟨oc_Lodd, od_Lodd, .func (PySem.W.fnOf "_law_odd" "_law_odd" (defArgs s_Lodd) (defBody s_Lodd) (defScope s_Lodd) .none kV_Lodd dc_Lodd pm_Lodd an_Lodd cd_Lodd ct_Lodd), sl_Lodd⟩) (c_Lodd : PySem.W.codeIn K cd_Lodd "_law_odd" = true) (k_Lodd : PySem.W.keepIn K (.ref f_Lodd) = true)
    {f_Lbag : Addr} {od_Lbag an_Lbag : Option Addr} {sl_Lbag : Array (Option Value)} {oc_Lbag kV_Lbag dc_Lbag pm_Lbag cd_Lbag ct_Lbag : Value}
    (a_Lbag : PySem.W.nsIn K mainGlobals "_law_bag" = some (some (.ref f_Lbag))) (l_Lbag : K.lookup f_Lbag = some ⟨oc_Lbag, od_Lbag, .func (PySem.W.fnOf "_law_bag" "_law_bag" (defArgs s_Lbag) (defBody s_Lbag) (defScope s_Lbag) .none kV_Lbag dc_Lbag pm_Lbag an_Lbag cd_Lbag ct_Lbag), sl_Lbag⟩) (c_Lbag : PySem.W.codeIn K cd_Lbag "_law_bag" = true) (k_Lbag : PySem.W.keepIn K (.ref f_Lbag) = true)
    {f_Lis_name : Addr} {od_Lis_name an_Lis_name : Option Addr} {sl_Lis_name : Array (Option Value)} {oc_Lis_name kV_Lis_name dc_Lis_name pm_Lis_name cd_Lis_name ct_Lis_name : Value}
    (a_Lis_name : PySem.W.nsIn K mainGlobals "_law_is_name" = some (some (.ref f_Lis_name))) (l_Lis_name : K.lookup f_Lis_name = some ⟨oc_Lis_name, od_Lis_name, .func (PySem.W.fnOf "_law_is_name" "_law_is_name" (defArgs s_Lis_name) (defBody s_Lis_name) (defScope s_Lis_name) .none kV_Lis_name dc_Lis_name pm_Lis_name an_Lis_name cd_Lis_name ct_Lis_name), sl_Lis_name⟩) (c_Lis_name : PySem.W.codeIn K cd_Lis_name "_law_is_name" = true) (k_Lis_name : PySem.W.keepIn K (.ref f_Lis_name) = true)
    {f_Lsome : Addr} {od_Lsome an_Lsome : Option Addr} {sl_Lsome : Array (Option Value)} {oc_Lsome kV_Lsome dc_Lsome pm_Lsome cd_Lsome ct_Lsome : Value}
    (a_Lsome : PySem.W.nsIn K mainGlobals "_law_some" = some (some (.ref f_Lsome))) (l_Lsome : K.lookup f_Lsome = some ⟨oc_Lsome, od_Lsome, .func (PySem.W.fnOf "_law_some" "_law_some" (defArgs s_Lsome) (defBody s_Lsome) (defScope s_Lsome) .none kV_Lsome dc_Lsome pm_Lsome an_Lsome cd_Lsome ct_Lsome), sl_Lsome⟩) (c_Lsome : PySem.W.codeIn K cd_Lsome "_law_some" = true) (k_Lsome : PySem.W.keepIn K (.ref f_Lsome) = true)
    {f_law : Addr} {od_law an_law : Option Addr} {sl_law : Array (Option Value)} {oc_law kV_law dc_law pm_law cd_law ct_law : Value}
    (a_law : PySem.W.nsIn K mainGlobals "law" = some (some (.ref f_law))) (l_law : K.lookup f_law = some ⟨oc_law, od_law, .func (PySem.W.fnOf "law" "law" (defArgs s_law) (defBody s_law) (defScope s_law) .none kV_law dc_law pm_law an_law cd_law ct_law), sl_law⟩) (c_law : PySem.W.codeIn K cd_law "law" = true) (k_law : PySem.W.keepIn K (.ref f_law) = true)
    (z_len : PySem.W.nsIn K mainGlobals "len" = some none)
    (z_isinstance : PySem.W.nsIn K mainGlobals "isinstance" = some none)
    (z_range : PySem.W.nsIn K mainGlobals "range" = some none)
    (z_all : PySem.W.nsIn K mainGlobals "all" = some none)
    (z_list : PySem.W.nsIn K mainGlobals "list" = some none)
    (z_str : PySem.W.nsIn K mainGlobals "str" = some none)
    (z_bool : PySem.W.nsIn K mainGlobals "bool" = some none)
    (z_abs : PySem.W.nsIn K mainGlobals "abs" = some none)
    (z_min : PySem.W.nsIn K mainGlobals "min" = some none)
    (z_max : PySem.W.nsIn K mainGlobals "max" = some none)
    {t_LETTERS : Tok} (g_LETTERS : PySem.W.nsIn K mainGlobals "LETTERS" = some (some (.str "abcdefghijklmnopqrstuvwxyz" t_LETTERS)))
    {w_WORDS : Addr} {dd_WORDS : Option Addr} {nn_WORDS : Nat} {ss_WORDS : Array (Option Value)} {t0_WORDS t1_WORDS t2_WORDS : Tok} (g_WORDS : PySem.W.nsIn K mainGlobals "WORDS" = some (some (.ref w_WORDS))) (o_WORDS : K.lookup w_WORDS = some ⟨.type "tuple", dd_WORDS, .seq #[.str "show" t0_WORDS, .str "drop" t1_WORDS, .str "if" t2_WORDS] nn_WORDS, ss_WORDS⟩)
    {t_MOST_SIGNS : Tok} (g_MOST_SIGNS : PySem.W.nsIn K mainGlobals "MOST_SIGNS" = some (some (.int 4 t_MOST_SIGNS))) :
    ∃ fd : FuncData, (∀ (s : Shared) (v : Value), BindsTo s fd ⟨[v], []⟩ [("_law_script", v)]) ∧ ∀ base : Heap, K.In base → base.Ns mainGlobals mg → FnOk l.prog w K mg base CX0 4 fa fd ["_law_script"] (spLaw K) := by
  have e := hfa.symm.trans (PySem.W.mg_of X G a_law)
  cases e
  have T : Txt K mg := ⟨PySem.W.mg_none_of X G z_len, PySem.W.mg_none_of X G z_isinstance, PySem.W.mg_none_of X G z_range, PySem.W.mg_none_of X G z_all, PySem.W.mg_none_of X G z_list, PySem.W.mg_none_of X G z_str, PySem.W.mg_none_of X G z_bool, PySem.W.mg_none_of X G z_abs, PySem.W.mg_none_of X G z_min, PySem.W.mg_none_of X G z_max, ⟨_, PySem.W.mg_of X G g_LETTERS⟩, ⟨_, PySem.W.mg_of X G g_WORDS, fun H => .inr ⟨_, _, _, o_WORDS, rfl, rfl, (by show 3 ≤ sizeLine; decide), .cons ⟨_, rfl⟩ (.cons ⟨_, rfl⟩ (.cons ⟨_, rfl⟩ (.nil)))⟩⟩, ⟨_, PySem.W.mg_of X G g_MOST_SIGNS⟩⟩
  have S_is_name : Src K mg "is_name" s_is_name p_is_name := ⟨_, _, PySem.W.mg_of X G a_is_name, fun_mk (st := s_is_name) l_is_name c_is_name k_is_name, (fun_mk (st := s_is_name) l_is_name c_is_name k_is_name).binds (ps := p_is_name) fun _ _ _ _ _ _ us hl => match us, hl with | [_], _ => rfl⟩
  have S_Lany_name : Src K mg "_law_any_name" s_Lany_name p_Lany_name := ⟨_, _, PySem.W.mg_of X G a_Lany_name, fun_mk (st := s_Lany_name) l_Lany_name c_Lany_name k_Lany_name, (fun_mk (st := s_Lany_name) l_Lany_name c_Lany_name k_Lany_name).binds (ps := p_Lany_name) fun _ _ _ _ _ _ us hl => match us, hl with | [_], _ => rfl⟩
  have S_Ltake : Src K mg "_law_take" s_Ltake p_Ltake := ⟨_, _, PySem.W.mg_of X G a_Ltake, fun_mk (st := s_Ltake) l_Ltake c_Ltake k_Ltake, (fun_mk (st := s_Ltake) l_Ltake c_Ltake k_Ltake).binds (ps := p_Ltake) fun _ _ _ _ _ _ us hl => match us, hl with | [_, _], _ => rfl⟩
  have S_Lodd : Src K mg "_law_odd" s_Lodd p_Lodd := ⟨_, _, PySem.W.mg_of X G a_Lodd, fun_mk (st := s_Lodd) l_Lodd c_Lodd k_Lodd, (fun_mk (st := s_Lodd) l_Lodd c_Lodd k_Lodd).binds (ps := p_Lodd) fun _ _ _ _ _ _ us hl => match us, hl with | [_], _ => rfl⟩
  have S_Lbag : Src K mg "_law_bag" s_Lbag p_Lbag := ⟨_, _, PySem.W.mg_of X G a_Lbag, fun_mk (st := s_Lbag) l_Lbag c_Lbag k_Lbag, (fun_mk (st := s_Lbag) l_Lbag c_Lbag k_Lbag).binds (ps := p_Lbag) fun _ _ _ _ _ _ us hl => match us, hl with | [_, _], _ => rfl⟩
  have S_Lis_name : Src K mg "_law_is_name" s_Lis_name p_Lis_name := ⟨_, _, PySem.W.mg_of X G a_Lis_name, fun_mk (st := s_Lis_name) l_Lis_name c_Lis_name k_Lis_name, (fun_mk (st := s_Lis_name) l_Lis_name c_Lis_name k_Lis_name).binds (ps := p_Lis_name) fun _ _ _ _ _ _ us hl => match us, hl with | [_], _ => rfl⟩
  have S_Lsome : Src K mg "_law_some" s_Lsome p_Lsome := ⟨_, _, PySem.W.mg_of X G a_Lsome, fun_mk (st := s_Lsome) l_Lsome c_Lsome k_Lsome, (fun_mk (st := s_Lsome) l_Lsome c_Lsome k_Lsome).binds (ps := p_Lsome) fun _ _ _ _ _ _ us hl => match us, hl with | [_], _ => rfl⟩
  have S_law : Src K mg "law" s_law p_law := ⟨_, _, PySem.W.mg_of X G a_law, fun_mk (st := s_law) l_law c_law k_law, (fun_mk (st := s_law) l_law c_law k_law).binds (ps := p_law) fun _ _ _ _ _ _ us hl => match us, hl with | [_], _ => rfl⟩
  refine ⟨PySem.W.fnOf "law" "law" (defArgs s_law) (defBody s_law) (defScope s_law) .none kV_law dc_law pm_law an_law cd_law ct_law, fun s v => .of_eq rfl, fun base _ _ => ?_⟩
  have D_Ltake := d_Ltake (P := l.prog) (w := w) (base := base) S_Ltake
  have D_Lbag := d_Lbag (P := l.prog) (w := w) (base := base) S_Lbag T
  have D_is_name := d_is_name (P := l.prog) (w := w) (base := base) S_is_name T
  have D_Lis_name := d_Lis_name (P := l.prog) (w := w) (base := base) S_Lis_name T
  have D_Lany_name := d_Lany_name (P := l.prog) (w := w) (base := base) S_Lany_name T D_Ltake
  have D_Lodd := d_Lodd (P := l.prog) (w := w) (base := base) S_Lodd D_Ltake
  have D_Lsome := d_Lsome (P := l.prog) (w := w) (base := base) S_Lsome T D_Ltake D_Lany_name D_Lodd
  exact law_at (fun_mk (st := s_law) l_law c_law k_law) T D_Lbag D_Lsome D_is_name D_Lis_name
theorem walk {l : PySem.W.OpenLaw} {q : Program} {loose : List Str} {XP : (Str → Option Value) → Heap → Prop} {YP : World → Heap → Prop} {d : DefRec} {K : Params → PySem.W.Frag} (hn : l.most = some 63) (hdf : d.params.defaults = [])
    (hY : ∀ (w : World) (h : Heap), YP w h → (K w.params).In h)
    (F : ∀ (w : World) (mg : Str → Option Value) (fa : Addr) (h : Heap), (K w.params).In h → h.Ns mainGlobals mg → mg d.name = some (.ref fa) →
      ∃ fd : FuncData, (∀ (s : Shared) (u : Value), BindsTo s fd ⟨[u], []⟩ [("_law_script", u)]) ∧ ∀ base : Heap, (K w.params).In base → base.Ns mainGlobals mg → FnOk l.prog w (K w.params) mg base CX0 4 fa fd ["_law_script"] (spLaw (K w.params))) :
    PySem.W.WalkO q loose XP YP l.row.toRowW d [] (fun f vs => PySem.call f vs) :=
  L2.walk_of (n := 63) (k := 4) (x := "_law_script") (CX := fun _ => CX0) (sp := fun w => spLaw (K w.params)) hn (by decide) hdf ⟨rfl, by decide, by decide⟩ hY F (fun _ _ a ns hl _ hS => ⟨a, ns, rfl, hS, hl, fun _ => rfl⟩) fun _ _ _ _ _ z => z
end Fc

open PySem PySem.W PyProof.Rows in
set_option maxRecDepth 100000 in
set_option maxHeartbeats 0 in
theorem PySem.Challenge.cw_freshcells_k01_names_holds : PySem.Challenge.rw_freshcells_k01_names.Holds := by
  w_on; o_law; k_head; (case hw => w_witness2)
  k_fill
  refine Fc.walk (l := PySem.Challenge.rw_freshcells_k01_names) rfl rfl (fun w h Y => PySem.W.kIn_of Y) ?F
  case F =>
    intro w mg fa h KX G hmg
    refine' Fc.all_mk KX G hmg ?a_is_name ?l_is_name ?c_is_name ?k_is_name ?a_Lany_name ?l_Lany_name ?c_Lany_name ?k_Lany_name ?a_Ltake ?l_Ltake ?c_Ltake ?k_Ltake ?a_Lodd ?l_Lodd ?c_Lodd ?k_Lodd ?a_Lbag ?l_Lbag ?c_Lbag ?k_Lbag ?a_Lis_name ?l_Lis_name ?c_Lis_name ?k_Lis_name ?a_Lsome ?l_Lsome ?c_Lsome ?k_Lsome ?a_law ?l_law ?c_law ?k_law ?z_len ?z_isinstance ?z_range ?z_all ?z_list ?z_str ?z_bool ?z_abs ?z_min ?z_max ?g_LETTERS ?g_WORDS ?o_WORDS ?g_MOST_SIGNS
    (case a_is_name => k_is)
    (case l_is_name => k_is)
    (case c_is_name => k_is)
    (case k_is_name => k_is)
    (case a_Lany_name => k_is)
    (case l_Lany_name => k_is)
    (case c_Lany_name => k_is)
    (case k_Lany_name => k_is)
    (case a_Ltake => k_is)
    (case l_Ltake => k_is)
    (case c_Ltake => k_is)
    (case k_Ltake => k_is)
    (case a_Lodd => k_is)
    (case l_Lodd => k_is)
    (case c_Lodd => k_is)
    (case k_Lodd => k_is)
    (case a_Lbag => k_is)
    (case l_Lbag => k_is)
    (case c_Lbag => k_is)
    (case k_Lbag => k_is)
    (case a_Lis_name => k_is)
    (case l_Lis_name => k_is)
    (case c_Lis_name => k_is)
    (case k_Lis_name => k_is)
    (case a_Lsome => k_is)
    (case l_Lsome => k_is)
    (case c_Lsome => k_is)
    (case k_Lsome => k_is)
    (case a_law => k_is)
    (case l_law => k_is)
    (case c_law => k_is)
    (case k_law => k_is)
    (case z_len => k_is)
    (case z_isinstance => k_is)
    (case z_range => k_is)
    (case z_all => k_is)
    (case z_list => k_is)
    (case z_str => k_is)
    (case z_bool => k_is)
    (case z_abs => k_is)
    (case z_min => k_is)
    (case z_max => k_is)
    (case g_LETTERS => k_is)
    (case g_WORDS => k_is)
    (case o_WORDS => k_is)
    (case g_MOST_SIGNS => k_is)
#print axioms PySem.Challenge.cw_freshcells_k01_names_holds

