import PyProof.Rows.All
import Wide.All
import OpenK.AllK
import Wide.FinOn
import HandS.ForMost
import HandS.IsInst
import HandS.Style
import HandS.Codes
import HandS.Walk
import HandS.Exc
import HandS.ExcOwn
import HandS.TupAny
import HandS.Star
import HandS.ListItems
import HandS.DictComp
import HandS.Conv
import HandS.StrMore
import HandS.Deep
import HandS.Flow
import HandS.TryOnly
import HandS.More
import HandS.Remove
import HandS.WordsExc
import KE.KEqNest
import KE.DataEq
import HandS.Small
import HandS.Defaults
import HandS.RaiseMore
import PyProof.Rows.SortShellAny
import HandS.FStr
import HandS.CallSlots
import HandS.Set
import HandS.SetFor
import HandS.TupMul
import PySem.Challenge.RW_freshcells_k13_faults_end
set_option Elab.async false
set_option linter.all false
set_option maxRecDepth 100000
set_option maxHeartbeats 4000000
/-! S0: plain values and a plain store; what stands for them in the layer's heap. -/
namespace Sim
open PySem PySem.Spec PyProof.Rows L2

inductive AV where
  | non | bl (b : Bool) | int (i : Int) | str (z : Str) | tup (xs : List AV) | ref (n : Nat) | ty (n : String) | cls (c : Str) | rl (xs : List Int) | kd (kvs : List (Str × Option Int))
inductive AO where
  | lst (xs : List AV) | dict (kvs : List (Key × AV)) | lck (kvs : List (Key × AV)) | ins (c : Str) (fs : List (Str × AV))
abbrev Sto := List AO
inductive R (α : Type) where
  | ok (a : α) (S : Sto) | ex (c : Str) (fs : List (Str × AV)) (S : Sto) | bad
abbrev M (α : Type) := Sto → R α
abbrev Nv := List (Option AV)
def R.bind {α β : Type} : R α → (α → Sto → R β) → R β
  | .ok a S, k => k a S
  | .ex c fs S, _ => .ex c fs S
  | .bad, _ => .bad

/-- a text within bounds -/
structure okS (z : Str) : Prop where
  len : z.length ≤ sizeLine
  all : ∀ c ∈ z.cps.toList, c < 1114112
def okB (z : Str) : Bool := decide (z.length ≤ sizeLine) && z.cps.toList.all fun c => decide (c < 1114112)
theorem okS_of {z : Str} (h : okB z = true) : okS z := by
  unfold okB at h
  rw [Bool.and_eq_true, List.all_eq_true] at h
  exact ⟨of_decide_eq_true h.1, fun c hc => of_decide_eq_true (h.2 c hc)⟩

/-- a dict's key within bounds -/
def okK : Key → Bool
  | .inl _ => true
  | .inr z => okB z
theorem okB_of {z : Str} (h : okS z) : okB z = true := by
  unfold okB
  rw [Bool.and_eq_true, List.all_eq_true]
  exact ⟨decide_eq_true h.len, fun c hc => decide_eq_true (h.all c hc)⟩
def dOk (kvs : List (Key × AV)) : Prop := kvs.length ≤ sizeLine ∧ ∀ p ∈ kvs, okK p.1 = true
/-! ### what stands for a value -/
section
variable (K : PySem.W.Frag) (w : World) (mg : Str → Option Value)
/-- a dict of the module, texts to ints -/
def KdAt (a : Addr) (kvs : List (Str × Option Int)) : Prop := ∃ es n, KDict K w a es n ∧ ∀ z, match kvs.lookup z with
  | some (some i) => ∃ t, PySem.W.nsIn K a z = some (some (.int i t))
  | some none => PySem.W.nsIn K a z = some none
  | none => True
mutual
inductive RV (ρ : Nat → Addr) (N : Nat) (H : Hp) : V → AV → Prop
  | non : RV ρ N H .non .non
  | bl (b : Bool) : RV ρ N H (.bl b) (.bl b)
  | int (i : Int) : RV ρ N H (.int i) (.int i)
  | str (z : Str) (h : okS z) : RV ρ N H (.str z) (.str z)
  | ty (n : String) : RV ρ N H (.ty n) (.ty n)
  | ref (n : Nat) (h : n < N) : RV ρ N H (.ref (ρ n)) (.ref n)
  | cls (c : Str) (C : Addr) (h : mg c = some (.ref C)) : RV ρ N H (.ref C) (.cls c)
  | tup {a : Addr} {vs : List V} {xs : List AV} (h : SqT K H a vs) (r : RVs ρ N H vs xs) : RV ρ N H (.ref a) (.tup xs)
  | rl {a : Addr} {xs : List Int} (h : SqL K H a (xs.map V.int)) (f : (∀ H', SqL K H' a (xs.map V.int)) ∨ ∃ o, H a = some (.frz o (.lst (xs.map V.int)))) : RV ρ N H (.ref a) (.rl xs)
  | kd {a : Addr} {kvs : List (Str × Option Int)} (h : KdAt K w a kvs) : RV ρ N H (.ref a) (.kd kvs)
inductive RVs (ρ : Nat → Addr) (N : Nat) (H : Hp) : List V → List AV → Prop
  | nil : RVs ρ N H [] []
  | cons {v : V} {vs : List V} {x : AV} {xs : List AV} : RV ρ N H v x → RVs ρ N H vs xs → RVs ρ N H (v :: vs) (x :: xs)
end
/-- pairs under the same names -/
def RPs {κ : Type} (ρ : Nat → Addr) (N : Nat) (H : Hp) : List (κ × V) → List (κ × AV) → Prop := Paired fun p q => p.1 = q.1 ∧ RV K w mg ρ N H p.2 q.2
def RO (ρ : Nat → Addr) (N : Nat) (H : Hp) (a : Addr) : AO → Prop
  | .lst xs => xs.length ≤ sizeLine ∧ ∃ vs, H a = some (.lst vs) ∧ RVs K w mg ρ N H vs xs
  | .dict kvs => dOk kvs ∧ ∃ us, H a = some (.dK us) ∧ RPs K w mg ρ N H us kvs
  | .lck kvs => dOk kvs ∧ ∃ ob us, H a = some (.frz ob (.dK us)) ∧ RPs K w mg ρ N H us kvs
  | .ins c fs => fs.length < 1000 ∧ ∃ C dx us, mg c = some (.ref C) ∧ H a = some (.ins C dx us) ∧ RPs K w mg ρ N H us fs
/-- the store stands in the heap -/
structure RS (ρ : Nat → Addr) (H : Hp) (S : Sto) : Prop where
  inj : ∀ i j, i < S.length → j < S.length → ρ i = ρ j → i = j
  obj : ∀ n o, S[n]? = some o → RO K w mg ρ S.length H (ρ n) o
/-- the slots stand for the names' values -/
def RE (ρ : Nat → Addr) (N : Nat) (H : Hp) (σ : L2.St) (η : Nv) : Prop := σ.length = η.length ∧ ∀ (i : Nat) (x : AV), η[i]? = some (some x) → ∃ v, σ[i]? = some (some v) ∧ RV K w mg ρ N H v x
end
/-- what values need to stay -/
structure Up (K : PySem.W.Frag) (ρ : Nat → Addr) (N : Nat) (H : Hp) (ρ' : Nat → Addr) (N' : Nat) (H' : Hp) : Prop where
  le : N ≤ N'
  eq : ∀ n, n < N → ρ' n = ρ n
  tk : ∀ a xs, SqT K H a xs → SqT K H' a xs
  fz : ∀ a o xs, H a = some (.frz o (.lst xs)) → H' a = some (.frz o (.lst xs))
/-- a step on -/
structure Ext (K : PySem.W.Frag) (ρ : Nat → Addr) (N : Nat) (H : Hp) (ρ' : Nat → Addr) (N' : Nat) (H' : Hp) : Prop extends Up K ρ N H ρ' N' H' where
  fresh : ∀ n, N ≤ n → n < N' → H (ρ' n) = none
  keep : ∀ a o, H a = some o → (∀ n, n < N → ρ n ≠ a) → H' a = some o
  free : ∀ a, H' a = none → H a = none
  fa : ∀ a o u, H a = some (.frz o u) → H' a = some (.frz o u)
section
variable {K : PySem.W.Frag} {w : World} {mg : Str → Option Value} {ρ ρ' ρ1 ρ2 : Nat → Addr} {N N' N1 N2 : Nat} {H H' H1 H2 : Hp}
theorem Ext.refl : Ext K ρ N H ρ N H := ⟨⟨Nat.le_refl _, fun _ _ => rfl, fun _ _ h => h, fun _ _ _ h => h⟩, fun _ h h' => absurd h' (Nat.not_lt.mpr h), fun _ _ e _ => e, fun _ h => h, fun _ _ _ h => h⟩
theorem Ext.trans (a : Ext K ρ N H ρ1 N1 H1) (b : Ext K ρ1 N1 H1 ρ2 N2 H2) : Ext K ρ N H ρ2 N2 H2 where
  le := Nat.le_trans a.le b.le
  eq := fun n h => (b.eq n (Nat.lt_of_lt_of_le h a.le)).trans (a.eq n h)
  fresh := fun n h h' => by
    by_cases hn : n < N1
    · rw [b.eq n hn]
      exact a.fresh n h hn
    · exact a.free _ (b.fresh n (Nat.not_lt.mp hn) h')
  keep := fun c o e n => b.keep c o (a.keep c o e n) fun m hm q => by
    by_cases h : m < N
    · exact n m h ((a.eq m h).symm.trans q)
    · have f := a.fresh m (Nat.not_lt.mp h) hm
      rw [q, e] at f
      cases f
  free := fun c h => a.free c (b.free c h)
  tk := fun c xs h => b.tk c xs (a.tk c xs h)
  fz := fun c o xs h => b.fz c o xs (a.fz c o xs h)
  fa := fun c o xs h => b.fa c o xs (a.fa c o xs h)
mutual
theorem RV.mono (e : Up K ρ N H ρ' N' H') : ∀ {v : V} {x : AV}, RV K w mg ρ N H v x → RV K w mg ρ' N' H' v x
  | _, _, .non => .non
  | _, _, .bl b => .bl b
  | _, _, .int i => .int i
  | _, _, .str z h => .str z h
  | _, _, .ty n => .ty n
  | _, _, .ref n h => by
    rw [← e.eq n h]
    exact .ref n (Nat.lt_of_lt_of_le h e.le)
  | _, _, .cls c C h => .cls c C h
  | _, _, .tup h r => .tup (e.tk _ _ h) (RVs.mono e r)
  | _, _, .rl (a := a) (xs := xs) h f => by
    rcases f with f | ⟨o, f⟩
    · exact .rl (f _) (.inl f)
    · exact .rl (.inl (.inr ⟨o, e.fz _ _ _ f⟩)) (.inr ⟨o, e.fz _ _ _ f⟩)
  | _, _, .kd h => .kd h
theorem RVs.mono (e : Up K ρ N H ρ' N' H') : ∀ {vs : List V} {xs : List AV}, RVs K w mg ρ N H vs xs → RVs K w mg ρ' N' H' vs xs
  | _, _, .nil => .nil
  | _, _, .cons a t => .cons (RV.mono e a) (RVs.mono e t)
end
theorem RPs.mono {κ : Type} (e : Up K ρ N H ρ' N' H') : ∀ {us : List (κ × V)} {kvs : List (κ × AV)}, RPs K w mg ρ N H us kvs → RPs K w mg ρ' N' H' us kvs
  | _, _, .nil => .nil
  | _, _, .cons a t => .cons ⟨a.1, a.2.mono e⟩ (RPs.mono e t)
theorem RE.mono {σ : L2.St} {η : Nv} (e : Up K ρ N H ρ' N' H') (r : RE K w mg ρ N H σ η) : RE K w mg ρ' N' H' σ η :=
  ⟨r.1, fun i x h => let ⟨v, a, b⟩ := r.2 i x h; ⟨v, a, b.mono e⟩⟩
theorem RVs.length : ∀ {vs : List V} {xs : List AV}, RVs K w mg ρ N H vs xs → vs.length = xs.length
  | _, _, .nil => rfl
  | _, _, .cons _ t => by rw [List.length_cons, List.length_cons, RVs.length t]
theorem RVs.append : ∀ {vs us : List V} {xs ys : List AV}, RVs K w mg ρ N H vs xs → RVs K w mg ρ N H us ys → RVs K w mg ρ N H (vs ++ us) (xs ++ ys)
  | _, _, _, _, .nil, h => h
  | _, _, _, _, .cons a t, h => .cons a (RVs.append t h)
theorem RVs.get : ∀ {vs : List V} {xs : List AV} {i : Nat} {x : AV}, RVs K w mg ρ N H vs xs → xs[i]? = some x → ∃ v, vs[i]? = some v ∧ RV K w mg ρ N H v x
  | _, _, _, _, .nil, e => by simp at e
  | _, _, 0, _, .cons a _, e => ⟨_, rfl, by simpa using (Option.some.inj e) ▸ a⟩
  | _, _, i + 1, x, .cons _ t, e => by
    obtain ⟨v, h1, h2⟩ := RVs.get (i := i) (x := x) t (by simpa using e)
    exact ⟨v, by simpa using h1, h2⟩
theorem RVs.get' : ∀ {vs : List V} {xs : List AV} {i : Nat} {v : V}, RVs K w mg ρ N H vs xs → vs[i]? = some v → ∃ x, xs[i]? = some x ∧ RV K w mg ρ N H v x
  | _, _, _, _, .nil, e => by simp at e
  | _, _, 0, _, .cons a _, e => ⟨_, rfl, by simpa using (Option.some.inj e) ▸ a⟩
  | _, _, i + 1, x, .cons _ t, e => by
    obtain ⟨v, h1, h2⟩ := RVs.get' (i := i) (v := x) t (by simpa using e)
    exact ⟨v, by simpa using h1, h2⟩
theorem RVs.take : ∀ {vs : List V} {xs : List AV} (n : Nat), RVs K w mg ρ N H vs xs → RVs K w mg ρ N H (vs.take n) (xs.take n)
  | _, _, 0, _ => .nil
  | _, _, _ + 1, .nil => .nil
  | _, _, n + 1, .cons a t => .cons a (RVs.take n t)
theorem RVs.drop : ∀ {vs : List V} {xs : List AV} (n : Nat), RVs K w mg ρ N H vs xs → RVs K w mg ρ N H (vs.drop n) (xs.drop n)
  | _, _, 0, h => h
  | _, _, _ + 1, .nil => .nil
  | _, _, n + 1, .cons _ t => RVs.drop n t
theorem RVs.eraseIdx : ∀ {vs : List V} {xs : List AV} (n : Nat), RVs K w mg ρ N H vs xs → RVs K w mg ρ N H (vs.eraseIdx n) (xs.eraseIdx n)
  | _, _, _, .nil => .nil
  | _, _, 0, .cons _ t => t
  | _, _, n + 1, .cons a t => .cons a (RVs.eraseIdx n t)
theorem RVs.set {v : V} {x : AV} (r : RV K w mg ρ N H v x) : ∀ {vs : List V} {xs : List AV} (n : Nat), RVs K w mg ρ N H vs xs → RVs K w mg ρ N H (vs.set n v) (xs.set n x)
  | _, _, _, .nil => .nil
  | _, _, 0, .cons _ t => .cons r t
  | _, _, n + 1, .cons a t => .cons a (RVs.set r n t)
theorem RVs.reverse : ∀ {vs : List V} {xs : List AV}, RVs K w mg ρ N H vs xs → RVs K w mg ρ N H vs.reverse xs.reverse
  | _, _, .nil => .nil
  | _, _, .cons a t => by
    rw [List.reverse_cons, List.reverse_cons]
    exact (RVs.reverse t).append (.cons a .nil)
theorem RPs.length {κ : Type} {us : List (κ × V)} {kvs : List (κ × AV)} (h : RPs K w mg ρ N H us kvs) : us.length = kvs.length := Paired.length h
theorem RO.live {a : Addr} {o : AO} (r : RO K w mg ρ N H a o) : ∃ u, H a = some u := by
  cases o with
  | lst xs => obtain ⟨_, _, e, _⟩ := r; exact ⟨_, e⟩
  | dict xs => obtain ⟨_, _, e, _⟩ := r; exact ⟨_, e⟩
  | lck xs => obtain ⟨_, _, _, e, _⟩ := r; exact ⟨_, e⟩
  | ins c fs => obtain ⟨_, _, _, _, _, e, _⟩ := r; exact ⟨_, e⟩
theorem RO.mono {a : Addr} {o : AO} (e : Up K ρ N H ρ' N' H') (k : H' a = H a) (r : RO K w mg ρ N H a o) : RO K w mg ρ' N' H' a o := by
  cases o with
  | lst xs => obtain ⟨z, vs, h, r⟩ := r; exact ⟨z, vs, k.trans h, r.mono e⟩
  | dict xs => obtain ⟨z, vs, h, r⟩ := r; exact ⟨z, vs, k.trans h, r.mono e⟩
  | lck xs => obtain ⟨z, ob, vs, h, r⟩ := r; exact ⟨z, ob, vs, k.trans h, r.mono e⟩
  | ins c fs => obtain ⟨z, C, dx, us, m, h, r⟩ := r; exact ⟨z, C, dx, us, m, k.trans h, r.mono e⟩
end
/-- what is at an address next -/
def rho (ρ : Nat → Addr) (N : Nat) (p : Addr) : Nat → Addr := fun n => if n = N then p else ρ n
section
variable {K : PySem.W.Frag} {w : World} {mg : Str → Option Value} {ρ ρ' : Nat → Addr} {N N' : Nat} {H H' : Hp} {S : Sto}
theorem tk_upd {p : Addr} {o : HO} (h : ∀ u, H p = some u → (∀ x, u ≠ .tup x) ∧ ∀ ob x, u ≠ .frz ob x) : ∀ a xs, SqT K H a xs → SqT K (upd H p o) a xs := by
  intro a xs q
  rcases q with (q | ⟨ob, q⟩) | q
  · have n : a ≠ p := fun z => by subst z; exact (h _ q).1 _ rfl
    exact .inl (.inl (by rw [upd_ne n]; exact q))
  · have n : a ≠ p := fun z => by subst z; exact (h _ q).2 _ _ rfl
    exact .inl (.inr ⟨ob, by rw [upd_ne n]; exact q⟩)
  · exact .inr q
theorem fz_upd {p : Addr} {o : HO} (h : ∀ u, H p = some u → ∀ ob x, u ≠ .frz ob x) : ∀ a ob xs, H a = some (.frz ob xs) → upd H p o a = some (.frz ob xs) := by
  intro a ob xs q
  have n : a ≠ p := fun z => by subst z; exact h _ q _ _ rfl
  rw [upd_ne n]
  exact q
theorem fzl_upd {p : Addr} {o : HO} (h : ∀ u, H p = some u → ∀ ob x, u ≠ .frz ob x) : ∀ a ob xs, H a = some (.frz ob (.lst xs)) → upd H p o a = some (.frz ob (.lst xs)) := fun a ob xs q => fz_upd h a ob (.lst xs) q
theorem Up.other {p : Addr} {o : HO} (n : H p = none) : Up K ρ N H ρ N (upd H p o) := ⟨Nat.le_refl _, fun _ _ => rfl, tk_upd (fun u e => by rw [n] at e; cases e), fzl_upd (fun u e => by rw [n] at e; cases e)⟩
/-- a new tracked object that is no store's -/
theorem Ext.other {p : Addr} {o : HO} (n : H p = none) : Ext K ρ N H ρ N (upd H p o) :=
  ⟨Up.other n, fun _ h h' => absurd h' (Nat.not_lt.mpr h), fun a u e _ => by rw [upd_ne (ne_of_none e n)]; exact e,
    fun a e => by
      by_cases z : a = p
      · subst z; exact n
      · rw [upd_ne z] at e; exact e, fz_upd fun u e => by rw [n] at e; cases e⟩
theorem Ext.fresh1 {p : Addr} {o : HO} (n : H p = none) : Ext K ρ N H (rho ρ N p) (N + 1) (upd H p o) where
  le := Nat.le_succ _
  eq := fun m h => by unfold rho; rw [if_neg (Nat.ne_of_lt h)]
  fresh := fun m h h' => by
    have : m = N := Nat.le_antisymm (Nat.le_of_lt_succ h') h
    subst this
    unfold rho
    rw [if_pos rfl]
    exact n
  keep := fun a u e _ => by rw [upd_ne (ne_of_none e n)]; exact e
  free := fun a e => by
    by_cases z : a = p
    · subst z; exact n
    · rw [upd_ne z] at e; exact e
  tk := tk_upd fun u e => by rw [n] at e; cases e
  fz := fzl_upd fun u e => by rw [n] at e; cases e
  fa := fz_upd fun u e => by rw [n] at e; cases e
theorem RS.mono (r : RS K w mg ρ H S) (e : Ext K ρ S.length H ρ S.length H') (k : ∀ n, n < S.length → H' (ρ n) = H (ρ n)) : RS K w mg ρ H' S :=
  ⟨r.inj, fun n o h => (r.obj n o h).mono e.toUp (k n (List.getElem?_eq_some_iff.mp h).1)⟩
theorem RS.ne_new {p : Addr} (r : RS K w mg ρ H S) (n : H p = none) {m : Nat} (h : m < S.length) : ρ m ≠ p := fun z => by
  obtain ⟨u, e⟩ := (r.obj m _ (List.getElem?_eq_getElem h)).live
  rw [z, n] at e
  cases e
/-- the kinds of object that may be written -/
def Own (u : HO) : Prop := (∀ x, u ≠ .tup x) ∧ ∀ ob x, u ≠ .frz ob x
/-- .. laid -/
theorem RS.other {p : Addr} {o : HO} (r : RS K w mg ρ H S) (n : H p = none) : RS K w mg ρ (upd H p o) S :=
  r.mono (Ext.other n) fun m h => upd_ne (r.ne_new n h)
theorem Up.laid {p : Addr} {u : HO} (ow : ∀ u, H p = some u → Own u) : Up K ρ N H (rho ρ N p) (N + 1) (upd H p u) :=
  ⟨Nat.le_succ _, fun m h => by unfold rho; rw [if_neg (Nat.ne_of_lt h)], tk_upd ow, fzl_upd (fun u e ob x => (ow u e).2 ob _)⟩
/-- .. where something stood that is no store's -/
theorem RS.laidAt {p : Addr} {u : HO} {o : AO} (r : RS K w mg ρ H S) (hp : ∀ m, m < S.length → ρ m ≠ p) (ow : ∀ u, H p = some u → Own u) (h : RO K w mg (rho ρ S.length p) (S.length + 1) (upd H p u) p o) : RS K w mg (rho ρ S.length p) (upd H p u) (S ++ [o]) where
  inj := fun i j hi hj e => by
    rw [List.length_append] at hi hj
    have hi' : i < S.length + 1 := hi
    have hj' : j < S.length + 1 := hj
    unfold rho at e
    by_cases ei : i = S.length <;> by_cases ej : j = S.length
    · rw [ei, ej]
    · rw [if_pos ei, if_neg ej] at e
      exact absurd e.symm (hp _ (by omega))
    · rw [if_neg ei, if_pos ej] at e
      exact absurd e (hp _ (by omega))
    · rw [if_neg ei, if_neg ej] at e
      exact r.inj i j (by omega) (by omega) e
  obj := fun m q hq => by
    have hl : (S ++ [o]).length = S.length + 1 := by rw [List.length_append]; rfl
    rw [hl]
    by_cases em : m < S.length
    · rw [List.getElem?_append_left em] at hq
      have e1 : rho ρ S.length p m = ρ m := by unfold rho; rw [if_neg (Nat.ne_of_lt em)]
      rw [e1]
      exact (r.obj m q hq).mono (Up.laid ow) (upd_ne (hp _ em))
    · have em2 : m = S.length := by
        have := (List.getElem?_eq_some_iff.mp hq).1
        rw [hl] at this
        omega
      subst em2
      rw [List.getElem?_append_right (Nat.le_refl _), Nat.sub_self] at hq
      have : o = q := Option.some.inj hq
      subst this
      have e1 : rho ρ S.length p S.length = p := by unfold rho; rw [if_pos rfl]
      rw [e1]
      exact h
theorem RS.laid {p : Addr} {u : HO} {o : AO} (r : RS K w mg ρ H S) (n : H p = none) (h : RO K w mg (rho ρ S.length p) (S.length + 1) (upd H p u) p o) : RS K w mg (rho ρ S.length p) (upd H p u) (S ++ [o]) :=
  r.laidAt (fun m h => r.ne_new n h) (fun u e => by rw [n] at e; cases e) h
/-- a new thing where one was laid meanwhile -/
theorem Ext.laidAt {ρ2 : Nat → Addr} {N2 : Nat} {H2 : Hp} {p : Addr} {u : HO} (e : Ext K ρ N H ρ2 N2 H2) (n0 : H p = none) (ow : ∀ u, H2 p = some u → Own u) : Ext K ρ N H (rho ρ2 N2 p) (N2 + 1) (upd H2 p u) where
  le := Nat.le_succ_of_le e.le
  eq := fun n h => by
    unfold rho
    rw [if_neg (Nat.ne_of_lt (Nat.lt_of_lt_of_le h e.le))]
    exact e.eq n h
  fresh := fun n h h' => by
    unfold rho
    by_cases z : n = N2
    · rw [if_pos z]; exact n0
    · rw [if_neg z]; exact e.fresh n h (by omega)
  keep := fun a o q m => by rw [upd_ne (ne_of_none q n0)]; exact e.keep a o q m
  free := fun a q => by
    by_cases z : a = p
    · subst z; exact n0
    · rw [upd_ne z] at q; exact e.free a q
  tk := fun a xs q => tk_upd (fun u h => ow u h) a xs (e.tk a xs q)
  fz := fun a ob xs q => fzl_upd (fun u h ob x => (ow u h).2 ob _) a ob xs (e.fz a ob xs q)
  fa := fun a ob xs q => fz_upd (fun u h ob x => (ow u h).2 ob _) a ob xs (e.fa a ob xs q)
theorem Ext.put {n : Nat} {u u' : HO} (hn : n < N) (h : H (ρ n) = some u) (ow : Own u) : Ext K ρ N H ρ N (upd H (ρ n) u') where
  le := Nat.le_refl _
  eq := fun _ _ => rfl
  fresh := fun _ h h' => absurd h' (Nat.not_lt.mpr h)
  keep := fun a o e q => by rw [upd_ne (fun z => q n hn z.symm)]; exact e
  free := fun a e => by
    by_cases z : a = ρ n
    · subst z; rw [upd_same] at e; cases e
    · rw [upd_ne z] at e; exact e
  tk := tk_upd fun v e => by rw [h] at e; cases e; exact ow
  fz := fzl_upd fun v e => by rw [h] at e; cases e; exact fun ob x => ow.2 ob _
  fa := fz_upd fun v e => by rw [h] at e; cases e; exact fun ob x => ow.2 ob _
/-- .. written -/
theorem RS.put {n : Nat} {u u' : HO} {o : AO} (r : RS K w mg ρ H S) (hn : n < S.length) (h : H (ρ n) = some u) (ow : Own u) (new : RO K w mg ρ S.length (upd H (ρ n) u') (ρ n) o) : RS K w mg ρ (upd H (ρ n) u') (S.set n o) where
  inj := fun i j hi hj e => by
    rw [List.length_set] at hi hj
    exact r.inj i j hi hj e
  obj := fun m q hq => by
    rw [List.length_set]
    by_cases em : m = n
    · subst em
      rw [List.getElem?_set_self hn] at hq
      have : o = q := Option.some.inj hq
      subst this
      exact new
    · rw [List.getElem?_set_ne (Ne.symm em)] at hq
      have hm := (List.getElem?_eq_some_iff.mp hq).1
      exact (r.obj m q hq).mono (Ext.put hn h ow).toUp (upd_ne fun z => em (r.inj m n hm hn z))
end
end Sim

set_option Elab.async false
set_option linter.all false
set_option maxRecDepth 100000
set_option maxHeartbeats 4000000
/-! S1: what is wanted of a result; the judgements; names, constants, two-place operations. -/
namespace Sim
open PySem PySem.Spec PyProof.Rows L2
section
variable (K : PySem.W.Frag) (w : World) (mg : Str → Option Value)
/-- an exception: its class's name, its fields -/
def RX (ρ : Nat → Addr) (N : Nat) (H : Hp) (cls : Value) (d : Option Addr) (c : Str) (fs : List (Str × AV)) : Prop :=
  (mg c = some cls ∨ (mg c = none ∧ bootBuiltins c = some cls)) ∧ ((d = none ∧ fs = []) ∨ ∃ dx us, d = some dx ∧ H dx = some (.xd us) ∧ RPs K w mg ρ N H us fs)
/-- what is wanted of a result -/
def Post {α β : Type} (Rel : (Nat → Addr) → Nat → Hp → β → α → Prop) (ρ : Nat → Addr) (N : Nat) (H : Hp) (Q : β → Hp → Prop) (E : XK) : R α → Prop
  | .ok a S' => ∀ ρ' x H', Ext K ρ N H ρ' S'.length H' → RS K w mg ρ' H' S' → Rel ρ' S'.length H' x a → Q x H'
  | .ex c fs S' => ∀ ρ' cls d H', Ext K ρ N H ρ' S'.length H' → RS K w mg ρ' H' S' → RX K w mg ρ' S'.length H' cls d c fs → E cls d H'
  | .bad => False
def Rb : (Nat → Addr) → Nat → Hp → Bool → Bool → Prop := fun _ _ _ a b => a = b
def Ro : (Nat → Addr) → Nat → Hp → Option Int → Option Int → Prop := fun _ _ _ a b => a = b
abbrev PostV := Post K w mg (RV K w mg)
abbrev PostL := Post K w mg (RVs K w mg)
abbrev PostB := Post K w mg Rb
structure At (ρ : Nat → Addr) (S : Sto) (σ : L2.St) (η : Nv) (H : Hp) : Prop where
  rs : RS K w mg ρ H S
  re : RE K w mg ρ S.length H σ η
abbrev DE := Nv → M AV
abbrev DB := Nv → M Bool
abbrev DL := Nv → M (List AV)
abbrev wx (W : WX) (σ : L2.St) : XK := fun c d H' => W c d σ H'
/-- a reading by a plain function -/
def tG {α β : Type} (Rel : (Nat → Addr) → Nat → Hp → β → α → Prop) (W : WX) (d : Nv → M α) (σ : L2.St) (H : Hp) (Q : β → Hp → Prop) : Prop :=
  ∃ ρ S η, At K w mg ρ S σ η H ∧ Post K w mg Rel ρ S.length H Q (wx W σ) (d η S)
abbrev tD (W : WX) (d : DE) : TE := tG K w mg (RV K w mg) W d
abbrev tDB (W : WX) (d : DB) : TT := tG K w mg Rb W d
abbrev tDL (W : WX) (d : DL) : TA := tG K w mg (RVs K w mg) W d
end
section
variable {K : PySem.W.Frag} {w : World} {mg : Str → Option Value} {α β γ δ : Type} {Rel : (Nat → Addr) → Nat → Hp → β → α → Prop} {Rel' : (Nat → Addr) → Nat → Hp → δ → γ → Prop} {ρ ρ' : Nat → Addr} {N N' : Nat} {H H' : Hp} {Q Q' : β → Hp → Prop} {E E' : XK} {r : R α} {W : WX} {σ : L2.St} {η : Nv} {S : Sto}
theorem Post.mono (h : Post K w mg Rel ρ N H Q E r) (q : ∀ x H', Q x H' → Q' x H') (e : ∀ c d H', E c d H' → E' c d H') : Post K w mg Rel ρ N H Q' E' r := by
  cases r with
  | ok a S => exact fun ρ' x H' e1 r1 v => q _ _ (h ρ' x H' e1 r1 v)
  | ex c fs S => exact fun ρ' cls d H' e1 r1 v => e _ _ _ (h ρ' cls d H' e1 r1 v)
  | bad => exact h
theorem Post.step (e : Ext K ρ N H ρ' N' H') (h : Post K w mg Rel ρ N H Q E r) : Post K w mg Rel ρ' N' H' Q E r := by
  cases r with
  | ok a S => exact fun ρ2 x H2 e1 r1 v => h ρ2 x H2 (e.trans e1) r1 v
  | ex c fs S => exact fun ρ2 cls d H2 e1 r1 v => h ρ2 cls d H2 (e.trans e1) r1 v
  | bad => exact h
theorem At.on (a : At K w mg ρ S σ η H) {S' : Sto} (e : Ext K ρ S.length H ρ' S'.length H') (r : RS K w mg ρ' H' S') : At K w mg ρ' S' σ η H' := ⟨r, a.re.mono e.toUp⟩
theorem tG.mono {d : Nv → M α} (h : tG K w mg Rel W d σ H Q) (q : ∀ x H', Q x H' → Q' x H') : tG K w mg Rel W d σ H Q' := by
  obtain ⟨ρ, S, η, a, p⟩ := h
  exact ⟨ρ, S, η, a, p.mono q fun _ _ _ h => h⟩
/-- .. at the level of results -/
theorem Post.bind {r : R α} {k : α → Sto → R γ} {Q2 : δ → Hp → Prop} (p : Post K w mg Rel' ρ N H Q2 E (r.bind k)) :
    Post K w mg Rel ρ N H (fun x H1 => ∃ ρ1 S1 v, r = .ok v S1 ∧ Ext K ρ N H ρ1 S1.length H1 ∧ RS K w mg ρ1 H1 S1 ∧ Rel ρ1 S1.length H1 x v ∧ Post K w mg Rel' ρ1 S1.length H1 Q2 E (k v S1)) E r := by
  cases r with
  | ok v S1 => exact fun ρ1 x H1 e1 r1 v1 => ⟨ρ1, S1, v, rfl, e1, r1, v1, p.step e1⟩
  | ex c fs S1 => exact p
  | bad => exact p
/-- one thing, then another -/
theorem tG.bind {d : Nv → M α} {k : α → Sto → R γ} {Q2 : δ → Hp → Prop} (a : At K w mg ρ S σ η H) (p : Post K w mg Rel' ρ S.length H Q2 (wx W σ) ((d η S).bind k)) :
    tG K w mg Rel W d σ H fun x H1 => ∃ ρ1 S1 v, d η S = .ok v S1 ∧ At K w mg ρ1 S1 σ η H1 ∧ Ext K ρ S.length H ρ1 S1.length H1 ∧ Rel ρ1 S1.length H1 x v ∧ Post K w mg Rel' ρ1 S1.length H1 Q2 (wx W σ) (k v S1) := by
  refine ⟨ρ, S, η, a, ?_⟩
  cases e : d η S with
  | ok v S1 =>
    rw [e] at p
    exact fun ρ1 x H1 e1 r1 v1 => ⟨ρ1, S1, v, rfl, a.on e1 r1, e1, v1, p.step e1⟩
  | ex c fs S1 =>
    rw [e] at p
    exact p
  | bad =>
    rw [e] at p
    exact p
end

/-! ### the judgements -/
def SE (X : Cx) (W : WX) (e : Expr) (d : DE) : Prop := PE X e (tD X.K X.w X.mg W d)
def ST (X : Cx) (W : WX) (e : Expr) (d : DB) : Prop := PT X e (tDB X.K X.w X.mg W d)
def SW (X : Cx) (W : WX) (e : Expr) (d : DB) : Prop := PW X e (tDB X.K X.w X.mg W d)
def SA (X : Cx) (W : WX) (es : List Expr) (d : DL) : Prop := PA X es (tDL X.K X.w X.mg W d)
theorem PE.imp {X : Cx} {e : Expr} {t t' : TE} (p : PE X e t) (h : ∀ σ H Q, t' σ H Q → t σ H Q) : PE X e t' := ⟨fun pins s σ H Q I q => p.run pins s σ H Q I (h σ H Q q)⟩
theorem PE.or {X : Cx} {e : Expr} {t t' : TE} (p : PE X e t) (p' : PE X e t') : PE X e fun σ H Q => t σ H Q ∨ t' σ H Q := ⟨fun pins s σ H Q I q => q.elim (p.run pins s σ H Q I) (p'.run pins s σ H Q I)⟩
theorem PT.imp {X : Cx} {e : Expr} {t t' : TT} (p : PT X e t) (h : ∀ σ H Q, t' σ H Q → t σ H Q) : PT X e t' := ⟨fun pins s σ H Q I q => p.run pins s σ H Q I (h σ H Q q)⟩
theorem PW.imp {X : Cx} {e : Expr} {t t' : TT} (p : PW X e t) (h : ∀ σ H Q, t' σ H Q → t σ H Q) : PW X e t' := ⟨fun wh pins s σ H Q I q => p.run wh pins s σ H Q I (h σ H Q q)⟩
theorem PA.imp {X : Cx} {es : List Expr} {t t' : TA} (p : PA X es t) (h : ∀ σ H Q, t' σ H Q → t σ H Q) : PA X es t' := ⟨fun pos pins s σ H Q I q => p.run pos pins s σ H Q I (h σ H Q q)⟩
theorem PS.imp {X : Cx} {st : Stmt} {t t' : TS} (p : PS X st t) (h : ∀ D σ H, t' D σ H → t D σ H) : PS X st t' := ⟨fun pins s σ H D I q => p.run pins s σ H D I (h D σ H q)⟩
theorem PSs.imp {X : Cx} {st : List Stmt} {t t' : TS} (p : PSs X st t) (h : ∀ D σ H, t' D σ H → t D σ H) : PSs X st t' := ⟨fun pins s σ H D I q => p.run pins s σ H D I (h D σ H q)⟩

/-! ### names, constants -/
def dV (i : Nat) : DE := fun η S => match η[i]? with | some (some v) => .ok v S | _ => .bad
def dC (v : AV) : DE := fun _ S => .ok v S
section
variable {X : Cx} {W : WX}
theorem ret_at {K : PySem.W.Frag} {w : World} {mg : Str → Option Value} {ρ : Nat → Addr} {S : Sto} {σ : L2.St} {η : Nv} {H : Hp} {α β : Type} {Rel : (Nat → Addr) → Nat → Hp → β → α → Prop} {Q : β → Hp → Prop} {E : XK} {x : β} {v : α} (a : At K w mg ρ S σ η H) (r : Rel ρ S.length H x v) (p : Post K w mg Rel ρ S.length H Q E (.ok v S)) : Q x H :=
  p ρ x H Ext.refl a.rs r
theorem se_v (i : Nat) {x : Str} {pos : Pos} (hN : X.N[i]? = some x := by rfl) (hv : Vis X.env.scope x := by first | exact Or.inl rfl | exact Or.inr (Or.inl rfl) | exact Or.inr (Or.inr rfl)) (hd : (x == ("__debug__" : Str)) = false := by decide)
    (hcd : (x == ("__classdict__" : Str)) = false := by decide) : SE X W (.Name x pos) (dV i) :=
  PE.imp (pe_var hN hv hd hcd) fun σ H Q ⟨ρ, S, η, a, p⟩ => by
    unfold dV at p
    split at p
    · rename_i v e
      obtain ⟨u, h1, h2⟩ := a.re.2 i v e
      exact ⟨u, h1, ret_at a h2 p⟩
    · exact p.elim
theorem se_c {e : Expr} {v : V} {x : AV} (p : PE X e (tC v)) (r : ∀ ρ N H, RV X.K X.w X.mg ρ N H v x) : SE X W e (dC x) := PE.imp p fun σ H Q ⟨ρ, S, η, a, q⟩ => ret_at a (r _ _ _) q
theorem se_int {i j pos} : SE X W (.Constant (.int i) j pos) (dC (.int i)) := se_c pe_int fun _ _ _ => .int i
theorem se_bl {i j pos} : SE X W (.Constant (.bool i) j pos) (dC (.bl i)) := se_c pe_bl fun _ _ _ => .bl i
theorem se_non {j pos} : SE X W (.Constant .none j pos) (dC .non) := se_c pe_non fun _ _ _ => .non
theorem se_str {z j pos} (h : okB z = true := by decide +kernel) : SE X W (.Constant (.str z) j pos) (dC (.str z)) := se_c pe_str fun _ _ _ => .str z (okS_of h)
theorem se_ty {x : Str} {n : String} {pos : Pos} (hg : Gl X x) (hm : X.mg x = none) (hv : bootBuiltins x = some (.type n)) (hn : x ≠ "__name__" := by decide) (hd : (x == ("__debug__" : Str)) = false := by decide) : SE X W (.Name x pos) (dC (.ty n)) :=
  se_c (pe_bltn (v := .ty n) hg hm hv rfl hn hd) fun _ _ _ => .ty n
theorem se_cls {x : Str} {pos : Pos} (hg : Gl X x) (hm : ∃ C, X.mg x = some (.ref C)) (hd : (x == ("__debug__" : Str)) = false := by decide) : SE X W (.Name x pos) (dC (.cls x)) := by
  obtain ⟨C, hm⟩ := hm
  exact se_c (pe_glob (v := .ref C) hg hm rfl hd) fun _ _ _ => .cls x C hm
theorem se_gint {x : Str} {i : Int} {pos : Pos} (hg : Gl X x) (hm : ∃ t, X.mg x = some (.int i t)) (hd : (x == ("__debug__" : Str)) = false := by decide) : SE X W (.Name x pos) (dC (.int i)) := by
  obtain ⟨t, hm⟩ := hm
  exact se_c (pe_glob (v := .int i) hg hm ⟨t, rfl⟩ hd) fun _ _ _ => .int i
theorem se_gstr {x z : Str} {pos : Pos} (hg : Gl X x) (hm : ∃ t, X.mg x = some (.str z t)) (h : okB z = true := by decide +kernel) (hd : (x == ("__debug__" : Str)) = false := by decide) : SE X W (.Name x pos) (dC (.str z)) := by
  obtain ⟨t, hm⟩ := hm
  exact se_c (pe_glob (v := .str z) hg hm ⟨t, rfl⟩ hd) fun _ _ _ => .str z (okS_of h)
/-- a tuple of texts of the module -/
theorem rvs_strs {K : PySem.W.Frag} {w : World} {mg : Str → Option Value} {ρ : Nat → Addr} {N : Nat} {H : Hp} : ∀ zs : List Str, zs.all okB = true → RVs K w mg ρ N H (zs.map V.str) (zs.map AV.str)
  | [], _ => .nil
  | z :: zs, h => by
    rw [List.all_cons, Bool.and_eq_true] at h
    exact .cons (.str z (okS_of h.1)) (rvs_strs zs h.2)
theorem se_gtup {x : Str} {zs : List Str} {pos : Pos} (hg : Gl X x) (hm : ∃ a, X.mg x = some (.ref a) ∧ ∀ H, SqT X.K H a (zs.map V.str)) (h : zs.all okB = true := by decide +kernel) (hd : (x == ("__debug__" : Str)) = false := by decide) : SE X W (.Name x pos) (dC (.tup (zs.map AV.str))) := by
  obtain ⟨a, hm, t⟩ := hm
  exact se_c (pe_glob (v := .ref a) hg hm rfl hd) fun _ _ H => .tup (t H) (rvs_strs zs h)
theorem se_gkd {x : Str} {kvs : List (Str × Option Int)} {pos : Pos} (hg : Gl X x) (hm : ∃ a, X.mg x = some (.ref a) ∧ KdAt X.K X.w a kvs) (hd : (x == ("__debug__" : Str)) = false := by decide) : SE X W (.Name x pos) (dC (.kd kvs)) := by
  obtain ⟨a, hm, t⟩ := hm
  exact se_c (pe_glob (v := .ref a) hg hm rfl hd) fun _ _ H => .kd t
end

/-! ### one thing, then another -/
def bind1 {α β : Type} (d : Nv → M α) (f : α → M β) : Nv → M β := fun η S => (d η S).bind f
def bind2 {α β γ : Type} (d : Nv → M α) (e : Nv → M β) (f : α → β → M γ) : Nv → M γ := fun η S => (d η S).bind fun x S1 => (e η S1).bind fun y S2 => f x y S2
section
variable {X : Cx} {W : WX} {a b : Expr} {da db : DE} {pos : Pos}
abbrev Rs (X : Cx) := RS X.K X.w X.mg
abbrev Rv (X : Cx) := RV X.K X.w X.mg
abbrev Pv (X : Cx) := PostV X.K X.w X.mg
/-- what an operation's reading is to give, by the plain function -/
def Op2 (X : Cx) (r : R2) (f : AV → AV → M AV) : Prop := ∀ ρ H S x y u v Q E, Rs X ρ H S → Rv X ρ S.length H x u → Rv X ρ S.length H y v → Pv X ρ S.length H Q E (f u v S) → r x y H Q
theorem imp2 {ta tb : TE} {r : R2} {f : AV → AV → M AV} (h : Op2 X r f) {σ : L2.St} {H : Hp} {Q : VK} (q : tD X.K X.w X.mg W (bind2 da db f) σ H Q) : tOp r (tD X.K X.w X.mg W da) (tD X.K X.w X.mg W db) σ H Q := by
  obtain ⟨ρ, S, η, at0, p⟩ := q
  refine (tG.bind at0 p).mono fun x H1 ⟨ρ1, S1, u, _, at1, e1, r1, p1⟩ => ?_
  refine (tG.bind at1 p1).mono fun y H2 ⟨ρ2, S2, v, _, at2, e2, r2, p2⟩ => ?_
  exact h ρ2 H2 S2 x y u v Q _ at2.rs (r1.mono e2.toUp) r2 p2
theorem se_op {op : Operator} {r : R2} {f : AV → AV → M AV} (ho : OpR X (binaryOp op) r) (hf : Op2 X r f) (ha : SE X W a da) (hb : SE X W b db) : SE X W (.BinOp a op b pos) (bind2 da db f) :=
  PE.imp (pe_op ho ha hb) fun σ H Q q => imp2 (ta := tD X.K X.w X.mg W da) (tb := tD X.K X.w X.mg W db) hf q
theorem se_cmp {op : CmpOp} {r : R2} {f : AV → AV → M AV} (ho : OpR X (compareOp op) r) (hf : Op2 X r f) (ha : SE X W a da) (hb : SE X W b db) (hm : behindInMarks op b = false) : SE X W (.Compare a [op] [b] pos) (bind2 da db f) :=
  PE.imp (pe_cmpR ho ha hb hm) fun σ H Q q => imp2 (ta := tD X.K X.w X.mg W da) (tb := tD X.K X.w X.mg W db) hf q
def Op1 (X : Cx) (r : V → Hp → VK → Prop) (f : AV → M AV) : Prop := ∀ ρ H S x u Q E, Rs X ρ H S → Rv X ρ S.length H x u → Pv X ρ S.length H Q E (f u S) → r x H Q
theorem se_un {op : UnaryOp} {r : V → Hp → VK → Prop} {f : AV → M AV} (ho : UnR X (unaryOp op) r) (hf : Op1 X r f) (ha : SE X W a da) : SE X W (.UnaryOp op a pos) (bind1 da f) :=
  PE.imp (pe_un ho ha) fun σ H Q ⟨ρ, S, η, at0, p⟩ => (tG.bind at0 p).mono fun x H1 ⟨ρ1, S1, u, _, at1, e1, r1, p1⟩ => hf ρ1 H1 S1 x u Q _ at1.rs r1 p1
end
end Sim

set_option Elab.async false
set_option linter.all false
set_option maxRecDepth 100000
set_option maxHeartbeats 4000000
/-! S2: operations on values. -/
namespace Sim
open PySem PySem.Spec PyProof.Rows L2
theorem slen_app (x y : Str) : (x ++ y).length = x.length + y.length := by
  show (x.cps ++ y.cps).size = x.cps.size + y.cps.size
  exact Array.size_append
theorem stl_app (x y : Str) : (x ++ y).cps.toList = x.cps.toList ++ y.cps.toList := by
  show (x.cps ++ y.cps).toList = _
  exact Array.toList_append
theorem okS.app {x y : Str} (h : okS x) (h' : okS y) (l : x.length + y.length ≤ sizeLine) : okS (x ++ y) := ⟨by rw [slen_app]; exact l, fun c hc => by
  rw [stl_app, List.mem_append] at hc
  exact hc.elim (h.all c) (h'.all c)⟩
/-- a text's part -/
theorem okS.sub {x y : Str} (h : okS x) (l : y.length ≤ x.length) (s : ∀ c ∈ y.cps.toList, c ∈ x.cps.toList) : okS y := ⟨Nat.le_trans l h.len, fun c hc => h.all c (s c hc)⟩
section
variable {K : PySem.W.Frag} {w : World} {mg : Str → Option Value} {ρ : Nat → Addr} {S : Sto} {H : Hp} {Q : VK} {E : XK}
theorem Post.fin {v : AV} {x : V} (p : PostV K w mg ρ S.length H Q E (.ok v S)) (rs : RS K w mg ρ H S) (r : RV K w mg ρ S.length H x v) : Q x H := p ρ x H Ext.refl rs r
theorem Post.int {i : Int} (p : PostV K w mg ρ S.length H Q E (.ok (.int i) S)) (rs : RS K w mg ρ H S) : Q (.int i) H := p.fin rs (.int i)
theorem Post.bl {i : Bool} (p : PostV K w mg ρ S.length H Q E (.ok (.bl i) S)) (rs : RS K w mg ρ H S) : Q (.bl i) H := p.fin rs (.bl i)
theorem Post.tup {xs : List AV} {vs : List V} {p : Addr} (h : PostV K w mg ρ S.length H Q E (.ok (.tup xs) S)) (rs : RS K w mg ρ H S) (n : H p = none) (r : RVs K w mg ρ S.length H vs xs) : Q (.ref p) (upd H p (.tup vs)) :=
  h ρ _ _ (Ext.other n) (rs.other n) (.tup (SqT.of upd_same) (r.mono (Up.other n)))
theorem Post.new {o : AO} {u : HO} {p : Addr} (h : PostV K w mg ρ S.length H Q E (.ok (.ref S.length) (S ++ [o]))) (rs : RS K w mg ρ H S) (n : H p = none) (r : RO K w mg (rho ρ S.length p) (S.length + 1) (upd H p u) p o) : Q (.ref p) (upd H p u) := by
  have hl : (S ++ [o]).length = S.length + 1 := by rw [List.length_append]; rfl
  have e1 : rho ρ S.length p S.length = p := by unfold rho; rw [if_pos rfl]
  refine h (rho ρ S.length p) _ _ (by rw [hl]; exact Ext.fresh1 n) (rs.laid n r) ?_
  have q := RV.ref (K := K) (w := w) (mg := mg) (ρ := rho ρ S.length p) (N := (S ++ [o]).length) (H := upd H p u) S.length (by rw [hl]; exact Nat.lt_succ_self _)
  rw [e1] at q
  exact q
theorem Post.newL {xs : List AV} {vs : List V} {p : Addr} (h : PostV K w mg ρ S.length H Q E (.ok (.ref S.length) (S ++ [.lst xs]))) (rs : RS K w mg ρ H S) (n : H p = none) (hl : xs.length ≤ sizeLine) (r : RVs K w mg ρ S.length H vs xs) : Q (.ref p) (upd H p (.lst vs)) :=
  h.new rs n ⟨hl, vs, upd_same, r.mono (Ext.fresh1 n).toUp⟩
theorem Post.newD {xs : List (Key × AV)} {vs : List (Key × V)} {p : Addr} (h : PostV K w mg ρ S.length H Q E (.ok (.ref S.length) (S ++ [.dict xs]))) (rs : RS K w mg ρ H S) (n : H p = none) (hl : dOk xs) (r : RPs K w mg ρ S.length H vs xs) : Q (.ref p) (upd H p (.dK vs)) :=
  h.new rs n ⟨hl, vs, upd_same, r.mono (Ext.fresh1 n).toUp⟩
end
/-- a reference's object -/
theorem RV.obj {K : PySem.W.Frag} {w : World} {mg : Str → Option Value} {ρ : Nat → Addr} {S : Sto} {H : Hp} {n : Nat} {o : AO} {x : V} (rs : RS K w mg ρ H S) (r : RV K w mg ρ S.length H x (.ref n)) (h : S[n]? = some o) : x = .ref (ρ n) ∧ RO K w mg ρ S.length H (ρ n) o := by
  cases r
  exact ⟨rfl, rs.obj n o h⟩

/-! ### arithmetic -/
def aAdd (u v : AV) : M AV := fun S => match u, v with
  | .int i, .int j => .ok (.int (i + j)) S
  | .str x, .str y => if x.length + y.length ≤ sizeLine then .ok (.str (x ++ y)) S else .bad
  | .tup xs, .tup ys => if xs.length + ys.length ≤ sizeLine then .ok (.tup (xs ++ ys)) S else .bad
  | .ref a, .ref b => match S[a]?, S[b]? with
    | some (.lst xs), some (.lst ys) => if xs.length + ys.length ≤ sizeLine then .ok (.ref S.length) (S ++ [.lst (xs ++ ys)]) else .bad
    | _, _ => .bad
  | _, _ => .bad
def rAdd4 (K : PySem.W.Frag) : R2 := fun x y H Q => rI0 (fun i j => .int (i + j)) x y H Q ∨ (∃ i j, x = .str i ∧ y = .str j ∧ i.length + j.length ≤ sizeLine ∧ Q (.str (i ++ j)) H) ∨ rCatA K x y H Q ∨ rCat x y H Q
section
variable {X : Cx}
theorem op_add4 : OpR X (binaryOp .Add) (rAdd4 X.K) := op_add.or (op_add_str.or (op_catA.or op_cat))
theorem add4_ok : Op2 X (rAdd4 X.K) aAdd := by
  intro ρ H S x y u v Q E rs rx ry p
  unfold aAdd at p
  split at p
  · cases rx; cases ry; exact .inl ⟨_, _, rfl, rfl, p.int rs⟩
  · split at p
    · rename_i hl
      cases rx with
      | str _ o1 =>
      cases ry with
      | str _ o2 =>
      exact .inr (.inl ⟨_, _, rfl, rfl, hl, p.fin rs (.str _ (o1.app o2 hl))⟩)
    · exact p.elim
  · split at p
    · rename_i xs ys hl
      cases rx with
      | tup h1 r1 =>
      cases ry with
      | tup h2 r2 =>
      refine .inr (.inr (.inl ⟨_, _, _, _, rfl, rfl, h1, h2, by rw [r1.length, r2.length]; exact hl, fun e => ?_, fun _ e => ?_, fun _ _ q n => p.tup rs n (r1.append r2)⟩))
      · subst e
        cases r1
        exact p.fin rs (.tup h2 r2)
      · subst e
        cases r2
        rw [List.append_nil] at p
        exact p.fin rs (.tup h1 r1)
    · exact p.elim
  · split at p
    · rename_i a b xs ys e1 e2
      split at p
      · rename_i hl
        obtain ⟨h1, z1, vs, h2, h3⟩ := rx.obj rs e1
        obtain ⟨g1, z2, us, g2, g3⟩ := ry.obj rs e2
        exact .inr (.inr (.inr ⟨_, _, _, _, h1, g1, h2, g2, by rw [h3.length, g3.length]; exact hl, fun q n => p.newL rs n (by rw [List.length_append]; exact hl) (h3.append g3)⟩))
      · exact p.elim
    · exact p.elim
  · exact p.elim
/-- ints alone -/
def aI (C : Int → Int → Prop) [∀ i j, Decidable (C i j)] (g : Int → Int → AV) (u v : AV) : M AV := fun S => match u, v with
  | .int i, .int j => if C i j then .ok (g i j) S else .bad
  | _, _ => .bad
theorem int_ok {C D : Int → Int → Prop} [∀ i j, Decidable (C i j)] {g : Int → Int → AV} {h : Int → Int → V} (hC : ∀ i j, C i j → D i j) (r : ∀ i j ρ N H, Rv X ρ N H (h i j) (g i j)) : Op2 X (rI D h) (aI C g) := by
  intro ρ H S x y u v Q E rs rx ry p
  unfold aI at p
  split at p
  · split at p
    · rename_i hc
      cases rx; cases ry
      exact ⟨_, _, rfl, rfl, hC _ _ hc, p.fin rs (r _ _ _ _ _)⟩
    · exact p.elim
  · exact p.elim
def CT : Int → Int → Prop := fun _ _ => True
instance : ∀ i j, Decidable (CT i j) := fun _ _ => .isTrue trivial
def aSub := aI CT fun i j => .int (i - j)
def CMulB (i j : Int) : Prop := i.natAbs < 2 ^ 64 ∨ j.natAbs < 2 ^ 64
instance : ∀ i j, Decidable (CMulB i j) := fun i j => inferInstanceAs (Decidable (_ ∨ _))
def CDivB (i j : Int) : Prop := j ≠ 0 ∧ j.natAbs < 2 ^ 64
instance : ∀ i j, Decidable (CDivB i j) := fun i j => inferInstanceAs (Decidable (_ ∧ _))
def CModB (i j : Int) : Prop := j ≠ 0
instance : ∀ i j, Decidable (CModB i j) := fun i j => inferInstanceAs (Decidable (_ ≠ _))
def CPowB (i j : Int) : Prop := 0 ≤ j ∧ j ≤ 1000000 ∧ i.natAbs < 2 ^ 64
instance : ∀ i j, Decidable (CPowB i j) := fun i j => inferInstanceAs (Decidable (_ ∧ _ ∧ _))
def aFdiv := aI CDivB fun i j => .int (i.fdiv j)
def aMod := aI CModB fun i j => .int (i.fmod j)
def aPow := aI CPowB fun i j => .int (i ^ j.toNat)
theorem op_subC : OpR X (binaryOp .Sub) (rI (fun _ _ => True) fun i j => .int (i - j)) := fun pins s σ H x y v u Q I rx ry h => by
  obtain ⟨i, j, e1, e2, _, q⟩ := h
  exact op_sub pins s σ H x y v u Q I rx ry ⟨i, j, e1, e2, q⟩
theorem sub_ok : Op2 X (rI (fun _ _ => True) fun i j => .int (i - j)) aSub := int_ok (fun _ _ _ => trivial) fun _ _ _ _ _ => .int _
theorem op_fdivB : OpR X (binaryOp .FloorDiv) (rI CDivB fun i j => .int (i.fdiv j)) := opI fun _ _ _ _ _ _ _ hc q => floordiv_int hc.1 q (.inl (PyProof.noPylong_of_log2 (Nat.lt_of_lt_of_le (PySem.Flt.log2_lt_of (by decide) hc.2) (by decide))))
theorem fdiv_ok : Op2 X (rI CDivB fun i j => .int (i.fdiv j)) aFdiv := int_ok (fun _ _ h => h) fun _ _ _ _ _ => .int _
theorem mod_ok : Op2 X (rI (fun _ j => j ≠ 0) fun i j => .int (i.fmod j)) aMod := int_ok (fun _ _ h => h) fun _ _ _ _ _ => .int _
theorem pow_ok : Op2 X (rI CPow fun i j => .int (i ^ j.toNat)) aPow := int_ok (fun _ _ h => h) fun _ _ _ _ _ => .int _
theorem CMulB.ok {i j : Int} (h : CMulB i j) : CMul i j := by
  rcases h with h | h
  · exact .inl (by omega)
  · exact .inr (by omega)
/-- a product; a list, a text so many times -/
def aMul (u v : AV) : M AV := fun S => match u, v with
  | .int i, .int j => if CMulB i j then .ok (.int (i * j)) S else .bad
  | .ref a, .int k => match S[a]? with
    | some (.lst xs) => if k.natAbs < 2 ^ 62 ∧ xs.length * k.toNat ≤ sizeLine then .ok (.ref S.length) (S ++ [.lst (List.replicate k.toNat xs).flatten]) else .bad
    | _ => .bad
  | _, _ => .bad
def rMul2 : R2 := fun x y H Q => rI CMul (fun i j => .int (i * j)) x y H Q ∨ rRep x y H Q
theorem op_mul2 : OpR X (binaryOp .Mult) rMul2 := op_mul.or op_rep
theorem RVs.rep {K : PySem.W.Frag} {w : World} {mg : Str → Option Value} {ρ : Nat → Addr} {N : Nat} {H : Hp} {vs : List V} {xs : List AV} (h : RVs K w mg ρ N H vs xs) : ∀ k : Nat, RVs K w mg ρ N H (List.replicate k vs).flatten (List.replicate k xs).flatten
  | 0 => .nil
  | k + 1 => by
    rw [List.replicate_succ, List.replicate_succ, List.flatten_cons, List.flatten_cons]
    exact h.append (RVs.rep h k)
theorem rep_len {α : Type} (xs : List α) : ∀ k : Nat, (List.replicate k xs).flatten.length = k * xs.length
  | 0 => by rw [Nat.zero_mul]; rfl
  | k + 1 => by
    rw [List.replicate_succ, List.flatten_cons, List.length_append, rep_len xs k, Nat.succ_mul, Nat.add_comm]
theorem mul_ok : Op2 X rMul2 aMul := by
  intro ρ H S x y u v Q E rs rx ry p
  unfold aMul at p
  split at p
  · split at p
    · rename_i hc
      cases rx; cases ry
      exact .inl ⟨_, _, rfl, rfl, hc.ok, p.int rs⟩
    · exact p.elim
  · split at p
    · rename_i a k xs e1
      split at p
      · rename_i hl
        obtain ⟨h1, z1, vs, h2, h3⟩ := rx.obj rs e1
        cases ry
        refine .inr ⟨_, _, _, h1, rfl, h2, by omega, by omega, by rw [h3.length]; exact hl.2, fun q n => p.newL rs n ?_ (h3.rep _)⟩
        rw [rep_len, Nat.mul_comm]
        exact hl.2
      · exact p.elim
    · exact p.elim
  · exact p.elim
def aNeg (u : AV) : M AV := fun S => match u with
  | .int i => .ok (.int (-i)) S
  | _ => .bad
theorem neg_ok : Op1 X (rU fun i => .int (-i)) aNeg := by
  intro ρ H S x u Q E rs rx p
  unfold aNeg at p
  split at p
  · cases rx; exact ⟨_, rfl, p.int rs⟩
  · exact p.elim
/-! ### comparisons -/
def aCmp (g : Int → Int → Bool) (u v : AV) : M AV := fun S => match u, v with
  | .int i, .int j => .ok (.bl (g i j)) S
  | _, _ => .bad
theorem cmp_ok {g : Int → Int → Bool} : Op2 X (rI0 fun i j => .bl (g i j)) (aCmp g) := by
  intro ρ H S x y u v Q E rs rx ry p
  unfold aCmp at p
  split at p
  · cases rx; cases ry
    exact ⟨_, _, rfl, rfl, p.bl rs⟩
  · exact p.elim
def aLt := aCmp fun i j => decide (i < j)
def aLe := aCmp fun i j => decide (i ≤ j)
def aGt := aCmp fun i j => decide (j < i)
def aGe := aCmp fun i j => decide (j ≤ i)
/-- is None -/
def isNon : AV → Bool
  | .non => true
  | _ => false
def aIsN (u v : AV) : M AV := fun S => match v with
  | .non => .ok (.bl (isNon u)) S
  | _ => .bad
def aNotN (u v : AV) : M AV := fun S => match v with
  | .non => .ok (.bl (!isNon u)) S
  | _ => .bad
theorem RV.isN {K : PySem.W.Frag} {w : World} {mg : Str → Option Value} {ρ : Nat → Addr} {N : Nat} {H : Hp} {x : V} {u : AV} (r : RV K w mg ρ N H x u) : decide (x = .non) = isNon u := by cases r <;> rfl
theorem isN_ok : Op2 X (fun x y H Q => y = .non ∧ Q (.bl (decide (x = .non))) H) aIsN := by
  intro ρ H S x y u v Q E rs rx ry p
  unfold aIsN at p
  split at p
  · cases ry; exact ⟨rfl, by rw [rx.isN]; exact p.bl rs⟩
  · exact p.elim
theorem notN_ok : Op2 X (fun x y H Q => y = .non ∧ Q (.bl (!decide (x = .non))) H) aNotN := by
  intro ρ H S x y u v Q E rs rx ry p
  unfold aNotN at p
  split at p
  · cases ry; exact ⟨rfl, by rw [rx.isN]; exact p.bl rs⟩
  · exact p.elim
end
end Sim

set_option Elab.async false
set_option linter.all false
set_option maxRecDepth 100000
set_option maxHeartbeats 4000000
/-! E0: != of tuples, lists and dicts, whose items may hold dicts. -/
namespace PySem.SeqAt
open AutoSeq1 (wpAny_loadPart')
open MeetsSeq MeetsSeq2 MeetsSeq3
section
variable {prog : Program} {w : World}
/-- an object that is a sequence of the kind -/
abbrev sqObj (T : String) (dd : Option Addr) (xs : Array Value) (n : Nat) (sl : Array (Option Value)) : Obj := { cls := .type T, dict := dd, data := .seq xs n, slots := sl }
theorem tupNe (p q : Addr) (xs ys : Array Value) (n1 n2 : Nat) (d1 d2 : Option Addr) (s1 s2 : Array (Option Value)) (f : Nat → Bool) :
    MeetsIn prog w (Builtin.«tuple.__ne__» ⟨[.ref p, .ref q], []⟩) fun A R s => s.heap.get? p = some (sqObj "tuple" d1 xs n1 s1) ∧ s.heap.get? q = some (sqObj "tuple" d2 ys n2 s2) ∧
      (∀ k (u1 : k < xs.size) (u2 : k < ys.size), EqIn prog w A.in1 s xs[k] ys[k] (f k)) ∧ R (.ok (.ret (.bool (!((List.range (min xs.size ys.size)).all f && xs.size == ys.size))))) s := by
  refine MeetsIn.of_wp fun A R s h => ?_
  obtain ⟨hp0, g0, d0, tk0, os0⟩ := s
  obtain ⟨ep, eq, items, fin⟩ := h
  have sub := AutoSeq1.sub_tuple_tuple
  have zl : (xs.toList.zip ys.toList).length = min xs.size ys.size := by simp
  wp_walk using wpAny_loadPart' ep, wpAny_loadPart' eq, wpAny_forIn_list _ (fun rest st s' => st.1 = none ∧ s' = ⟨hp0, g0, d0, tk0, os0⟩ ∧ ∃ k, rest = (xs.toList.zip ys.toList).drop k ∧ R (.ok (.ret (.bool (!(((List.range (min xs.size ys.size)).drop k).all f && xs.size == ys.size))))) ⟨hp0, g0, d0, tk0, os0⟩) _
  case turn =>
    rintro ⟨y, x⟩ rest st s' ⟨_, rfl, k, zz, fin⟩
    have kz : k < (xs.toList.zip ys.toList).length := Nat.lt_of_not_le fun g => by rw [List.drop_of_length_le g] at zz; cases zz
    have km : k < min xs.size ys.size := zl ▸ kz
    have k1 : k < xs.size := by omega
    have k2 : k < ys.size := by omega
    rw [List.drop_eq_getElem_cons kz] at zz
    injection zz with zz1 zz2
    obtain rfl : y = xs[k] := by simpa using congrArg Prod.fst zz1
    obtain rfl : x = ys[k] := by simpa using congrArg Prod.snd zz1
    rw [show (List.range (min xs.size ys.size)).drop k = k :: (List.range (min xs.size ys.size)).drop (k + 1) by simp [List.drop_eq_getElem_cons, km], List.all_cons] at fin
    refine wpAny_bind (items k k1 k2 _ _ ?_)
    cases ff : f k
    · rw [ff] at fin
      wp_walk
      exact ⟨_, rfl, by simpa using fin⟩
    · rw [ff] at fin
      wp_walk
      exact ⟨rfl, rfl, k + 1, zz2, by simpa using fin⟩
  case fin =>
    rintro ⟨st1, st2⟩ s' ⟨es, rfl, k, zz, fin⟩
    simp only at es
    subst es
    have kz : min xs.size ys.size ≤ k := Nat.le_of_not_lt fun g => by rw [List.drop_eq_getElem_cons (zl.symm ▸ g)] at zz; cases zz
    rw [List.drop_of_length_le (by simpa using kz)] at fin
    wp_walk
    exact ⟨_, rfl, by simpa [Builtin.Tuple.tupleCompareSizes, bne] using fin⟩
  case h => exact ⟨rfl, rfl, 0, rfl, by simpa using fin⟩
theorem lstNeLoop (p q : Addr) (xs ys : Array Value) (n1 n2 : Nat) (d1 d2 : Option Addr) (s1 s2 : Array (Option Value)) (hz : xs.size = ys.size) (f : Nat → Bool) (m : Nat) :
    ∀ k : Nat, xs.size - k = m → MeetsIn prog w (Builtin.«list.__eq__.loop» ⟨[.ref p, .ref q, rawInt k, rawInt 3], []⟩) fun A R s => s.heap.get? p = some (sqObj "list" d1 xs n1 s1) ∧ s.heap.get? q = some (sqObj "list" d2 ys n2 s2) ∧
      (∀ k (u1 : k < xs.size) (u2 : k < ys.size), EqIn prog w A.in1 s xs[k] ys[k] (f k)) ∧ R (.ok (.ret (.bool (!((List.range xs.size).drop k).all f)))) s := by
  induction m with
  | zero =>
    intro k ek A R s h
    obtain ⟨hp0, g0, d0, tk0, os0⟩ := s
    obtain ⟨ep, eq, items, fin⟩ := h
    wp_walk using wpAny_loadPart' ep, wpAny_loadPart' eq
    have a1 : xs[((k : Nat) : Int).toNat]? = none := by simp; omega
    have a2 : ys[((k : Nat) : Int).toNat]? = none := by simp; omega
    rw [show (List.range xs.size).drop k = [] by simp; omega] at fin
    rw [a1, a2]
    wp_walk using wpAny_loadPart' ep, wpAny_loadPart' eq
    show R (.ok (.ret (.bool (xs.size != ys.size)))) _
    rw [hz]
    simpa using fin
  | succ m ih =>
    intro k ek A R s h
    obtain ⟨hp0, g0, d0, tk0, os0⟩ := s
    obtain ⟨ep, eq, items, fin⟩ := h
    wp_walk using wpAny_loadPart' ep, wpAny_loadPart' eq
    have k1 : k < xs.size := by omega
    have k2 : k < ys.size := by omega
    have a1 : xs[((k : Nat) : Int).toNat]? = some xs[k] := by simp [k1]
    have a2 : ys[((k : Nat) : Int).toNat]? = some ys[k] := by simp [k2]
    rw [show (List.range xs.size).drop k = k :: (List.range xs.size).drop (k + 1) by simp [List.drop_eq_getElem_cons, k1], List.all_cons] at fin
    rw [a1, a2]
    refine wpAny_bind (items k k1 k2 _ _ ?_)
    cases ff : f k
    · rw [ff] at fin
      wp_walk using wpAny_loadPart' ep, wpAny_loadPart' eq
      rw [a1, a2]
      wp_walk
      simpa using fin
    · rw [ff] at fin
      wp_walk
      rw [show ((k : Int) + 1) = ((k + 1 : Nat) : Int) by push_cast; rfl]
      refine ⟨plainId_quiet plain_eq_loop _, codeAny_builtin entry_eq_loop ?_⟩
      rw [Around.under_plainId plain_eq_loop _]
      exact ih (k + 1) (by omega) A R _ ⟨ep, eq, items, by simpa using fin⟩
theorem lstNe (p q : Addr) (xs ys : Array Value) (n1 n2 : Nat) (d1 d2 : Option Addr) (s1 s2 : Array (Option Value)) (hz : xs.size = ys.size) (f : Nat → Bool) :
    MeetsIn prog w (Builtin.«list.__ne__» ⟨[.ref p, .ref q], []⟩) fun A R s => s.heap.get? p = some (sqObj "list" d1 xs n1 s1) ∧ s.heap.get? q = some (sqObj "list" d2 ys n2 s2) ∧
      (∀ k (u1 : k < xs.size) (u2 : k < ys.size), EqIn prog w A.in1 s xs[k] ys[k] (f k)) ∧ R (.ok (.ret (.bool (!(List.range xs.size).all f)))) s := by
  intro A R s h
  obtain ⟨hp0, g0, d0, tk0, os0⟩ := s
  obtain ⟨ep, eq, items, fin⟩ := h
  have sub := AutoSeq1.sub_list_list
  have nz : ¬ (xs.size != ys.size) = true := by rw [hz]; simp
  wp_walk using wpAny_loadPart' ep, wpAny_loadPart' eq
  refine ⟨plainId_quiet plain_eq_loop _, codeAny_builtin entry_eq_loop ?_⟩
  rw [Around.under_plainId plain_eq_loop _]
  exact lstNeLoop p q xs ys n1 n2 d1 d2 s1 s2 hz f _ 0 rfl A R _ ⟨ep, eq, items, by simpa using fin⟩
variable {A : Around} {s : Shared} {E Q : Value → Shared → Prop} {p q : Addr} {xs ys : Array Value} {f : Nat → Bool}
theorem ne_tups (hp : s.heap.IsTuple p xs) (hq : s.heap.IsTuple q ys) (hu : A.units < cLine) (items : ∀ k (u1 : k < xs.size) (u2 : k < ys.size), EqIn prog w A.in1 s xs[k] ys[k] (f k))
    (fin : Q (.bool (!((List.range (min xs.size ys.size)).all f && xs.size == ys.size))) s) : wpAny (model prog w) A (compareOp .NotEq (.ref p) (.ref q)) Q E s := by
  obtain ⟨⟨c1, d1, t1, l1⟩, o1, e1, n1, g1⟩ := id hp
  obtain ⟨⟨c2, d2, t2, l2⟩, o2, e2, n2, g2⟩ := id hq
  simp only at e1 g1 e2 g2
  subst e1 g1 e2 g2
  exact wpAny_richCompare_same_room (T := "tuple") (op := .NotEq) ⟨_, o1, rfl⟩ ⟨_, o2, rfl⟩ F.slot_tuple_ne (call_meetsIn F.slot_tuple_ne ⟨_, o1, rfl⟩ F.entry_tuple_ne (F.args_tuple_ne_2 _ _) (tupNe p q xs ys n1 n2 d1 d2 l1 l2 f) ⟨o1, o2, items, (show _ ∧ _ from ⟨(fun x => nomatch x), fin⟩)⟩) hu
theorem ne_lsts (hp : s.heap.IsList p xs) (hq : s.heap.IsList q ys) (hz : xs.size = ys.size) (hu : A.units < cLine) (items : ∀ k (u1 : k < xs.size) (u2 : k < ys.size), EqIn prog w A.in1 s xs[k] ys[k] (f k))
    (fin : Q (.bool (!(List.range xs.size).all f)) s) : wpAny (model prog w) A (compareOp .NotEq (.ref p) (.ref q)) Q E s := by
  obtain ⟨⟨c1, d1, t1, l1⟩, o1, e1, n1, g1⟩ := id hp
  obtain ⟨⟨c2, d2, t2, l2⟩, o2, e2, n2, g2⟩ := id hq
  simp only at e1 g1 e2 g2
  subst e1 g1 e2 g2
  exact wpAny_richCompare_same_room (T := "list") (op := .NotEq) ⟨_, o1, rfl⟩ ⟨_, o2, rfl⟩ F.slot_list_ne (call_meetsIn F.slot_list_ne ⟨_, o1, rfl⟩ F.entry_list_ne (F.args_list_ne_2 _ _) (lstNe p q xs ys n1 n2 d1 d2 l1 l2 hz f) ⟨o1, o2, items, (show _ ∧ _ from ⟨(fun x => nomatch x), fin⟩)⟩) hu
end
end PySem.SeqAt
namespace PySem.W
open PySem PySem.Calls PyProof.Rows PyProof.V PySem.Spec
open PySem.SeqAt (EqIn EqAt)
theorem ne_dictsT {prog : Program} {w : World} {A : Around} {s : Shared} {E Q : Value → Shared → Prop} {κ : Type} [DecidableEq κ] {knd : KeyKind prog w κ} {n : Nat} {a b : Addr} {ka kb : List (κ × Value)} {f : κ → Bool} (ha : (a == sysModules) = false) (hb : (b == sysModules) = false)
    (da : s.heap.DictOf knd a ka) (db : s.heap.DictOf knd b kb) (t : ∀ k v y, (k, v) ∈ ka → valueAt kb k = some y → EqTree prog w s n v y (f k)) (hu : A.units + (n + 1) < cLine)
    (fin : Q (.bool (!(ka.length == kb.length && ka.all fun p => (valueAt kb p.1).isSome && f p.1))) s) : wpAny (model prog w) A (compareOp .NotEq (.ref a) (.ref b)) Q E s := by
  have hits := fun (_ : ka.length = kb.length) => KeqHitsIn.of (A := A.in1) (s := s) ka fun k v y m g => (t k v y m g).at A.in1 (by show A.units + 1 + _ < cLine; omega)
  refine wpAny_richCompare_same_room (op := .NotEq) da.typeIs db.typeIs F.slot_dict_ne (wpAny_call_entry F.slot_dict_ne da.typeIs F.entry_dict_ne ?_ (F.args_dict_ne_2 _ _)) (by omega)
  show wpAny _ _ (Builtin.Dict.dictSlotArgs "__ne__" ⟨[.ref a, .ref b], []⟩ >>= _) _ _ s
  unfold Builtin.Dict.dictSlotArgs
  refine wpAny_bind (wpAny_bind (wpAny_notOrdered_dict da.typeIs ?_))
  show wpAny _ _ (pure (Value.ref a, Value.ref b)) _ _ s
  refine wpAny_pure (wpAny_bind (wpAny_isInstance (T := "dict") db.typeIs F.sub_dict_dict ?_))
  simp only [Bool.not_true, Bool.false_eq_true, if_false]
  refine wpAny_bind (wpAny_pure (wpAny_bind (wpAny_pure (wpAny_bind ?_))))
  refine keq_samePairsIn ha hb da db hits (wpAny_pure ⟨_, rfl, (show _ ∧ _ from ⟨(fun x => nomatch x), ?_⟩)⟩)
  generalize (ka.length == kb.length && ka.all fun p => (valueAt kb p.1).isSome && f p.1) = r at fin ⊢
  cases r <;> exact fin
end PySem.W

set_option Elab.async false
set_option linter.all false
set_option maxRecDepth 100000
set_option maxHeartbeats 4000000
/-! S3: equality, membership, places, slices, truth. -/
namespace Sim
open PySem PySem.Spec PyProof.Rows L2
def mapO {α β : Type} (f : α → Option β) : List α → Option (List β)
  | [] => some []
  | x :: xs => match f x, mapO f xs with
    | some y, some ys => some (y :: ys)
    | _, _ => none
/-- a value as data, lists within it read -/
def toD (S : Sto) : Nat → AV → Option PyData
  | 0, _ => none
  | n + 1, v => match v with
    | .non => some .none
    | .bl b => some (.bool b)
    | .int i => some (.int i)
    | .str z => some (.str z)
    | .tup xs => (mapO (toD S n) xs).map .tuple
    | .rl xs => some (.list (xs.map .int))
    | .ref r => match S[r]? with
      | some (.lst xs) => (mapO (toD S n) xs).map .list
      | _ => none
    | _ => none
section
variable {K : PySem.W.Frag} {w : World} {mg : Str → Option Value} {ρ : Nat → Addr} {S : Sto} {H : Hp}
theorem strOk_of {z : Str} (h : okS z) : PyData.strOk z = true := by
  unfold PyData.strOk
  rw [← Array.all_toList, List.all_eq_true]
  exact fun c hc => decide_eq_true (h.all c hc)
theorem dps_ints : ∀ xs : List Int, DpAll K H (xs.map V.int) (xs.map PyData.int)
  | [] => .nil
  | x :: xs => .cons (.int x) (dps_ints xs)
theorem lay_ints : ∀ xs : List Int, PyData.canLayAll0 (xs.map PyData.int) = true ∧ PyData.depthAll (xs.map PyData.int) = 0
  | [] => ⟨by simp [PyData.canLayAll0], by simp [PyData.depthAll]⟩
  | x :: xs => by
    obtain ⟨h1, h2⟩ := lay_ints xs
    exact ⟨by simp [PyData.canLayAll0, PyData.canLay0, h1], by simp [PyData.depthAll, PyData.depth, h2]⟩
theorem toDs_ok {n : Nat} (ih : ∀ (x : V) (v : AV) (d : PyData), RV K w mg ρ S.length H x v → toD S n v = some d → Dp K H x d ∧ d.canLay0 = true ∧ d.depth ≤ n) :
    ∀ {vs : List V} {xs : List AV} {ds : List PyData}, RVs K w mg ρ S.length H vs xs → mapO (toD S n) xs = some ds → DpAll K H vs ds ∧ PyData.canLayAll0 ds = true ∧ PyData.depthAll ds ≤ n
  | _, _, ds, .nil, e => by
    have e' : [] = ds := Option.some.inj e
    subst e'
    exact ⟨.nil, by simp [PyData.canLayAll0], by simp [PyData.depthAll]⟩
  | _, _, ds, .cons (x := x) (xs := xs) a t, e => by
    unfold mapO at e
    split at e
    · rename_i y ys e1 e2
      have e' : y :: ys = ds := Option.some.inj e
      subst e'
      obtain ⟨h1, h2, h3⟩ := ih _ _ _ a e1
      obtain ⟨g1, g2, g3⟩ := toDs_ok ih t e2
      exact ⟨.cons h1 g1, by simp [PyData.canLayAll0, h2, g2], by simp only [PyData.depthAll]; omega⟩
    · cases e
theorem toD_ok (rs : RS K w mg ρ H S) : ∀ (n : Nat) (x : V) (v : AV) (d : PyData), RV K w mg ρ S.length H x v → toD S n v = some d → Dp K H x d ∧ d.canLay0 = true ∧ d.depth ≤ n
  | 0, _, _, _, _, e => by cases e
  | n + 1, x, v, d, r, e => by
    unfold toD at e
    cases v with
    | non => cases e; cases r; exact ⟨.non, by simp [PyData.canLay0], by simp [PyData.depth]⟩
    | bl b => cases e; cases r; exact ⟨.bl b, by simp [PyData.canLay0], by simp [PyData.depth]⟩
    | int b => cases e; cases r; exact ⟨.int b, by simp [PyData.canLay0], by simp [PyData.depth]⟩
    | str z => cases e; cases r with | str _ h => exact ⟨.str z, by simp [PyData.canLay0, strOk_of h], by simp [PyData.depth]⟩
    | ty n => cases e
    | cls n => cases e
    | kd n => cases e
    | rl xs =>
      cases e
      cases r with
      | rl h f =>
      obtain ⟨h1, h2⟩ := lay_ints xs
      exact ⟨.lst h (dps_ints xs), by simp [PyData.canLay0, h1], by simp [PyData.depth, h2]⟩
    | tup xs =>
      cases h : mapO (toD S n) xs with
      | none => simp only [h] at e; cases e
      | some ds =>
        simp only [h] at e
        cases e
        cases r with
        | tup h1 r1 =>
        obtain ⟨g1, g2, g3⟩ := toDs_ok (toD_ok rs n) r1 h
        exact ⟨.tup h1 g1, by simp [PyData.canLay0, g2], by simp only [PyData.depth]; omega⟩
    | ref m =>
      simp only at e
      split at e
      · rename_i xs em
        obtain ⟨e1, z, vs, h1, r1⟩ := r.obj rs em
        subst e1
        cases h : mapO (toD S n) xs with
        | none => simp only [h] at e; cases e
        | some ds =>
          simp only [h] at e
          cases e
          obtain ⟨g1, g2, g3⟩ := toDs_ok (toD_ok rs n) r1 h
          exact ⟨.lst (SqL.of h1) g1, by simp [PyData.canLay0, g2], by simp only [PyData.depth]; omega⟩
      · cases e
theorem shaped_of (n : Nat) (hn : n ≤ 64) {d : PyData} (h : d.canLay0 = true ∧ d.depth ≤ n) : SeqAt.shaped d = true := by
  unfold SeqAt.shaped
  rw [h.1, Bool.true_and]
  exact decide_eq_true (Nat.le_trans h.2 hn)
end
/-! dicts of flat values compared -/
def flatA : AV → Bool
  | .non => true | .bl _ => true | .int _ => true | .str _ => true
  | _ => false
def eqA : AV → AV → Bool
  | .non, .non => true
  | .bl a, .bl b => a == b
  | .bl a, .int b => (if a then 1 else 0) == b
  | .int a, .bl b => a == (if b then 1 else 0)
  | .int a, .int b => a == b
  | .str a, .str b => a == b
  | _, _ => false
section
variable {κ : Type} [DecidableEq κ]
def valA (kvs : List (κ × AV)) (k : κ) : Option AV := (kvs.find? fun kv => decide (kv.1 = k)).map (·.2)
def putA (kvs : List (κ × AV)) (k : κ) (v : AV) : List (κ × AV) :=
  if (kvs.any fun kv => decide (kv.1 = k)) = true then kvs.map (fun kv => if kv.1 = k then (kv.1, v) else kv) else kvs ++ [(k, v)]
def dropA (kvs : List (κ × AV)) (k : κ) : List (κ × AV) := kvs.filter fun kv => decide (kv.1 ≠ k)
def sameDict (ks ls : List (κ × AV)) : Bool := ks.length == ls.length && ks.all fun p => match valA ls p.1 with | some u => eqA p.2 u | none => false
theorem putA_len (kvs : List (κ × AV)) (k : κ) (v : AV) : (putA kvs k v).length ≤ kvs.length + 1 := by
  unfold putA
  split
  · rw [List.length_map]; omega
  · rw [List.length_append]; exact Nat.le_refl _
theorem dropA_len (kvs : List (κ × AV)) (k : κ) : (dropA kvs k).length ≤ kvs.length := List.length_filter_le _ _
variable {K : PySem.W.Frag} {w : World} {mg : Str → Option Value} {ρ : Nat → Addr} {N : Nat} {H : Hp}
theorem RPs.val {us : List (κ × V)} {kvs : List (κ × AV)} (r : RPs K w mg ρ N H us kvs) (k : κ) : (valV us k = none ∧ valA kvs k = none) ∨ ∃ v x, valV us k = some v ∧ valA kvs k = some x ∧ RV K w mg ρ N H v x := by
  unfold RPs at r
  induction r with
  | nil => exact .inl ⟨rfl, rfl⟩
  | @cons p q ps qs h t ih =>
    obtain ⟨h1, h2⟩ := h
    by_cases e : p.1 = k
    · refine .inr ⟨p.2, q.2, valV_pos e, ?_, h2⟩
      unfold valA
      rw [List.find?_cons_of_pos (by rw [← h1, e]; exact decide_eq_true rfl)]
      rfl
    · rw [valV_neg e]
      have : valA (q :: qs) k = valA qs k := by
        unfold valA
        rw [List.find?_cons_of_neg (by rw [← h1]; simpa using e)]
      rw [this]
      exact ih
theorem RPs.any {us : List (κ × V)} {kvs : List (κ × AV)} (r : RPs K w mg ρ N H us kvs) (k : κ) : (us.any fun kv => decide (kv.1 = k)) = kvs.any fun kv => decide (kv.1 = k) := by
  unfold RPs at r
  induction r with
  | nil => rfl
  | @cons p q ps qs h t ih => rw [List.any_cons, List.any_cons, ih, h.1]
theorem RPs.put {us : List (κ × V)} {kvs : List (κ × AV)} (r : RPs K w mg ρ N H us kvs) (k : κ) {v : V} {x : AV} (rv : RV K w mg ρ N H v x) : RPs K w mg ρ N H (putK us k v) (putA kvs k x) := by
  unfold putK putA
  rw [r.any k]
  split
  · unfold RPs at r ⊢
    induction r with
    | nil => exact .nil
    | @cons p q ps qs h t ih =>
      rw [List.map_cons, List.map_cons]
      refine .cons ?_ ?_
      · rw [h.1]
        split
        · exact ⟨rfl, rv⟩
        · exact h
      · rename_i hx
        clear hx ih
        induction t with
        | nil => exact .nil
        | @cons p q ps qs h t ih =>
          rw [List.map_cons, List.map_cons]
          refine .cons ?_ ih
          rw [h.1]
          split
          · exact ⟨rfl, rv⟩
          · exact h
  · unfold RPs at r ⊢
    rename_i hx
    clear hx
    induction r with
    | nil => exact .cons ⟨rfl, rv⟩ .nil
    | cons h t ih => exact .cons h ih
theorem RPs.drop {us : List (κ × V)} {kvs : List (κ × AV)} (r : RPs K w mg ρ N H us kvs) (k : κ) : RPs K w mg ρ N H (dropK us k) (dropA kvs k) := by
  unfold dropK dropA
  unfold RPs at r ⊢
  induction r with
  | nil => exact .nil
  | @cons p q ps qs h t ih =>
    by_cases e : p.1 = k
    · rw [List.filter_cons_of_neg (by simpa using e), List.filter_cons_of_neg (by rw [← h.1]; simpa using e)]
      exact ih
    · rw [List.filter_cons_of_pos (by simpa using e), List.filter_cons_of_pos (by rw [← h.1]; simpa using e)]
      exact .cons h ih
theorem flat_rv {v : V} {x : AV} (r : RV K w mg ρ N H v x) (h : flatA x = true) : flatV v = true := by
  cases r <;> first | rfl | cases h
theorem eqA_rv {v u : V} {x y : AV} (r : RV K w mg ρ N H v x) (q : RV K w mg ρ N H u y) (h : flatA x = true) (h' : flatA y = true) : eqV v u = eqA x y := by
  cases r <;> first | (cases h; done) | (cases q <;> first | rfl | (cases h'; done))
end
theorem dOk.put {kvs : List (Key × AV)} (h : dOk kvs) {k : Key} (hk : okK k = true) (v : AV) (hl : kvs.length < sizeLine) : dOk (putA kvs k v) := by
  refine ⟨Nat.le_trans (putA_len _ _ _) hl, fun p hp => ?_⟩
  unfold putA at hp
  split at hp
  · obtain ⟨q, hq, rfl⟩ := List.mem_map.mp hp
    have := h.2 q hq
    split <;> exact this
  · rcases List.mem_append.mp hp with hp | hp
    · exact h.2 p hp
    · cases List.mem_singleton.mp hp
      exact hk
theorem dOk.drop {kvs : List (Key × AV)} (h : dOk kvs) (k : Key) : dOk (dropA kvs k) := ⟨Nat.le_trans (dropA_len _ _) h.1, fun p hp => h.2 p (List.mem_filter.mp hp).1⟩
theorem hits_of {K : PySem.W.Frag} {w : World} {mg : Str → Option Value} {ρ : Nat → Addr} {N : Nat} {H : Hp} {A : Around} {s : Shared} {κ : Type} [DecidableEq κ] {ls : List (κ × V)} {ls' : List (κ × AV)} {vb : List (κ × Value)} (rb : KV ls vb) (rl : RPs K w mg ρ N H ls ls') (fl : ls'.all (fun p => flatA p.2) = true)
    {ks : List (κ × V)} {ks' : List (κ × AV)} {va : List (κ × Value)} (ra : KV ks va) (rk : RPs K w mg ρ N H ks ks') (fk : ks'.all (fun p => flatA p.2) = true) :
    PySem.W.KeqHits A s vb va (ks'.all fun p => match valA ls' p.1 with | some u => eqA p.2 u | none => false) := by
  unfold KV at ra
  induction ra generalizing ks' with
  | nil => cases rk; exact .nil
  | @cons p q ps qs h t ih =>
    unfold RPs at rk
    cases rk with
    | @cons _ p' _ ps' h' t' =>
    rw [List.all_cons, Bool.and_eq_true] at fk
    obtain ⟨h1, h2⟩ := h
    obtain ⟨g1, g2⟩ := h'
    obtain ⟨k, v⟩ := q
    have h1' : p.1 = k := h1
    rw [List.all_cons]
    have rr := rb.val p.1
    rcases rl.val p.1 with ⟨e1, e2⟩ | ⟨u, x, e1, e2, r3⟩
    · rw [← g1, e2]
      rw [e1] at rr
      have := rr.none_of
      rw [h1'] at this
      exact .miss this
    · rw [← g1, e2]
      rw [e1] at rr
      obtain ⟨y, hy, ry⟩ := rr.some_of
      rw [h1'] at hy
      have fx : flatA x = true := by
        unfold valA at e2
        cases e4 : ls'.find? fun kv => decide (kv.1 = p.1) with
        | none => rw [e4] at e2; cases e2
        | some z =>
          rw [e4] at e2
          have : z.2 = x := Option.some.inj e2
          subst this
          exact List.all_eq_true.mp fl z (List.mem_of_find?_eq_some e4)
      show PySem.W.KeqHits A s vb ((k, v) :: qs) (eqA p'.2 x && _)
      rw [← eqA_rv g2 r3 fk.1 fx]
      exact .hit hy (eqAt_V h2 ry (flat_rv g2 fk.1) (flat_rv r3 fx)) (ih t' fk.2)
def dictEq (S : Sto) (u v : AV) : Option Bool := match u, v with
  | .ref a, .ref b => match S[a]?, S[b]? with
    | some (.dict ks), some (.dict ls) => if (ks.all (fun p => flatA p.2) && ls.all (fun p => flatA p.2)) = true then some (sameDict ks ls) else none
    | _, _ => none
  | _, _ => none
/-! nested things that hold dicts -/
def eqTs (f : AV → AV → Option Bool) : List AV → List AV → Option (List Bool)
  | [], [] => some []
  | x :: xs, y :: ys => match f x y, eqTs f xs ys with
    | some a, some bs => some (a :: bs)
    | _, _ => none
  | _, _ => none
def hitB (f : AV → AV → Option Bool) (ls : List (Key × AV)) (p : Key × AV) : Option Bool := match valA ls p.1 with
  | some u => f p.2 u
  | none => some false
def eqTd (f : AV → AV → Option Bool) (ls : List (Key × AV)) : List (Key × AV) → Option Bool
  | [] => some true
  | p :: ps => match hitB f ls p, eqTd f ls ps with
    | some a, some b => some (a && b)
    | _, _ => none
/-- within: things that are the same object are alike -/
def eqT (S : Sto) : Nat → AV → AV → Option Bool
  | 0, _, _ => none
  | n + 1, u, v => match toD S 20 u, toD S 20 v with
    | some d, some e => some (PyData.eqv d e)
    | _, _ => match u, v with
      | .tup xs, .tup ys => if xs.length = ys.length then (eqTs (eqT S n) xs ys).map fun bs => bs.all id else none
      | .ref a, .ref b => if a = b then some true else match S[a]?, S[b]? with
        | some (.lst xs), some (.lst ys) => if xs.length = ys.length then (eqTs (eqT S n) xs ys).map fun bs => bs.all id else some false
        | some (.dict ks), some (.dict ls) => (eqTd (eqT S n) ls ks).map fun r => ks.length == ls.length && r
        | _, _ => none
      | _, _ => none
def eqX (S : Sto) (u v : AV) : Option Bool := match u, v with
  | .tup xs, .tup ys => if xs.length = ys.length then (eqTs (eqT S 8) xs ys).map fun bs => bs.all id else none
  | .ref a, .ref b => if a = b then none else match S[a]?, S[b]? with
    | some (.lst xs), some (.lst ys) => if xs.length = ys.length then (eqTs (eqT S 8) xs ys).map fun bs => bs.all id else some false
    | some (.dict ks), some (.dict ls) => (eqTd (eqT S 8) ls ks).map fun r => ks.length == ls.length && r
    | _, _ => none
  | _, _ => none
def eqS (S : Sto) (u v : AV) : Option Bool := match toD S 20 u, toD S 20 v with
  | some d, some e => some (PyData.eqv d e)
  | _, _ => match dictEq S u v with
    | some b => some b
    | none => eqX S u v
def aEq (u v : AV) : M AV := fun S => match eqS S u v with
  | some b => .ok (.bl b) S
  | none => .bad
def aNe (u v : AV) : M AV := fun S => match eqS S u v with
  | some b => .ok (.bl (!b)) S
  | none => .bad
theorem eqTs_len {f : AV → AV → Option Bool} : ∀ {xs ys : List AV} {bs : List Bool}, eqTs f xs ys = some bs → bs.length = xs.length ∧ ys.length = xs.length
  | [], [], bs, h => by cases h; exact ⟨rfl, rfl⟩
  | [], _ :: _, _, h => by cases h
  | _ :: _, [], _, h => by cases h
  | x :: xs, y :: ys, bs, h => by
    unfold eqTs at h
    split at h
    · rename_i a cs e1 e2
      cases h
      obtain ⟨h1, h2⟩ := eqTs_len e2
      exact ⟨by rw [List.length_cons, List.length_cons, h1], by rw [List.length_cons, List.length_cons, h2]⟩
    · cases h
theorem range_all : ∀ bs : List Bool, ((List.range bs.length).all fun j => bs.getD j false) = bs.all id
  | [] => rfl
  | b :: bs => by
    rw [List.length_cons, List.range_succ_eq_map, List.all_cons, List.all_map, List.all_cons, ← range_all bs]
    rfl
theorem eqTd_all {f : AV → AV → Option Bool} {ls : List (Key × AV)} : ∀ {ks : List (Key × AV)} {r : Bool}, eqTd f ls ks = some r → (∀ p ∈ ks, ∃ c, hitB f ls p = some c) ∧ r = ks.all fun p => (hitB f ls p).getD false
  | [], r, h => by cases h; exact ⟨fun _ h => by (cases h), rfl⟩
  | p :: ps, r, h => by
    unfold eqTd at h
    split at h
    · rename_i a b e1 e2
      cases h
      obtain ⟨h1, h2⟩ := eqTd_all e2
      refine ⟨fun q hq => ?_, ?_⟩
      · rcases List.mem_cons.mp hq with rfl | hq
        · exact ⟨a, e1⟩
        · exact h1 q hq
      · rw [List.all_cons, e1, ← h2]
        rfl
    · cases h
/-! the comparison as a tree -/
section
variable {X : Cx} {pins : List (Addr × Obj)} {σ : L2.St} {H : Hp} {s : Shared} {ρ : Nat → Addr} {S : Sto}
theorem tr_items {n : Nat} {f : AV → AV → Option Bool} (ih : ∀ {u v : AV} {b : Bool} {x y : V} {vx vy : Value}, RV X.K X.w X.mg ρ S.length H x u → RV X.K X.w X.mg ρ S.length H y v → RelV x vx → RelV y vy → f u v = some b → PySem.W.EqTree X.prog X.w s n vx vy b) :
    ∀ {xs ys : List AV} {bs : List Bool} {vs us : List V} {ws zs : List Value}, RVs X.K X.w X.mg ρ S.length H vs xs → RVs X.K X.w X.mg ρ S.length H us ys → Vals vs ws → Vals us zs → eqTs f xs ys = some bs →
      ∀ j (h1 : j < ws.length) (h2 : j < zs.length), PySem.W.EqTree X.prog X.w s n ws[j] zs[j] (bs.getD j false) := by
  intro xs
  induction xs with
  | nil =>
    intro ys bs vs us ws zs r1 r2 v1 v2 e j h1 h2
    cases r1
    cases v1
    exact absurd h1 (Nat.not_lt_zero j)
  | cons x xs k =>
    intro ys bs vs us ws zs r1 r2 v1 v2 e j h1 h2
    cases r1 with
    | cons a1 b1 =>
    cases v1 with
    | cons c1 d1 =>
    cases r2 with
    | nil => cases e
    | cons a2 b2 =>
    cases v2 with
    | cons c2 d2 =>
    unfold eqTs at e
    split at e
    · rename_i g gs e1 e2
      cases e
      cases j with
      | zero => exact ih a1 a2 c1 c2 e1
      | succ j => exact k b1 b2 d1 d2 e2 j (Nat.lt_of_succ_lt_succ h1) (Nat.lt_of_succ_lt_succ h2)
    · cases e
/-- a dict's entries, through both relations -/
theorem tr_ent : ∀ {ks' : List (Key × AV)} {ks : List (Key × V)} {ka : List (Key × Value)}, RPs X.K X.w X.mg ρ S.length H ks ks' → KV ks ka → ka.map (·.1) = ks'.map (·.1) ∧ ∀ q ∈ ka, ∃ p ∈ ks', ∃ v, p.1 = q.1 ∧ RV X.K X.w X.mg ρ S.length H v p.2 ∧ RelV v q.2 := by
  intro ks' ks ka r t
  unfold RPs at r
  unfold KV at t
  induction r generalizing ka with
  | nil => cases t; exact ⟨rfl, fun _ h => by (cases h)⟩
  | @cons p p' ps ps' h _ ih =>
    cases t with
    | @cons _ q _ qs g t =>
    obtain ⟨h1, h2⟩ := ih t
    refine ⟨by rw [List.map_cons, List.map_cons, h1, ← g.1, h.1], fun z hz => ?_⟩
    rcases List.mem_cons.mp hz with rfl | hz
    · exact ⟨p', List.mem_cons_self .., p.2, by rw [← h.1, g.1], h.2, g.2⟩
    · obtain ⟨w, hw, h3⟩ := h2 z hz
      exact ⟨w, List.mem_cons_of_mem _ hw, h3⟩
theorem all_of {α : Type} {f g : α → Bool} : ∀ {l : List α}, (∀ a ∈ l, f a = g a) → l.all f = l.all g
  | [], _ => rfl
  | a :: l, h => by rw [List.all_cons, List.all_cons, h a (List.mem_cons_self ..), all_of fun b hb => h b (List.mem_cons_of_mem _ hb)]
theorem valA_nodup {ks : List (Key × AV)} (h : (ks.map (·.1)).Nodup) {p : Key × AV} (hp : p ∈ ks) : valA ks p.1 = some p.2 := by
  unfold valA
  induction ks with
  | nil => cases hp
  | cons q qs ih =>
    rw [List.map_cons, List.nodup_cons] at h
    rcases List.mem_cons.mp hp with rfl | hp
    · rw [List.find?_cons_of_pos (by rw [decide_eq_true_eq])]
      rfl
    · rw [List.find?_cons_of_neg (by rw [decide_eq_true_eq]; exact fun e => h.1 (e ▸ List.mem_map_of_mem hp))]
      exact ih h.2 hp
def entB (f : AV → AV → Option Bool) (ks ls : List (Key × AV)) (k : Key) : Bool := match valA ks k with
  | some u => (hitB f ls (k, u)).getD false
  | none => false
theorem tr_dict {n : Nat} {f : AV → AV → Option Bool} (ih : ∀ {u v : AV} {b : Bool} {x y : V} {vx vy : Value}, RV X.K X.w X.mg ρ S.length H x u → RV X.K X.w X.mg ρ S.length H y v → RelV x vx → RelV y vy → f u v = some b → PySem.W.EqTree X.prog X.w s n vx vy b)
    {ks' ls' : List (Key × AV)} {ks ls : List (Key × V)} {ka kb : List (Key × Value)} {r : Bool} (rk : RPs X.K X.w X.mg ρ S.length H ks ks') (rl : RPs X.K X.w X.mg ρ S.length H ls ls') (va : KV ks ka) (vb : KV ls kb) (nd : (ka.map (·.1)).Nodup) (e : eqTd f ls' ks' = some r) :
    (∀ k v y, (k, v) ∈ ka → valueAt kb k = some y → PySem.W.EqTree X.prog X.w s n v y (entB f ks' ls' k)) ∧ (ka.length == kb.length && ka.all fun p => (valueAt kb p.1).isSome && entB f ks' ls' p.1) = (ks'.length == ls'.length && r) := by
  obtain ⟨e1, m1⟩ := tr_ent rk va
  have n2 : (ks'.map (·.1)).Nodup := e1 ▸ nd
  obtain ⟨h1, h2⟩ := eqTd_all e
  have val : ∀ k, (valueAt kb k = none ∧ valA ls' k = none) ∨ ∃ y v w, valueAt kb k = some y ∧ valA ls' k = some w ∧ RV X.K X.w X.mg ρ S.length H v w ∧ RelV v y := by
    intro k
    have r1 := vb.val k
    rcases rl.val k with ⟨g1, g2⟩ | ⟨v, w, g1, g2, g3⟩
    · rw [g1] at r1
      exact .inl ⟨r1.none_of, g2⟩
    · rw [g1] at r1
      obtain ⟨y, hy, ry⟩ := r1.some_of
      exact .inr ⟨y, v, w, hy, g2, g3, ry⟩
  refine ⟨fun k v y hm hy => ?_, ?_⟩
  · obtain ⟨p, hp, v1, ek, r1, r2⟩ := m1 _ hm
    have ek' : p.1 = k := ek
    subst ek'
    rcases val p.1 with ⟨g1, _⟩ | ⟨y', v2, w, g1, g2, g3, g4⟩
    · rw [hy] at g1; cases g1
    · rw [hy] at g1
      cases g1
      have hv := valA_nodup n2 hp
      obtain ⟨c, hc⟩ := h1 p hp
      have hc' : f p.2 w = some c := by unfold hitB at hc; simp only [g2] at hc; exact hc
      have : entB f ks' ls' p.1 = c := by
        unfold entB
        rw [hv]
        show (hitB f ls' p).getD false = c
        rw [hc]
        rfl
      rw [this]
      exact ih r1 g3 r2 g4 hc'
  · have l1 : ka.length = ks'.length := by
      have := congrArg List.length e1
      rwa [List.length_map, List.length_map] at this
    have l2 : kb.length = ls'.length := by
      have := congrArg List.length (tr_ent rl vb).1
      rwa [List.length_map, List.length_map] at this
    rw [l1, l2]
    congr 1
    have q1 : (ka.all fun p => (valueAt kb p.1).isSome && entB f ks' ls' p.1) = (ka.map (·.1)).all fun k => (valueAt kb k).isSome && entB f ks' ls' k := by rw [List.all_map]; rfl
    have q2 : (ks'.all fun p => (valueAt kb p.1).isSome && entB f ks' ls' p.1) = (ks'.map (·.1)).all fun k => (valueAt kb k).isSome && entB f ks' ls' k := by rw [List.all_map]; rfl
    rw [q1, e1, ← q2, h2]
    refine all_of fun p hp => ?_
    have hv := valA_nodup n2 hp
    rcases val p.1 with ⟨g1, g2⟩ | ⟨y', v2, w, g1, g2, g3, g4⟩
    · rw [g1]
      unfold hitB
      rw [g2]
      rfl
    · rw [g1]
      unfold entB
      rw [hv]
      rfl

theorem rv_ref {N : Nat} {x : V} {a : Nat} (r : RV X.K X.w X.mg ρ N H x (.ref a)) : x = .ref (ρ a) ∧ a < N := by
  cases r with
  | ref n h => exact ⟨rfl, h⟩
theorem same_items (I : Inv X pins σ H s) {f : AV → AV → Option Bool} (ih : ∀ {u v : AV} {b : Bool} {x : V} {vx : Value}, RV X.K X.w X.mg ρ S.length H x u → RV X.K X.w X.mg ρ S.length H x v → RelV x vx → f u v = some b → b = true) :
    ∀ {xs ys : List AV} {bs : List Bool} {vs : List V} {ws : List Value}, RVs X.K X.w X.mg ρ S.length H vs xs → RVs X.K X.w X.mg ρ S.length H vs ys → Vals vs ws → eqTs f xs ys = some bs → bs.all id = true := by
  intro xs
  induction xs with
  | nil =>
    intro ys bs vs ws r1 r2 v1 e
    cases r1
    cases r2
    cases e
    rfl
  | cons x xs k =>
    intro ys bs vs ws r1 r2 v1 e
    cases r1 with
    | cons a1 b1 =>
    cases r2 with
    | cons a2 b2 =>
    cases v1 with
    | cons c1 d1 =>
    unfold eqTs at e
    split at e
    · rename_i g gs e1 e2
      cases e
      rw [List.all_cons, k b1 b2 d1 e2, ih a1 a2 c1 e1]
      rfl
    · cases e
theorem eqT_same (I : Inv X pins σ H s) (rs : RS X.K X.w X.mg ρ H S) : ∀ (n : Nat) {u v : AV} {b : Bool} {x : V} {vx : Value}, RV X.K X.w X.mg ρ S.length H x u → RV X.K X.w X.mg ρ S.length H x v → RelV x vx → eqT S n u v = some b → b = true
  | 0, _, _, _, _, _, _, _, _, e => by cases e
  | n + 1, u, v, b, x, vx, ru, rv, rx, e => by
    unfold eqT at e
    split at e
    · rename_i d1 d2 e1 e2
      cases e
      obtain ⟨h1, h2, _⟩ := toD_ok rs 20 _ _ _ ru e1
      obtain ⟨g1, g2, _⟩ := toD_ok rs 20 _ _ _ rv e2
      obtain ⟨as, q1⟩ := Dp.reads I d1 x vx h1 rx
      obtain ⟨bs, q2⟩ := Dp.reads I d2 x vx g1 rx
      have := SeqAt.plain_unique d1 d2 vx as bs (PyData.plain_of_canLay0 d1 h2) q1 q2
      rw [← this]
      exact SeqAt.eqv_refl_plain d1 (PyData.plain_of_canLay0 d1 h2)
    · split at e
      · split at e
        · cases ru with
          | tup s1 r1 =>
          cases rv with
          | tup s2 r2 =>
          cases I.tuple_inj s1 s2
          obtain ⟨its, q, _, _⟩ := I.tuple s1
          obtain ⟨bs, e1, rfl⟩ := Option.map_eq_some_iff.mp e
          exact same_items I (fun a b c d => eqT_same I rs n a b c d) r1 r2 q e1
        · cases e
      · split at e
        · cases e; rfl
        · rename_i hab
          obtain ⟨h1, h2⟩ := rv_ref ru
          obtain ⟨g1, g2⟩ := rv_ref rv
          exact absurd (rs.inj _ _ h2 g2 (V.ref.inj (h1.symm.trans g1))) hab
      · cases e
theorem eqT_tree (I : Inv X pins σ H s) (rs : RS X.K X.w X.mg ρ H S) : ∀ (n : Nat) {u v : AV} {b : Bool} {x y : V} {vx vy : Value}, RV X.K X.w X.mg ρ S.length H x u → RV X.K X.w X.mg ρ S.length H y v → RelV x vx → RelV y vy → eqT S n u v = some b → PySem.W.EqTree X.prog X.w s (n + 20) vx vy b
  | 0, _, _, _, _, _, _, _, _, _, _, _, e => by cases e
  | n + 1, u, v, b, x, y, vx, vy, ru, rv, rx, ry, e => by
    have sm := fun (h : x = y) => eqT_same I rs (n + 1) ru (h ▸ rv) rx e
    unfold eqT at e
    split at e
    · rename_i d1 d2 e1 e2
      cases e
      obtain ⟨h1, h2, h3⟩ := toD_ok rs 20 _ _ _ ru e1
      obtain ⟨g1, g2, g3⟩ := toD_ok rs 20 _ _ _ rv e2
      obtain ⟨as, q1⟩ := Dp.reads I d1 x vx h1 rx
      obtain ⟨bs, q2⟩ := Dp.reads I d2 y vy g1 ry
      exact .leaf fun A hu => SeqAt.eqAt_reads d1 d2 A s vx vy as bs q1 q2 h2 g2 (by omega)
    · split at e
      · split at e
        · rename_i xs ys _ hl
          cases ru with
          | @tup a vs _ s1 r1 =>
          cases rv with
          | @tup a' us _ s2 r2 =>
          cases (show vx = Value.ref a from rx)
          cases (show vy = Value.ref a' from ry)
          by_cases haa : a = a'
          · subst haa
            rw [sm rfl]
            exact .same
          · obtain ⟨its, v1, p1, _⟩ := I.tuple s1
            obtain ⟨jts, v2, p2, _⟩ := I.tuple s2
            obtain ⟨bs, e1, rfl⟩ := Option.map_eq_some_iff.mp e
            have l1 : its.length = bs.length := by rw [(eqTs_len e1).1, ← r1.length, ← v1.length]
            have l2 : jts.length = bs.length := by rw [(eqTs_len e1).1, hl, ← r2.length, ← v2.length]
            have t := PySem.W.EqTree.tuples (prog := X.prog) (w := X.w) (s := s) (n := n + 20) (e := fun j => bs.getD j false) haa p1 p2 fun j h1 h2 => by
              have := tr_items (fun a b c d e => eqT_tree I rs n a b c d e) r1 r2 v1 v2 e1 j (by simpa using h1) (by simpa using h2)
              simpa using this
            have er : ((List.range (min its.toArray.size jts.toArray.size)).all (fun j => bs.getD j false) && its.toArray.size == jts.toArray.size) = bs.all id := by
              rw [List.size_toArray, List.size_toArray, l1, l2, Nat.min_self, range_all]
              simp
            rw [er] at t
            exact t
        · cases e
      · split at e
        · cases e
          rename_i hab
          obtain ⟨h1, _⟩ := rv_ref ru
          subst hab
          obtain ⟨g1, _⟩ := rv_ref rv
          subst h1
          subst g1
          cases (show vx = _ from rx)
          cases (show vy = _ from ry)
          exact .same
        · rename_i hab
          obtain ⟨h1, h2⟩ := rv_ref ru
          obtain ⟨g1, g2⟩ := rv_ref rv
          subst h1
          subst g1
          have hne := fun q => hab (rs.inj _ _ h2 g2 q)
          cases (show vx = _ from rx)
          cases (show vy = _ from ry)
          split at e
          · rename_i xs ys ea eb
            obtain ⟨_, _, vs, m1, r1⟩ := ru.obj rs ea
            obtain ⟨_, _, us, m2, r2⟩ := rv.obj rs eb
            obtain ⟨its, v1, p1, _⟩ := I.list (SqL.of m1)
            obtain ⟨jts, v2, p2, _⟩ := I.list (SqL.of m2)
            have l1 : its.length = xs.length := by rw [← r1.length, ← v1.length]
            have l2 : jts.length = ys.length := by rw [← r2.length, ← v2.length]
            split at e
            · rename_i hl
              obtain ⟨bs, e1, rfl⟩ := Option.map_eq_some_iff.mp e
              have lb := (eqTs_len e1).1
              have t := PySem.W.EqTree.lists (prog := X.prog) (w := X.w) (s := s) (n := n + 20) (e := fun j => bs.getD j false) hne p1.isList p2.isList (by rw [List.size_toArray, List.size_toArray]; omega) fun j h1 h2 => by
                have := tr_items (fun a b c d e => eqT_tree I rs n a b c d e) r1 r2 v1 v2 e1 j (by simpa using h1) (by simpa using h2)
                simpa using this
              have er : ((List.range its.toArray.size).all fun j => bs.getD j false) = bs.all id := by rw [List.size_toArray, l1, ← lb, range_all]
              rw [er] at t
              exact t
            · rename_i hl
              cases e
              exact .listsLen hne p1.isList p2.isList (by rw [List.size_toArray, List.size_toArray, l1, l2]; simpa using hl)
          · rename_i ks ls ea eb
            obtain ⟨_, _, us, m1, r1⟩ := ru.obj rs ea
            obtain ⟨_, _, ws, m2, r2⟩ := rv.obj rs eb
            obtain ⟨_, ya, va, ka, da⟩ := (show ObjOk X.prog X.w H s.heap _ (.dK us) from I.hok _ _ m1)
            obtain ⟨_, yb, vb, kb, db⟩ := (show ObjOk X.prog X.w H s.heap _ (.dK ws) from I.hok _ _ m2)
            obtain ⟨r, e1, rfl⟩ := Option.map_eq_some_iff.mp e
            have nd : (va.map (·.1)).Nodup := by
              obtain ⟨_, _, _, _, _, _, _, _, z⟩ := da
              exact z
            obtain ⟨t1, t2⟩ := tr_dict (n := n + 20) (fun a b c d e => eqT_tree I rs n a b c d e) r1 r2 ka kb nd e1
            rw [← t2]
            exact .dicts hne ya yb da db t1
          · cases e
      · cases e
end
/-- nested, by the store -/
def rTr (X : Cx) (neg : Bool) : R2 := fun x y H Q => ∃ (ρ : Nat → Addr) (S : Sto) (u v : AV) (b : Bool), RS X.K X.w X.mg ρ H S ∧ RV X.K X.w X.mg ρ S.length H x u ∧ RV X.K X.w X.mg ρ S.length H y v ∧ eqX S u v = some b ∧ Q (.bl (if neg then !b else b)) H
/-- two dicts, flat values -/
def rDq (X : Cx) (neg : Bool) : R2 := fun x y H Q => ∃ ρ N a b ks ls ks' ls', x = .ref a ∧ y = .ref b ∧ H a = some (.dK ks) ∧ H b = some (.dK ls) ∧ RPs X.K X.w X.mg ρ N H ks ks' ∧ RPs X.K X.w X.mg ρ N H ls ls' ∧
  ks'.all (fun p => flatA p.2) = true ∧ ls'.all (fun p => flatA p.2) = true ∧ Q (.bl (if neg then !sameDict ks' ls' else sameDict ks' ls')) H
section
variable {X : Cx}
theorem op_dq (hu : X.A.units < cLine) : OpR X (compareOp .Eq) (rDq X false) := by
  intro pins s σ H x y v u Q I rx ry h
  obtain ⟨ρ, N, a, b, ks, ls, ks', ls', rfl, rfl, ea, eb, rk, rl, fk, fl, q⟩ := h
  obtain rfl : v = Value.ref a := rx
  obtain rfl : u = Value.ref b := ry
  obtain ⟨_, ya, va, ra, da⟩ := (show ObjOk X.prog X.w H s.heap a (.dK ks) from I.hok a _ ea)
  obtain ⟨_, yb, vb, rb, db⟩ := (show ObjOk X.prog X.w H s.heap b (.dK ls) from I.hok b _ eb)
  refine PySem.W.keq_eq (knd := mixKind X.prog X.w) ya yb da db hu (fun _ => hits_of rb rl fl ra rk fk) (fin_bl I q ?_)
  unfold sameDict
  rw [← ra.length, ← rb.length, rk.length, rl.length]
  rfl
theorem op_dn (hu : X.A.units < cLine) : OpR X (compareOp .NotEq) (rDq X true) := by
  intro pins s σ H x y v u Q I rx ry h
  obtain ⟨ρ, N, a, b, ks, ls, ks', ls', rfl, rfl, ea, eb, rk, rl, fk, fl, q⟩ := h
  obtain rfl : v = Value.ref a := rx
  obtain rfl : u = Value.ref b := ry
  obtain ⟨_, ya, va, ra, da⟩ := (show ObjOk X.prog X.w H s.heap a (.dK ks) from I.hok a _ ea)
  obtain ⟨_, yb, vb, rb, db⟩ := (show ObjOk X.prog X.w H s.heap b (.dK ls) from I.hok b _ eb)
  refine PySem.W.keq_ne (knd := mixKind X.prog X.w) ya yb da db hu (fun _ => hits_of rb rl fl ra rk fk) (fin_bl I q ?_)
  unfold sameDict
  rw [← ra.length, ← rb.length, rk.length, rl.length]
  rfl
theorem op_tr (hu : X.A.units + 64 < cLine) : OpR X (compareOp .Eq) (rTr X false) := by
  intro pins s σ H x y v u Q I rx ry h
  obtain ⟨ρ, S, u', v', b, rs, ru, rv, e, q⟩ := h
  have T := fun {u v : AV} {b : Bool} {x y : V} {vx vy : Value} a b' c d f => eqT_tree I rs 8 (u := u) (v := v) (b := b) (x := x) (y := y) (vx := vx) (vy := vy) a b' c d f
  unfold eqX at e
  split at e
  · split at e
    · rename_i xs ys hl
      cases ru with
      | @tup a vs _ s1 r1 =>
      cases rv with
      | @tup a' us _ s2 r2 =>
      cases (show v = Value.ref a from rx)
      cases (show u = Value.ref a' from ry)
      obtain ⟨its, v1, p1, _⟩ := I.tuple s1
      obtain ⟨jts, v2, p2, _⟩ := I.tuple s2
      obtain ⟨bs, e1, rfl⟩ := Option.map_eq_some_iff.mp e
      have l1 : its.length = bs.length := by rw [(eqTs_len e1).1, ← r1.length, ← v1.length]
      have l2 : jts.length = bs.length := by rw [(eqTs_len e1).1, hl, ← r2.length, ← v2.length]
      refine PySem.W.eq_tuplesT (n := 28) (e := fun j => bs.getD j false) p1 p2 (fun j h1 h2 => ?_) (by omega) (fin_bl I q ?_)
      · have := tr_items T r1 r2 v1 v2 e1 j (by simpa using h1) (by simpa using h2)
        simpa using this
      · rw [List.size_toArray, List.size_toArray, l1, l2, Nat.min_self, range_all]
        simp
    · cases e
  · split at e
    · cases e
    · obtain ⟨h1, _⟩ := rv_ref ru
      obtain ⟨g1, _⟩ := rv_ref rv
      subst h1
      subst g1
      cases (show v = _ from rx)
      cases (show u = _ from ry)
      split at e
      · rename_i xs ys ea eb
        obtain ⟨_, _, vs, m1, r1⟩ := ru.obj rs ea
        obtain ⟨_, _, us, m2, r2⟩ := rv.obj rs eb
        obtain ⟨its, v1, p1, _⟩ := I.list (SqL.of m1)
        obtain ⟨jts, v2, p2, _⟩ := I.list (SqL.of m2)
        have l1 : its.length = xs.length := by rw [← r1.length, ← v1.length]
        have l2 : jts.length = ys.length := by rw [← r2.length, ← v2.length]
        split at e
        · rename_i hl
          obtain ⟨bs, e1, rfl⟩ := Option.map_eq_some_iff.mp e
          have lb := (eqTs_len e1).1
          refine PySem.W.eq_listsT (n := 28) (e := fun j => bs.getD j false) p1.isList p2.isList (by rw [List.size_toArray, List.size_toArray]; omega) (fun j h1 h2 => ?_) (by omega) (fin_bl I q ?_)
          · have := tr_items T r1 r2 v1 v2 e1 j (by simpa using h1) (by simpa using h2)
            simpa using this
          · rw [List.size_toArray, l1, ← lb, range_all]
            simp
        · rename_i hl
          cases e
          exact SeqAt.RcAt.lists_lengths p1.isList p2.isList (by rw [List.size_toArray, List.size_toArray, l1, l2]; simpa using hl) (by omega) _ _ _ _ (fin_bl I q rfl)
      · rename_i ks ls ea eb
        obtain ⟨_, _, us, m1, r1⟩ := ru.obj rs ea
        obtain ⟨_, _, ws, m2, r2⟩ := rv.obj rs eb
        obtain ⟨_, ya, va, ka, da⟩ := (show ObjOk X.prog X.w H s.heap _ (.dK us) from I.hok _ _ m1)
        obtain ⟨_, yb, vb, kb, db⟩ := (show ObjOk X.prog X.w H s.heap _ (.dK ws) from I.hok _ _ m2)
        obtain ⟨r, e1, rfl⟩ := Option.map_eq_some_iff.mp e
        have nd : (va.map (·.1)).Nodup := by
          obtain ⟨_, _, _, _, _, _, _, _, z⟩ := da
          exact z
        obtain ⟨t1, t2⟩ := tr_dict (n := 28) T r1 r2 ka kb nd e1
        refine PySem.W.eq_dictsT (n := 28) ya yb da db t1 (by omega) (fin_bl I q ?_)
        rw [t2]
        simp
      · cases e
  · cases e
theorem op_tn (hu : X.A.units + 64 < cLine) : OpR X (compareOp .NotEq) (rTr X true) := by
  intro pins s σ H x y v u Q I rx ry h
  obtain ⟨ρ, S, u', v', b, rs, ru, rv, e, q⟩ := h
  have T := fun {u v : AV} {b : Bool} {x y : V} {vx vy : Value} a b' c d f => eqT_tree I rs 8 (u := u) (v := v) (b := b) (x := x) (y := y) (vx := vx) (vy := vy) a b' c d f
  have un : X.A.in1.units + 28 < cLine := by show X.A.units + 1 + 28 < cLine; omega
  unfold eqX at e
  split at e
  · split at e
    · rename_i xs ys hl
      cases ru with
      | @tup a vs _ s1 r1 =>
      cases rv with
      | @tup a' us _ s2 r2 =>
      cases (show v = Value.ref a from rx)
      cases (show u = Value.ref a' from ry)
      obtain ⟨its, v1, p1, _⟩ := I.tuple s1
      obtain ⟨jts, v2, p2, _⟩ := I.tuple s2
      obtain ⟨bs, e1, rfl⟩ := Option.map_eq_some_iff.mp e
      have l1 : its.length = bs.length := by rw [(eqTs_len e1).1, ← r1.length, ← v1.length]
      have l2 : jts.length = bs.length := by rw [(eqTs_len e1).1, hl, ← r2.length, ← v2.length]
      refine SeqAt.ne_tups (f := fun j => bs.getD j false) p1 p2 (by omega) (fun j h1 h2 => ?_) (fin_bl I q ?_)
      · have := tr_items T r1 r2 v1 v2 e1 j (by simpa using h1) (by simpa using h2)
        exact PySem.W.EqTree.at (by simpa using this) _ un
      · rw [List.size_toArray, List.size_toArray, l1, l2, Nat.min_self, range_all]
        simp
    · cases e
  · split at e
    · cases e
    · obtain ⟨h1, _⟩ := rv_ref ru
      obtain ⟨g1, _⟩ := rv_ref rv
      subst h1
      subst g1
      cases (show v = _ from rx)
      cases (show u = _ from ry)
      split at e
      · rename_i xs ys ea eb
        obtain ⟨_, _, vs, m1, r1⟩ := ru.obj rs ea
        obtain ⟨_, _, us, m2, r2⟩ := rv.obj rs eb
        obtain ⟨its, v1, p1, _⟩ := I.list (SqL.of m1)
        obtain ⟨jts, v2, p2, _⟩ := I.list (SqL.of m2)
        have l1 : its.length = xs.length := by rw [← r1.length, ← v1.length]
        have l2 : jts.length = ys.length := by rw [← r2.length, ← v2.length]
        split at e
        · rename_i hl
          obtain ⟨bs, e1, rfl⟩ := Option.map_eq_some_iff.mp e
          have lb := (eqTs_len e1).1
          refine SeqAt.ne_lsts (f := fun j => bs.getD j false) p1.isList p2.isList (by rw [List.size_toArray, List.size_toArray]; omega) (by omega) (fun j h1 h2 => ?_) (fin_bl I q ?_)
          · have := tr_items T r1 r2 v1 v2 e1 j (by simpa using h1) (by simpa using h2)
            exact PySem.W.EqTree.at (by simpa using this) _ un
          · rw [List.size_toArray, l1, ← lb, range_all]
            simp
        · rename_i hl
          cases e
          exact SeqAt.RcNeAt.lists_lengths p1.isList p2.isList (by rw [List.size_toArray, List.size_toArray, l1, l2]; simpa using hl) (by omega) _ _ _ _ (fin_bl I q rfl)
      · rename_i ks ls ea eb
        obtain ⟨_, _, us, m1, r1⟩ := ru.obj rs ea
        obtain ⟨_, _, ws, m2, r2⟩ := rv.obj rs eb
        obtain ⟨_, ya, va, ka, da⟩ := (show ObjOk X.prog X.w H s.heap _ (.dK us) from I.hok _ _ m1)
        obtain ⟨_, yb, vb, kb, db⟩ := (show ObjOk X.prog X.w H s.heap _ (.dK ws) from I.hok _ _ m2)
        obtain ⟨r, e1, rfl⟩ := Option.map_eq_some_iff.mp e
        have nd : (va.map (·.1)).Nodup := by
          obtain ⟨_, _, _, _, _, _, _, _, z⟩ := da
          exact z
        obtain ⟨t1, t2⟩ := tr_dict (n := 28) T r1 r2 ka kb nd e1
        refine PySem.W.ne_dictsT (n := 28) ya yb da db t1 (by omega) (fin_bl I q ?_)
        rw [t2]
        simp
      · cases e
  · cases e
theorem eq_ok : Op2 X (fun x y H Q => (rEqD X.K x y H Q ∨ rDq X false x y H Q) ∨ rTr X false x y H Q) aEq := by
  intro ρ H S x y u v Q E rs rx ry p
  unfold aEq eqS at p
  split at p
  · rename_i b e
    split at e
    · rename_i d1 d2 e1 e2
      cases e
      obtain ⟨h1, h2⟩ := toD_ok rs 20 _ _ _ rx e1
      obtain ⟨g1, g2⟩ := toD_ok rs 20 _ _ _ ry e2
      exact .inl (.inl ⟨_, _, h1, g1, shaped_of 20 (by decide) h2, shaped_of 20 (by decide) g2, p.bl rs⟩)
    · split at e
      · rename_i e0
        cases e
        unfold dictEq at e0
        split at e0
        · split at e0
          · split at e0
            · rename_i hf
              cases e0
              rw [Bool.and_eq_true] at hf
              rename_i ea eb
              obtain ⟨h1, z1, us, h2, h3⟩ := rx.obj rs ea
              obtain ⟨g1, z2, vs, g2, g3⟩ := ry.obj rs eb
              exact .inl (.inr ⟨_, _, _, _, _, _, _, _, h1, g1, h2, g2, h3, g3, hf.1, hf.2, p.bl rs⟩)
            · cases e0
          · cases e0
        · cases e0
      · exact .inr ⟨_, _, _, _, _, rs, rx, ry, e, p.bl rs⟩
  · exact p.elim
theorem ne_ok : Op2 X (fun x y H Q => (rNeD X.K x y H Q ∨ rDq X true x y H Q) ∨ rTr X true x y H Q) aNe := by
  intro ρ H S x y u v Q E rs rx ry p
  unfold aNe eqS at p
  split at p
  · rename_i b e
    split at e
    · rename_i d1 d2 e1 e2
      cases e
      obtain ⟨h1, h2⟩ := toD_ok rs 20 _ _ _ rx e1
      obtain ⟨g1, g2⟩ := toD_ok rs 20 _ _ _ ry e2
      exact .inl (.inl ⟨_, _, h1, g1, shaped_of 20 (by decide) h2, shaped_of 20 (by decide) g2, p.bl rs⟩)
    · split at e
      · rename_i e0
        cases e
        unfold dictEq at e0
        split at e0
        · split at e0
          · split at e0
            · rename_i hf
              cases e0
              rw [Bool.and_eq_true] at hf
              rename_i ea eb
              obtain ⟨h1, z1, us, h2, h3⟩ := rx.obj rs ea
              obtain ⟨g1, z2, vs, g2, g3⟩ := ry.obj rs eb
              exact .inl (.inr ⟨_, _, _, _, _, _, _, _, h1, g1, h2, g2, h3, g3, hf.1, hf.2, p.bl rs⟩)
            · cases e0
          · cases e0
        · cases e0
      · exact .inr ⟨_, _, _, _, _, rs, rx, ry, e, p.bl rs⟩
  · exact p.elim
end
end Sim

set_option Elab.async false
set_option linter.all false
set_option maxRecDepth 100000
set_option maxHeartbeats 4000000
/-! S4: membership, places, slices, truth, arguments, displays. -/
namespace Sim
open PySem PySem.Spec PyProof.Rows L2
/-! ### in -/
def strIn (c z : Str) : Bool := !(Builtin.Str.occurrences z c 0 z.length 1).isEmpty
def keyA : AV → Option Key
  | .int i => some (.inl i)
  | .str z => some (.inr z)
  | _ => none
def dictAt (S : Sto) : AV → Option (List (Key × AV))
  | .ref n => match S[n]? with
    | some (.dict kvs) => some kvs
    | some (.lck kvs) => some kvs
    | _ => none
  | _ => none
/-- x in y, by what y is -/
def inS (S : Sto) (u v : AV) : Option Bool := match dictAt S v with
  | some kvs => (keyA u).map fun k => (valA kvs k).isSome
  | none => match v with
    | .str z => match u with
      | .str c => some (strIn c z)
      | _ => none
    | .kd kvs => match u with
      | .str c => (kvs.lookup c).map (·.isSome)
      | _ => none
    | .tup xs => if (flatA u && xs.all flatA) = true then some (xs.any fun y => eqA y u) else none
    | _ => match toD S 20 u, toD S 20 v with
      | some d, some (.list ds) => some (ds.any fun z => PyData.eqv z d)
      | _, _ => none
def aIn (u v : AV) : M AV := fun S => match inS S u v with
  | some b => .ok (.bl b) S
  | none => .bad
def aNotIn (u v : AV) : M AV := fun S => match inS S u v with
  | some b => .ok (.bl (!b)) S
  | none => .bad
section
variable {K : PySem.W.Frag} {w : World} {mg : Str → Option Value} {ρ : Nat → Addr} {N : Nat} {S : Sto} {H : Hp}
theorem key_rv {x : V} {u : AV} {k : Key} (r : RV K w mg ρ N H x u) (h : keyA u = some k) : x = kV k := by
  cases r <;> first | (cases h; done) | (cases h; rfl)
theorem key_ok {x : V} {u : AV} {k : Key} (r : RV K w mg ρ N H x u) (h : keyA u = some k) : okK k = true := by
  cases r <;> first | (cases h; done) | (cases h; rfl; done) | (rename_i hz; cases h; exact okB_of hz)
/-- a dict that may be read -/
theorem dict_rd {x : V} {v : AV} {kvs : List (Key × AV)} (rs : RS K w mg ρ H S) (r : RV K w mg ρ S.length H x v) (h : dictAt S v = some kvs) : ∃ a us, x = .ref a ∧ Rd H a (.dK us) ∧ RPs K w mg ρ S.length H us kvs ∧ dOk kvs := by
  unfold dictAt at h
  split at h
  · split at h
    · rename_i e
      cases h
      obtain ⟨e1, z, us, h1, h2⟩ := r.obj rs e
      exact ⟨_, us, e1, .inl h1, h2, z⟩
    · rename_i e
      cases h
      obtain ⟨e1, z, ob, us, h1, h2⟩ := r.obj rs e
      exact ⟨_, us, e1, .inr ⟨ob, h1⟩, h2, z⟩
    · cases h
  · cases h
theorem dget_of {a : Addr} {us : List (Key × V)} {k : Key} (h : Rd H a (.dK us)) : DGet H a (kV k) (valV us k) := .inl ⟨us, k, h, rfl, rfl⟩
theorem isSome_of {us : List (Key × V)} {kvs : List (Key × AV)} (r : RPs K w mg ρ N H us kvs) (k : Key) : (valV us k).isSome = (valA kvs k).isSome := by
  rcases r.val k with ⟨h1, h2⟩ | ⟨v, x, h1, h2, _⟩ <;> rw [h1, h2] <;> rfl
theorem any_flat {x : V} {u : AV} (r : RV K w mg ρ N H x u) (fu : flatA u = true) : ∀ {vs : List V} {xs : List AV}, RVs K w mg ρ N H vs xs → xs.all flatA = true → inV x vs = xs.any (fun y => eqA y u) ∧ vs.all flatV = true
  | _, _, .nil, _ => ⟨rfl, rfl⟩
  | _, _, .cons a t, h => by
    rw [List.all_cons, Bool.and_eq_true] at h
    obtain ⟨h1, h2⟩ := any_flat r fu t h.2
    unfold inV at h1 ⊢
    rw [List.any_cons, List.any_cons, h1, eqA_rv a r h.1 fu, List.all_cons, flat_rv a h.1, h2]
    exact ⟨rfl, rfl⟩
end
section
variable {X : Cx} {W : WX} {a b : Expr} {da db : DE} {pos : Pos}
def rInKd (K : PySem.W.Frag) (w : World) (neg : Bool) : R2 := fun x y H Q => ∃ d kvs c, x = .str c ∧ y = .ref d ∧ KdAt K w d kvs ∧ ∃ o, kvs.lookup c = some o ∧ Q (.bl (if neg then !o.isSome else o.isSome)) H
theorem op_inKd : OpR X (compareOp .In) (rInKd X.K X.w false) := by
  intro pins s σ H x y v u Q I rx ry h
  obtain ⟨d, kvs, c, rfl, rfl, ⟨es, n, D, f⟩, o, e, q⟩ := h
  have f := f c
  rw [e] at f
  cases o with
  | none => exact op_in_kd D pins s σ H _ _ v u Q I rx ry ⟨c, none, rfl, rfl, f, q⟩
  | some i =>
    obtain ⟨t, f⟩ := f
    exact op_in_kd D pins s σ H _ _ v u Q I rx ry ⟨c, _, rfl, rfl, f, q⟩
theorem op_notInKd : OpR X (compareOp .NotIn) (rInKd X.K X.w true) := by
  intro pins s σ H x y v u Q I rx ry h
  obtain ⟨d, kvs, c, rfl, rfl, ⟨es, n, D, f⟩, o, e, q⟩ := h
  have f := f c
  rw [e] at f
  cases o with
  | none => exact op_notIn_kd D pins s σ H _ _ v u Q I rx ry ⟨c, none, rfl, rfl, f, q⟩
  | some i =>
    obtain ⟨t, f⟩ := f
    exact op_notIn_kd D pins s σ H _ _ v u Q I rx ry ⟨c, _, rfl, rfl, f, q⟩
/-- all but dicts -/
def rIn4 (K : PySem.W.Frag) (w : World) (neg : Bool) : R2 := fun x y H Q =>
  (∃ i j, x = .str i ∧ y = .str j ∧ Q (.bl (if neg then !strIn i j else strIn i j)) H) ∨ rInKd K w neg x y H Q ∨ rIn K neg x y H Q ∨ (∃ d ds, Dp K H x d ∧ Dp K H y (.list ds) ∧ SeqAt.shaped d = true ∧ SeqAt.shaped (.list ds) = true ∧ Q (.bl (if neg then !ds.any (fun z => PyData.eqv z d) else ds.any fun z => PyData.eqv z d)) H)
theorem op_in4 (hu : X.A.units + 65 < cLine) : OpR X (compareOp .In) (rIn4 X.K X.w false) := (op_in_str (X := X)).or (op_inKd.or (op_in_seq.or (op_inD hu)))
theorem op_notIn4 (hu : X.A.units + 65 < cLine) : OpR X (compareOp .NotIn) (rIn4 X.K X.w true) := (op_notin_str (X := X)).or (op_notInKd.or (op_notIn_seq.or (op_notInD hu)))
theorem in4_ok (neg : Bool) {ρ : Nat → Addr} {H : Hp} {S : Sto} {x y : V} {u v : AV} {Q : VK} {E : XK} {r : Bool} (rs : Rs X ρ H S) (rx : Rv X ρ S.length H x u) (ry : Rv X ρ S.length H y v) (nd : dictAt S v = none) (e : inS S u v = some r)
    (p : Pv X ρ S.length H Q E (.ok (.bl (if neg then !r else r)) S)) : rIn4 X.K X.w neg x y H Q := by
  unfold inS at e
  rw [nd] at e
  simp only at e
  split at e
  · split at e
    · cases e; cases rx; cases ry
      exact .inl ⟨_, _, rfl, rfl, p.bl rs⟩
    · cases e
  · split at e
    · cases rx
      cases ry with
      | kd h =>
      obtain ⟨o, el, eo⟩ := Option.map_eq_some_iff.mp e
      subst eo
      exact .inr (.inl ⟨_, _, _, rfl, rfl, h, o, el, p.bl rs⟩)
    · cases e
  · split at e
    · rename_i hf
      cases e
      rw [Bool.and_eq_true] at hf
      cases ry with
      | tup h1 r1 =>
      obtain ⟨g1, g2⟩ := any_flat rx hf.1 r1 hf.2
      refine .inr (.inr (.inl ⟨_, _, rfl, .inr h1, flat_rv rx hf.1, g2, ?_⟩))
      rw [g1]
      exact p.bl rs
    · cases e
  · split at e
    · rename_i d ds e1 e2
      cases e
      obtain ⟨h1, h2⟩ := toD_ok rs 20 _ _ _ rx e1
      obtain ⟨g1, g2⟩ := toD_ok rs 20 _ _ _ ry e2
      exact .inr (.inr (.inr ⟨_, _, h1, g1, shaped_of 20 (by decide) h2, shaped_of 20 (by decide) g2, p.bl rs⟩))
    · cases e
theorem in_imp {σ : L2.St} {H : Hp} {Q : VK} (q : tD X.K X.w X.mg W (bind2 da db aIn) σ H Q) : tOp (rIn4 X.K X.w false) (tD X.K X.w X.mg W da) (tD X.K X.w X.mg W db) σ H Q ∨ tDIn (tD X.K X.w X.mg W da) (tD X.K X.w X.mg W db) σ H Q := by
  obtain ⟨ρ, S, η, at0, p⟩ := q
  by_cases hd : ∃ u S1 v S2 kvs, da η S = .ok u S1 ∧ db η S1 = .ok v S2 ∧ dictAt S2 v = some kvs
  · obtain ⟨u, S1, v, S2, kvs, e1, e2, e3⟩ := hd
    refine .inr ((tG.bind at0 p).mono fun x H1 ⟨ρ1, S1', u', q1, at1, f1, r1, p1⟩ => (tG.bind at1 p1).mono fun y H2 ⟨ρ2, S2', v', q2, at2, f2, r2, p2⟩ => ?_)
    rw [e1] at q1; cases q1
    rw [e2] at q2; cases q2
    obtain ⟨a, us, rfl, h1, h2, _⟩ := dict_rd at2.rs r2 e3
    unfold aIn inS at p2
    rw [e3] at p2
    simp only at p2
    cases ek : keyA u with
    | none => rw [ek] at p2; exact p2.elim
    | some k =>
      rw [ek] at p2
      obtain rfl := key_rv (r1.mono f2.toUp) ek
      exact ⟨a, _, rfl, dget_of h1, by rw [isSome_of h2]; exact p2.bl at2.rs⟩
  · refine .inl ((tG.bind at0 p).mono fun x H1 ⟨ρ1, S1', u', q1, at1, f1, r1, p1⟩ => (tG.bind at1 p1).mono fun y H2 ⟨ρ2, S2', v', q2, at2, f2, r2, p2⟩ => ?_)
    have nd : dictAt S2' v' = none := by
      cases e : dictAt S2' v' with
      | none => rfl
      | some kvs => exact absurd ⟨_, _, _, _, _, q1, q2, e⟩ hd
    unfold aIn at p2
    cases e : inS S2' u' v' with
    | none => rw [e] at p2; exact p2.elim
    | some r =>
      rw [e] at p2
      exact in4_ok false at2.rs (r1.mono f2.toUp) r2 nd e p2
theorem se_in (hu : X.A.units + 65 < cLine) (ha : SE X W a da) (hb : SE X W b db) (hm : behindInMarks .In b = false) : SE X W (.Compare a [.In] [b] pos) (bind2 da db aIn) :=
  PE.imp (PE.or (pe_cmpR (op_in4 hu) ha hb hm) (pe_cmp (pc_din (by omega) ha hb) hm)) fun σ H Q q => in_imp q
theorem notIn_imp {σ : L2.St} {H : Hp} {Q : VK} (q : tD X.K X.w X.mg W (bind2 da db aNotIn) σ H Q) : tOp (rIn4 X.K X.w true) (tD X.K X.w X.mg W da) (tD X.K X.w X.mg W db) σ H Q ∨ tDNotIn (tD X.K X.w X.mg W da) (tD X.K X.w X.mg W db) σ H Q := by
  obtain ⟨ρ, S, η, at0, p⟩ := q
  by_cases hd : ∃ u S1 v S2 kvs, da η S = .ok u S1 ∧ db η S1 = .ok v S2 ∧ dictAt S2 v = some kvs
  · obtain ⟨u, S1, v, S2, kvs, e1, e2, e3⟩ := hd
    refine .inr ((tG.bind at0 p).mono fun x H1 ⟨ρ1, S1', u', q1, at1, f1, r1, p1⟩ => (tG.bind at1 p1).mono fun y H2 ⟨ρ2, S2', v', q2, at2, f2, r2, p2⟩ => ?_)
    rw [e1] at q1; cases q1
    rw [e2] at q2; cases q2
    obtain ⟨a, us, rfl, h1, h2, _⟩ := dict_rd at2.rs r2 e3
    unfold aNotIn inS at p2
    rw [e3] at p2
    simp only at p2
    cases ek : keyA u with
    | none => rw [ek] at p2; exact p2.elim
    | some k =>
      rw [ek] at p2
      obtain rfl := key_rv (r1.mono f2.toUp) ek
      exact ⟨a, _, rfl, dget_of h1, by rw [isSome_of h2]; exact p2.bl at2.rs⟩
  · refine .inl ((tG.bind at0 p).mono fun x H1 ⟨ρ1, S1', u', q1, at1, f1, r1, p1⟩ => (tG.bind at1 p1).mono fun y H2 ⟨ρ2, S2', v', q2, at2, f2, r2, p2⟩ => ?_)
    have nd : dictAt S2' v' = none := by
      cases e : dictAt S2' v' with
      | none => rfl
      | some kvs => exact absurd ⟨_, _, _, _, _, q1, q2, e⟩ hd
    unfold aNotIn at p2
    cases e : inS S2' u' v' with
    | none => rw [e] at p2; exact p2.elim
    | some r =>
      rw [e] at p2
      exact in4_ok true at2.rs (r1.mono f2.toUp) r2 nd e p2

theorem se_notIn (hu : X.A.units + 65 < cLine) (ha : SE X W a da) (hb : SE X W b db) (hm : behindInMarks .NotIn b = false) : SE X W (.Compare a [.NotIn] [b] pos) (bind2 da db aNotIn) :=
  PE.imp (PE.or (pe_cmpR (op_notIn4 hu) ha hb hm) (pe_cmp (pc_dnotin (by omega) ha hb) hm)) fun σ H Q q => notIn_imp q
/-! ### a place -/
def aIx (u v : AV) : M AV := fun S => match dictAt S u with
  | some kvs => match keyA v with
    | some k => match valA kvs k with
      | some x => .ok x S
      | none => .bad
    | none => .bad
  | none => match u, v with
    | .tup xs, .int i => match atI xs i with
      | some x => .ok x S
      | none => .bad
    | .rl xs, .int i => match atI xs i with
      | some x => .ok (.int x) S
      | none => .bad
    | .str z, .int i => match atI z.cps.toList i with
      | some c => .ok (.str ⟨#[c]⟩) S
      | none => .bad
    | .kd kvs, .str z => match kvs.lookup z with
      | some (some i) => .ok (.int i) S
      | _ => .bad
    | .ref n, .int i => match S[n]? with
      | some (.lst xs) => match atI xs i with
        | some x => .ok x S
        | none => .bad
      | _ => .bad
    | _, _ => .bad
theorem atI_rv {K : PySem.W.Frag} {w : World} {mg : Str → Option Value} {ρ : Nat → Addr} {N : Nat} {H : Hp} {vs : List V} {xs : List AV} {i : Int} {x : AV} (r : RVs K w mg ρ N H vs xs) (h : atI xs i = some x) : ∃ v, atI vs i = some v ∧ RV K w mg ρ N H v x := by
  unfold atI at h ⊢
  rw [r.length]
  cases e : ixN xs.length i with
  | none => rw [e] at h; cases h
  | some j =>
    rw [e] at h
    exact r.get h
theorem atI_map {α β : Type} (f : α → β) {xs : List α} {i : Int} {x : α} (h : atI xs i = some x) : atI (xs.map f) i = some (f x) := by
  unfold atI at h ⊢
  rw [List.length_map]
  cases e : ixN xs.length i with
  | none => rw [e] at h; cases h
  | some j =>
    rw [e] at h
    show (xs.map f)[j]? = _
    rw [List.getElem?_map, show xs[j]? = some x from h]
    rfl
theorem atI_mem {α : Type} {xs : List α} {i : Int} {x : α} (h : atI xs i = some x) : x ∈ xs := by
  unfold atI at h
  cases e : ixN xs.length i with
  | none => rw [e] at h; cases h
  | some j =>
    rw [e] at h
    exact List.mem_of_getElem? (show xs[j]? = some x from h)
theorem okS_one {z : Str} {c : Nat} (h : okS z) (hc : c ∈ z.cps.toList) : okS ⟨#[c]⟩ := ⟨by show 1 ≤ sizeLine; decide, fun d hd => by
  have : d = c := by simpa using hd
  rw [this]
  exact h.all c hc⟩
def rIx4 (K : PySem.W.Frag) (w : World) : R2 := fun x y H Q => rIx K x y H Q ∨ rIxD K w x y H Q
theorem ix4 : IxR X (rIx4 X.K X.w) := ix_seq.or ix_kdict
theorem ix4_ok {ρ : Nat → Addr} {H : Hp} {S : Sto} {x y : V} {u v : AV} {Q : VK} {E : XK} (rs : Rs X ρ H S) (rx : Rv X ρ S.length H x u) (ry : Rv X ρ S.length H y v) (nd : dictAt S u = none) (p : Pv X ρ S.length H Q E (aIx u v S)) : rIx4 X.K X.w x y H Q := by
  unfold aIx at p
  rw [nd] at p
  simp only at p
  split at p
  · split at p
    · rename_i e
      cases ry
      cases rx with
      | tup h1 r1 =>
      obtain ⟨v, h2, h3⟩ := atI_rv r1 e
      exact .inl (.inr (.inl ⟨_, _, _, _, rfl, rfl, h1, h2, p.fin rs h3⟩))
    · exact p.elim
  · split at p
    · rename_i e
      cases ry
      cases rx with
      | rl h1 f => exact .inl (.inl ⟨_, _, _, _, rfl, rfl, h1, atI_map V.int e, p.int rs⟩)
    · exact p.elim
  · split at p
    · rename_i e
      cases ry
      cases rx with
      | str _ h1 => exact .inl (.inr (.inr ⟨_, _, _, rfl, rfl, h1.len, e, p.fin rs (.str _ (okS_one h1 (atI_mem e)))⟩))
    · exact p.elim
  · split at p
    · rename_i kvs z _ i e
      cases ry
      cases rx with
      | kd h1 =>
      obtain ⟨es, n, D, f⟩ := h1
      have f := f z
      rw [e] at f
      obtain ⟨t, f⟩ := f
      exact .inr ⟨_, _, .int i, rfl, rfl, ⟨es, n, _, D.at_, D.lit, f, ⟨t, rfl⟩⟩, p.int rs⟩
    · exact p.elim
  · split at p
    · rename_i e1
      split at p
      · rename_i e
        cases ry
        obtain ⟨h1, _, vs, h2, h3⟩ := rx.obj rs e1
        obtain ⟨v, h4, h5⟩ := atI_rv h3 e
        exact .inl (.inl ⟨_, _, _, _, h1, rfl, SqL.of h2, h4, p.fin rs h5⟩)
      · exact p.elim
    · exact p.elim
  · exact p.elim
theorem se_ix (hu : X.A.units + 65 < cLine) (ha : SE X W a da) (hb : SE X W b db) (hs : PlainIx b := by intro _ _; rfl) : SE X W (.Subscript a b pos) (bind2 da db aIx) := by
  refine PE.imp (PE.or (pe_ix ix4 ha hb hs) (pe_dget (by omega) ha hb hs)) fun σ H Q ⟨ρ, S, η, at0, p⟩ => ?_
  by_cases hd : ∃ u S1 v S2 kvs, da η S = .ok u S1 ∧ db η S1 = .ok v S2 ∧ dictAt S2 u = some kvs
  · obtain ⟨u, S1, v, S2, kvs, e1, e2, e3⟩ := hd
    refine .inr ((tG.bind at0 p).mono fun x H1 ⟨ρ1, S1', u', q1, at1, f1, r1, p1⟩ => (tG.bind at1 p1).mono fun y H2 ⟨ρ2, S2', v', q2, at2, f2, r2, p2⟩ => ?_)
    rw [e1] at q1; cases q1
    rw [e2] at q2; cases q2
    obtain ⟨a, us, rfl, h1, h2, _⟩ := dict_rd at2.rs (r1.mono f2.toUp) e3
    unfold aIx at p2
    rw [e3] at p2
    simp only at p2
    split at p2
    · rename_i k ek
      split at p2
      · rename_i z ez
        obtain rfl := key_rv r2 ek
        rcases h2.val k with ⟨g1, g2⟩ | ⟨v0, x0, g1, g2, g3⟩
        · rw [g2] at ez; cases ez
        · rw [g2] at ez; cases ez
          exact ⟨a, v0, rfl, by rw [← g1]; exact dget_of h1, p2.fin at2.rs g3⟩
      · exact p2.elim
    · exact p2.elim
  · refine .inl ((tG.bind at0 p).mono fun x H1 ⟨ρ1, S1', u', q1, at1, f1, r1, p1⟩ => (tG.bind at1 p1).mono fun y H2 ⟨ρ2, S2', v', q2, at2, f2, r2, p2⟩ => ?_)
    have nd : dictAt S2' u' = none := by
      cases e : dictAt S2' u' with
      | none => rfl
      | some kvs => exact absurd ⟨_, _, _, _, _, q1, q2, e⟩ hd
    exact ix4_ok at2.rs (r1.mono f2.toUp) r2 nd p2
end
end Sim

set_option Elab.async false
set_option linter.all false
set_option maxRecDepth 100000
set_option maxHeartbeats 4000000
/-! S5: slices, truth, tests, arguments, displays. -/
namespace Sim
open PySem PySem.Spec PyProof.Rows L2
section
variable {X : Cx} {W : WX} {a b c e : Expr} {da db dc d : DE} {es : List Expr} {dl : DL} {pos : Pos}
/-! ### slices -/
abbrev DO := Nv → M (Option Int)
def SO (X : Cx) (W : WX) (e : Option Expr) (d : DO) : Prop := PO X e (tG X.K X.w X.mg Ro W d)
theorem PO.imp {e : Option Expr} {t t' : TO} (p : PO X e t) (h : ∀ σ H Q, t' σ H Q → t σ H Q) : PO X e t' := ⟨fun pins s σ H Q I q => p.run pins s σ H Q I (h σ H Q q)⟩
def dNo : DO := fun _ S => .ok none S
def asI (u : AV) : M (Option Int) := fun S => match u with
  | .int i => .ok (some i) S
  | _ => .bad
theorem so_no : SO X W none dNo := PO.imp po_none fun σ H Q ⟨ρ, S, η, a, p⟩ => ret_at a rfl p
theorem so_some (h : SE X W a da) : SO X W (some a) (bind1 da asI) := PO.imp (po_some h) fun σ H Q ⟨ρ, S, η, at0, p⟩ => (tG.bind at0 p).mono fun x H1 ⟨ρ1, S1, u, _, at1, _, r1, p1⟩ => by
  unfold asI at p1
  split at p1
  · cases r1; exact ⟨_, rfl, ret_at at1 rfl p1⟩
  · exact p1.elim
def cutL {α : Type} (xs : List α) (lo hi : Option Int) : List α := (xs.drop (HT.sIx xs.length 0 lo)).take (HT.sIx xs.length xs.length hi - HT.sIx xs.length 0 lo)
def aSl (u : AV) (lo hi : Option Int) : M AV := fun S => match u with
  | .str z => .ok (.str (cutS z lo hi)) S
  | .tup xs => .ok (.tup (cutL xs lo hi)) S
  | .ref n => match S[n]? with
    | some (.lst xs) => .ok (.ref S.length) (S ++ [.lst (cutL xs lo hi)])
    | _ => .bad
  | _ => .bad
theorem cut_rv {K : PySem.W.Frag} {w : World} {mg : Str → Option Value} {ρ : Nat → Addr} {N : Nat} {H : Hp} {vs : List V} {xs : List AV} (r : RVs K w mg ρ N H vs xs) (lo hi : Option Int) : RVs K w mg ρ N H (cutV vs lo hi) (cutL xs lo hi) := by
  unfold cutV cutL
  rw [r.length]
  exact (r.drop _).take _
theorem cutL_le {α : Type} (xs : List α) (lo hi : Option Int) : (cutL xs lo hi).length ≤ xs.length := by
  unfold cutL
  rw [List.length_take, List.length_drop]
  omega
theorem cutL_all {α : Type} {xs : List α} {lo hi : Option Int} (h : HT.sIx xs.length 0 lo = 0 ∧ HT.sIx xs.length xs.length hi = xs.length) : cutL xs lo hi = xs := by
  unfold cutL
  rw [h.1, h.2, List.drop_zero, Nat.sub_zero, List.take_length]
theorem okS_cut {z : Str} (h : okS z) (lo hi : Option Int) : okS (cutS z lo hi) := h.sub (cutS_length z lo hi) fun c hc => by
  unfold cutS at hc
  exact List.mem_of_mem_drop (List.mem_of_mem_take hc)
def rSl3 (K : PySem.W.Frag) : V → Option Int → Option Int → Hp → VK → Prop := fun x lo hi H Q => rSlS x lo hi H Q ∨ rSlA K x lo hi H Q ∨ rSlL K x lo hi H Q
theorem sl3 : SlR X (rSl3 X.K) := sl_str.or (sl_tupA.or sl_list)
def bind3 {α β γ δ : Type} (d : Nv → M α) (e : Nv → M β) (f : Nv → M γ) (g : α → β → γ → M δ) : Nv → M δ := fun η S => (d η S).bind fun x S1 => (e η S1).bind fun y S2 => (f η S2).bind fun z S3 => g x y z S3
theorem se_sl {lo hi : Option Expr} {dl dh : DO} {p2 : Pos} (ha : SE X W a da) (hl : SO X W lo dl) (hh : SO X W hi dh) : SE X W (.Subscript a (.Slice lo hi none p2) pos) (bind3 da dl dh aSl) :=
  PE.imp (pe_slice sl3 ha hl hh) fun σ H Q ⟨ρ, S, η, at0, p⟩ => (tG.bind at0 p).mono fun x H1 ⟨ρ1, S1, u, _, at1, f1, r1, p1⟩ => (tG.bind at1 p1).mono fun o H2 ⟨ρ2, S2, v, _, at2, f2, r2, p2⟩ => (tG.bind at2 p2).mono fun o' H3 ⟨ρ3, S3, v', _, at3, f3, r3, p3⟩ => by
    cases r2
    cases r3
    have r1 := (r1.mono f2.toUp).mono f3.toUp
    unfold aSl at p3
    split at p3
    · cases r1 with
      | str _ h => exact .inl ⟨_, rfl, h.len, p3.fin at3.rs (.str _ (okS_cut h _ _))⟩
    · cases r1 with
      | tup h r =>
      refine .inr (.inl ⟨_, _, rfl, h, fun q => ?_, fun _ p' n => p3.tup at3.rs n (cut_rv r _ _)⟩)
      rw [r.length] at q
      rw [cutL_all q] at p3
      exact p3.fin at3.rs (.tup h r)
    · split at p3
      · rename_i es
        obtain ⟨h1, z, vs, h2, h3⟩ := r1.obj at3.rs es
        exact .inr (.inr ⟨_, _, h1, SqL.of h2, fun p' n => p3.newL at3.rs n (Nat.le_trans (cutL_le _ _ _) z) (cut_rv h3 _ _)⟩)
      · exact p3.elim
    · exact p3.elim
def aRev (u : AV) : M AV := fun S => match u with
  | .ref n => match S[n]? with
    | some (.lst xs) => .ok (.ref S.length) (S ++ [.lst xs.reverse])
    | _ => .bad
  | _ => .bad
theorem se_rev {k : Nat} {p1 p2 p3 : Pos} (ha : SE X W a da) : SE X W (.Subscript a (.Slice none none (some (.UnaryOp .USub (.Constant (.int 1) k p1) p2)) p3) pos) (bind1 da aRev) :=
  PE.imp (pe_revL ha) fun σ H Q ⟨ρ, S, η, at0, p⟩ => (tG.bind at0 p).mono fun x H1 ⟨ρ1, S1, u, _, at1, f1, r1, p1⟩ => by
    unfold aRev at p1
    split at p1
    · split at p1
      · rename_i es
        obtain ⟨h1, z, vs, h2, h3⟩ := r1.obj at1.rs es
        exact ⟨_, _, h1, SqL.of h2, fun p' n => p1.newL at1.rs n (by rw [List.length_reverse]; exact z) h3.reverse⟩
      · exact p1.elim
    · exact p1.elim
/-! ### truth -/
def truS (S : Sto) : AV → Option Bool
  | .non => some false
  | .bl b => some b
  | .int i => some (i != 0)
  | .str z => some ((z.length : Int) != 0)
  | .tup xs => some (!xs.isEmpty)
  | .rl xs => some (!xs.isEmpty)
  | .ref n => match S[n]? with
    | some (.lst xs) => some (!xs.isEmpty)
    | some (.dict kvs) => some (!kvs.isEmpty)
    | _ => none
  | _ => none
def aTru (u : AV) : M Bool := fun S => match truS S u with
  | some b => .ok b S
  | none => .bad
theorem isEmpty_len {α β : Type} {xs : List α} {ys : List β} (h : xs.length = ys.length) : xs.isEmpty = ys.isEmpty := by
  cases xs <;> cases ys <;> first | rfl | (simp at h)
theorem tru_rv {K : PySem.W.Frag} {w : World} {mg : Str → Option Value} {ρ : Nat → Addr} {S : Sto} {H : Hp} {x : V} {u : AV} {b : Bool} (rs : RS K w mg ρ H S) (r : RV K w mg ρ S.length H x u) (h : truS S u = some b) : TruV K x H b := by
  cases u with
  | non => cases r; cases h; exact rfl
  | bl c => cases r; cases h; exact rfl
  | int i => cases r; cases h; exact rfl
  | str z => cases r with | str _ h1 => cases h; exact ⟨h1.len, rfl⟩
  | tup xs =>
    cases r with
    | tup h1 r1 =>
    cases h
    exact .inr (.inl ⟨_, h1, by rw [isEmpty_len r1.length]⟩)
  | rl xs =>
    cases r with
    | rl h1 _ =>
    cases h
    exact .inl ⟨_, h1, by rw [isEmpty_len (List.length_map _)]⟩
  | ref n =>
    unfold truS at h
    simp only at h
    split at h
    · rename_i es
      cases h
      obtain ⟨h1, z, vs, h2, h3⟩ := r.obj rs es
      rw [h1]
      exact .inl ⟨_, SqL.of h2, by rw [isEmpty_len h3.length]⟩
    · rename_i es
      cases h
      obtain ⟨h1, z, vs, h2, h3⟩ := r.obj rs es
      rw [h1]
      exact .inr (.inr ⟨_, h2, by rw [isEmpty_len h3.length]⟩)
    · cases h
  | ty n => cases h
  | cls n => cases h
  | kd n => cases h
theorem Post.boo {K : PySem.W.Frag} {w : World} {mg : Str → Option Value} {ρ : Nat → Addr} {S : Sto} {H : Hp} {Q : Bool → Hp → Prop} {E : XK} {b : Bool} (p : PostB K w mg ρ S.length H Q E (.ok b S)) (rs : RS K w mg ρ H S) : Q b H := p ρ b H Ext.refl rs rfl
/-! ### tests -/
theorem st_tru (ha : SE X W a da) (he : ∀ whole, isTrue a X.env whole = (do let v ← whole; standAt a.pos; holding [v] (truthy v)) := by intro _; rfl) : ST X W a (bind1 da aTru) :=
  PT.imp (pt_truth ha he) fun σ H Q ⟨ρ, S, η, at0, p⟩ => (tG.bind at0 p).mono fun x H1 ⟨ρ1, S1, u, _, at1, f1, r1, p1⟩ => by
    unfold aTru at p1
    split at p1
    · rename_i b eb
      exact ⟨b, tru_rv at1.rs r1 eb, p1.boo at1.rs⟩
    · exact p1.elim
def asB (u : AV) : M Bool := fun S => match u with
  | .bl b => .ok b S
  | _ => .bad
/-- a reading's test, by its value -/
theorem st_of {t : TE} (p : PT X e (tTest t)) (h : ∀ σ H Q, tD X.K X.w X.mg W d σ H Q → t σ H Q) : ST X W e (bind1 d asB) :=
  PT.imp p fun σ H Q ⟨ρ, S, η, at0, p⟩ => h σ H _ ((tG.bind at0 p).mono fun x H1 ⟨ρ1, S1, u, _, at1, f1, r1, p1⟩ => by
    unfold asB at p1
    split at p1
    · cases r1; exact ⟨_, rfl, p1.boo at1.rs⟩
    · exact p1.elim)
theorem st_ofB {t : TE} (p : PT X e (tB t)) (h : ∀ σ H Q, tD X.K X.w X.mg W d σ H Q → t σ H Q) : ST X W e (bind1 d asB) := st_of (t := t) p h
theorem st_cmp {op : CmpOp} {r : R2} {f : AV → AV → M AV} (ho : OpR X (compareOp op) r) (hf : Op2 X r f) (ha : SE X W a da) (hb : SE X W b db) (hm : behindInMarks op b = false) : ST X W (.Compare a [op] [b] pos) (bind1 (bind2 da db f) asB) :=
  st_of (pt_cmpR ho ha hb hm) fun σ H Q q => imp2 (ta := tD X.K X.w X.mg W da) (tb := tD X.K X.w X.mg W db) hf q
theorem PT.or {X : Cx} {e : Expr} {t t' : TT} (p : PT X e t) (p' : PT X e t') : PT X e fun σ H Q => t σ H Q ∨ t' σ H Q := ⟨fun pins s σ H Q I q => q.elim (p.run pins s σ H Q I) (p'.run pins s σ H Q I)⟩
theorem st_in (hu : X.A.units + 65 < cLine) (ha : SE X W a da) (hb : SE X W b db) (hm : behindInMarks .In b = false) : ST X W (.Compare a [.In] [b] pos) (bind1 (bind2 da db aIn) asB) :=
  st_of (t := fun σ H Q => tOp (rIn4 X.K X.w false) (tD X.K X.w X.mg W da) (tD X.K X.w X.mg W db) σ H Q ∨ tDIn (tD X.K X.w X.mg W da) (tD X.K X.w X.mg W db) σ H Q) (PT.or (pt_cmpR (op_in4 hu) ha hb hm) (pt_cmp (pc_din (by omega) ha hb) hm)) fun σ H Q q => in_imp q
theorem st_notIn (hu : X.A.units + 65 < cLine) (ha : SE X W a da) (hb : SE X W b db) (hm : behindInMarks .NotIn b = false) : ST X W (.Compare a [.NotIn] [b] pos) (bind1 (bind2 da db aNotIn) asB) :=
  st_of (t := fun σ H Q => tOp (rIn4 X.K X.w true) (tD X.K X.w X.mg W da) (tD X.K X.w X.mg W db) σ H Q ∨ tDNotIn (tD X.K X.w X.mg W da) (tD X.K X.w X.mg W db) σ H Q) (PT.or (pt_cmpR (op_notIn4 hu) ha hb hm) (pt_cmp (pc_dnotin (by omega) ha hb) hm)) fun σ H Q q => notIn_imp q
def dAndB (d1 d2 : DB) : DB := fun η S => (d1 η S).bind fun c S1 => if c = true then d2 η S1 else .ok false S1
def dOrB (d1 d2 : DB) : DB := fun η S => (d1 η S).bind fun c S1 => if c = true then .ok true S1 else d2 η S1
def dNotB (d1 : DB) : DB := fun η S => (d1 η S).bind fun c S1 => .ok (!c) S1
variable {d1 d2 : DB} {rest : List Expr}
theorem sw_and1 (h : ST X W a d1) : SW X W (.BoolOp .And [a] pos) d1 := pw_and1 h
theorem sw_or1 (h : ST X W a d1) : SW X W (.BoolOp .Or [a] pos) d1 := pw_or1 h
theorem sw_and (h : ST X W a d1) (h2 : SW X W (.BoolOp .And (b :: rest) pos) d2) : SW X W (.BoolOp .And (a :: b :: rest) pos) (dAndB d1 d2) :=
  PW.imp (pw_and h h2) fun σ H Q ⟨ρ, S, η, at0, p⟩ => (tG.bind at0 p).mono fun c H1 ⟨ρ1, S1, u, _, at1, f1, r1, p1⟩ => by
    obtain rfl : c = u := r1
    cases c with
    | true => exact ⟨ρ1, S1, η, at1, p1⟩
    | false => exact p1.boo at1.rs
theorem sw_or (h : ST X W a d1) (h2 : SW X W (.BoolOp .Or (b :: rest) pos) d2) : SW X W (.BoolOp .Or (a :: b :: rest) pos) (dOrB d1 d2) :=
  PW.imp (pw_or h h2) fun σ H Q ⟨ρ, S, η, at0, p⟩ => (tG.bind at0 p).mono fun c H1 ⟨ρ1, S1, u, _, at1, f1, r1, p1⟩ => by
    obtain rfl : c = u := r1
    cases c with
    | false => exact ⟨ρ1, S1, η, at1, p1⟩
    | true => exact p1.boo at1.rs
theorem st_w (h : SW X W e d1) : ST X W e d1 := PW.pt h
theorem st_not (h : ST X W a d1) : ST X W (.UnaryOp .Not a pos) (dNotB d1) :=
  PT.imp (pt_not h) fun σ H Q ⟨ρ, S, η, at0, p⟩ => (tG.bind at0 p).mono fun c H1 ⟨ρ1, S1, u, _, at1, f1, r1, p1⟩ => by
    obtain rfl : c = u := r1
    exact p1.boo at1.rs
/-! .. as values -/
def dAnd (da db : DE) : DE := fun η S => (da η S).bind fun x S1 => (aTru x S1).bind fun c S2 => if c = true then db η S2 else .ok x S2
def dOr (da db : DE) : DE := fun η S => (da η S).bind fun x S1 => (aTru x S1).bind fun c S2 => if c = true then .ok x S2 else db η S2
def aNot (u : AV) : M AV := fun S => (aTru u S).bind fun c S1 => .ok (.bl (!c)) S1
theorem tru_bind {α : Type} {u : AV} {S : Sto} {k : Bool → Sto → R α} {P : R α → Prop} (p : P ((aTru u S).bind k)) (hb : ¬ P .bad) : ∃ b, truS S u = some b ∧ P (k b S) := by
  unfold aTru at p
  cases e : truS S u with
  | none => rw [e] at p; exact absurd p hb
  | some b => rw [e] at p; exact ⟨b, rfl, p⟩
theorem se_one {op} (h : SE X W a da) : SE X W (.BoolOp op [a] pos) da := pe_one h
theorem se_and (h : SE X W a da) (h2 : SE X W (.BoolOp .And (b :: rest) pos) db) : SE X W (.BoolOp .And (a :: b :: rest) pos) (dAnd da db) :=
  PE.imp (pe_andT h h2) fun σ H Q ⟨ρ, S, η, at0, p⟩ => (tG.bind at0 p).mono fun x H1 ⟨ρ1, S1, u, _, at1, f1, r1, p1⟩ => by
    obtain ⟨c, ec, p1⟩ := tru_bind (P := fun r => Pv X ρ1 S1.length H1 Q _ r) p1 (fun z => z)
    refine ⟨c, tru_rv at1.rs r1 ec, ?_⟩
    cases c with
    | true => exact ⟨ρ1, S1, η, at1, p1⟩
    | false => exact p1.fin at1.rs r1
theorem se_or (h : SE X W a da) (h2 : SE X W (.BoolOp .Or (b :: rest) pos) db) : SE X W (.BoolOp .Or (a :: b :: rest) pos) (dOr da db) :=
  PE.imp (pe_orT h h2) fun σ H Q ⟨ρ, S, η, at0, p⟩ => (tG.bind at0 p).mono fun x H1 ⟨ρ1, S1, u, _, at1, f1, r1, p1⟩ => by
    obtain ⟨c, ec, p1⟩ := tru_bind (P := fun r => Pv X ρ1 S1.length H1 Q _ r) p1 (fun z => z)
    refine ⟨c, tru_rv at1.rs r1 ec, ?_⟩
    cases c with
    | false => exact ⟨ρ1, S1, η, at1, p1⟩
    | true => exact p1.fin at1.rs r1
theorem se_not (h : SE X W a da) : SE X W (.UnaryOp .Not a pos) (bind1 da aNot) :=
  PE.imp (pe_notT h) fun σ H Q ⟨ρ, S, η, at0, p⟩ => (tG.bind at0 p).mono fun x H1 ⟨ρ1, S1, u, _, at1, f1, r1, p1⟩ => by
    obtain ⟨c, ec, p1⟩ := tru_bind (P := fun r => Pv X ρ1 S1.length H1 Q _ r) p1 (fun z => z)
    exact ⟨c, tru_rv at1.rs r1 ec, p1.bl at1.rs⟩
def dIfE (dc : DB) (da db : DE) : DE := fun η S => (dc η S).bind fun c S1 => if c = true then da η S1 else db η S1
theorem se_if (hc : ST X W c d1) (ha : SE X W a da) (hb : SE X W b db) : SE X W (.IfExp c a b pos) (dIfE d1 da db) :=
  PE.imp (pe_ifExp hc ha hb) fun σ H Q ⟨ρ, S, η, at0, p⟩ => (tG.bind at0 p).mono fun c H1 ⟨ρ1, S1, u, _, at1, f1, r1, p1⟩ => by
    obtain rfl : c = u := r1
    cases c with
    | true => exact ⟨ρ1, S1, η, at1, p1⟩
    | false => exact ⟨ρ1, S1, η, at1, p1⟩
/-! a chain of two -/
def dChain (f g : AV → AV → M AV) (da db dc : DE) : DE := fun η S => (da η S).bind fun x S1 => (db η S1).bind fun y S2 => (f x y S2).bind fun z S3 => (asB z S3).bind fun c S4 => if c = true then (dc η S4).bind fun v S5 => g y v S5 else .ok (.bl false) S4
theorem chain_imp {f g : AV → AV → M AV} {r r' : R2} (hf : Op2 X r f) (hg : Op2 X r' g) {σ : L2.St} {H : Hp} {Q : VK} (q : tD X.K X.w X.mg W (dChain f g da db dc) σ H Q) : tChain r r' (tD X.K X.w X.mg W da) (tD X.K X.w X.mg W db) (tD X.K X.w X.mg W dc) σ H Q := by
  obtain ⟨ρ, S, η, at0, p⟩ := q
  refine (tG.bind at0 p).mono fun x H1 ⟨ρ1, S1, u, _, at1, e1, r1, p1⟩ => ?_
  refine (tG.bind at1 p1).mono fun y H2 ⟨ρ2, S2, v, _, at2, e2, r2, p2⟩ => ?_
  refine hf ρ2 H2 S2 x y u v _ (wx W σ) at2.rs (r1.mono e2.toUp) r2 ?_
  refine (Post.bind p2).mono (fun z H3 ⟨ρ3, S3, c, _, e3, rs3, r3, p3⟩ => ?_) fun _ _ _ h => h
  have at3 := at2.on e3 rs3
  unfold asB at p3
  split at p3
  · rename_i b' _
    cases r3
    refine ⟨b', rfl, ?_⟩
    cases b' with
    | false => exact p3.bl rs3
    | true => exact (tG.bind at3 p3).mono fun w' H4 ⟨ρ4, S4, v', _, at4, e4, r4, p4⟩ => hg ρ4 H4 S4 y w' v v' Q _ at4.rs ((r2.mono e3.toUp).mono e4.toUp) r4 p4
  · exact p3.elim
theorem se_chain {op op' : CmpOp} {f g : AV → AV → M AV} {r r' : R2} (ho : OpR X (compareOp op) r) (hf : Op2 X r f) (ho' : OpR X (compareOp op') r') (hg : Op2 X r' g) (ha : SE X W a da) (hb : SE X W b db) (hc : SE X W c dc)
    (hm : lastMarks [op, op'] [b, c] = false := by with_unfolding_all rfl) : SE X W (.Compare a [op, op'] [b, c] pos) (dChain f g da db dc) :=
  PE.imp (pe_chain ho ho' ha hb hc hm) fun σ H Q q => chain_imp hf hg q
theorem st_chain {op op' : CmpOp} {f g : AV → AV → M AV} {r r' : R2} (ho : OpR X (compareOp op) r) (hf : Op2 X r f) (ho' : OpR X (compareOp op') r') (hg : Op2 X r' g) (ha : SE X W a da) (hb : SE X W b db) (hc : SE X W c dc)
    (hm : lastMarks [op, op'] [b, c] = false := by with_unfolding_all rfl) : ST X W (.Compare a [op, op'] [b, c] pos) (bind1 (dChain f g da db dc) asB) :=
  st_of (pt_chain ho ho' ha hb hc hm) fun σ H Q q => chain_imp hf hg q
/-! ### arguments, displays -/
def dNil : DL := fun _ S => .ok [] S
def dCons (d : DE) (dl : DL) : DL := fun η S => (d η S).bind fun x S1 => (dl η S1).bind fun xs S2 => .ok (x :: xs) S2
theorem sa_nil : SA X W [] dNil := PA.imp pa_nil fun σ H Q ⟨ρ, S, η, at0, p⟩ => ret_at at0 .nil p
theorem sa_cons (h : SE X W a da) (h2 : SA X W es dl) (hs : starEach (a :: es) X.env = (false, eval a X.env) :: starEach es X.env := by rfl) : SA X W (a :: es) (dCons da dl) :=
  PA.imp (pa_cons h h2 hs) fun σ H Q ⟨ρ, S, η, at0, p⟩ => (tG.bind at0 p).mono fun x H1 ⟨ρ1, S1, u, _, at1, e1, r1, p1⟩ => (tG.bind at1 p1).mono fun xs H2 ⟨ρ2, S2, us, _, at2, e2, r2, p2⟩ => p2 ρ2 _ H2 Ext.refl at2.rs (.cons (r1.mono e2.toUp) r2)
/-- what a star lays out -/
def itemsS (S : Sto) : AV → Option (List AV)
  | .tup xs => some xs
  | .rl xs => some (xs.map .int)
  | .ref n => match S[n]? with
    | some (.lst xs) => some xs
    | _ => none
  | _ => none
theorem rvs_ints {K : PySem.W.Frag} {w : World} {mg : Str → Option Value} {ρ : Nat → Addr} {N : Nat} {H : Hp} : ∀ xs : List Int, RVs K w mg ρ N H (xs.map V.int) (xs.map AV.int)
  | [] => .nil
  | x :: xs => .cons (.int x) (rvs_ints xs)
theorem items_rv {K : PySem.W.Frag} {w : World} {mg : Str → Option Value} {ρ : Nat → Addr} {S : Sto} {H : Hp} {x : V} {u : AV} {xs : List AV} (rs : RS K w mg ρ H S) (r : RV K w mg ρ S.length H x u) (h : itemsS S u = some xs) : ∃ a vs, x = .ref a ∧ RVs K w mg ρ S.length H vs xs ∧ ((SqL K H a vs ∧ (∀ ys, u ≠ .tup ys)) ∨ (SqT K H a vs ∧ u = .tup xs)) := by
  unfold itemsS at h
  split at h
  · cases h
    cases r with
    | tup h1 r1 => exact ⟨_, _, rfl, r1, .inr ⟨h1, rfl⟩⟩
  · cases h
    cases r with
    | rl h1 _ => exact ⟨_, _, rfl, rvs_ints _, .inl ⟨h1, fun _ z => nomatch z⟩⟩
  · split at h
    · rename_i es
      cases h
      obtain ⟨h1, z, vs, h2, h3⟩ := r.obj rs es
      exact ⟨_, _, h1, h3, .inl ⟨SqL.of h2, fun _ z => nomatch z⟩⟩
    · cases h
  · cases h
def dStar (d : DE) (dl : DL) : DL := fun η S => (d η S).bind fun x S1 => match itemsS S1 x with
  | some ys => (dl η S1).bind fun xs S2 => .ok (ys ++ xs) S2
  | none => .bad
theorem sa_star {p : Pos} (h : SE X W a da) (h2 : SA X W es dl) (hs : starEach (.Starred a p :: es) X.env = (true, eval a X.env) :: starEach es X.env := by rfl) : SA X W (.Starred a p :: es) (dStar da dl) :=
  PA.imp (StX.pa_star h h2 hs) fun σ H Q ⟨ρ, S, η, at0, p⟩ => (tG.bind at0 p).mono fun x H1 ⟨ρ1, S1, u, _, at1, e1, r1, p1⟩ => by
    cases ei : itemsS S1 u with
    | none => simp only [ei] at p1; exact p1.elim
    | some ys =>
      simp only [ei] at p1
      obtain ⟨a, vs, e2, r2, q⟩ := items_rv at1.rs r1 ei
      refine ⟨a, vs, e2, q.elim (fun z => .inr z.1) (fun z => .inl z.1), (tG.bind at1 p1).mono fun xs H2 ⟨ρ2, S2, us, _, at2, e2, r3, p2⟩ => p2 ρ2 _ H2 Ext.refl at2.rs ((r2.mono e2.toUp).append r3)⟩
def aTup (xs : List AV) : M AV := fun S => if xs.length ≤ sizeLine then .ok (.tup xs) S else .bad
def aLst (xs : List AV) : M AV := fun S => if xs.length ≤ sizeLine then .ok (.ref S.length) (S ++ [.lst xs]) else .bad
theorem se_tup {x1} (h : SA X W es dl) : SE X W (.Tuple es x1 pos) (bind1 dl aTup) :=
  PE.imp (pe_tup h) fun σ H Q ⟨ρ, S, η, at0, p⟩ => (tG.bind at0 p).mono fun x H1 ⟨ρ1, S1, u, _, at1, e1, r1, p1⟩ => by
    unfold aTup at p1
    split at p1
    · rename_i hl
      exact ⟨by rw [r1.length]; exact hl, fun q n => p1.tup at1.rs n r1⟩
    · exact p1.elim
theorem se_lst (h : SA X W es dl) : SE X W (.List es pos) (bind1 dl aLst) :=
  PE.imp (pe_lst h) fun σ H Q ⟨ρ, S, η, at0, p⟩ => (tG.bind at0 p).mono fun x H1 ⟨ρ1, S1, u, _, at1, e1, r1, p1⟩ => by
    unfold aLst at p1
    split at p1
    · rename_i hl
      exact ⟨by rw [r1.length]; exact hl, fun q n => p1.newL at1.rs n hl r1⟩
    · exact p1.elim
def dDnew : DE := fun _ S => .ok (.ref S.length) (S ++ [.dict []])
theorem se_dnew : SE X W (.Dict [] [] pos) dDnew := PE.imp pe_dnewK fun σ H Q ⟨ρ, S, η, at0, p⟩ p' n => p.newD at0.rs n ⟨Nat.zero_le _, fun _ h => by cases h⟩ .nil
end
end Sim

set_option Elab.async false
set_option linter.all false
set_option maxRecDepth 100000
set_option maxHeartbeats 4000000
/-! S6: statements, defs, calls. -/
namespace Sim
open PySem PySem.Spec PyProof.Rows L2
theorem own_lst {xs : List V} : Own (.lst xs) := ⟨fun _ z => (nomatch z), fun _ _ z => (nomatch z)⟩
theorem own_dK {xs : List (Key × V)} : Own (.dK xs) := ⟨fun _ z => (nomatch z), fun _ _ z => (nomatch z)⟩
theorem own_ins {C dx : Addr} {fs : List (Str × V)} : Own (.ins C dx fs) := ⟨fun _ z => (nomatch z), fun _ _ z => (nomatch z)⟩
inductive Rt where
  | nx (η : Nv) (S : Sto) | rt (v : AV) (S : Sto) | bk (η : Nv) (S : Sto) | ct (η : Nv) (S : Sto) | ex (c : Str) (fs : List (Str × AV)) (S : Sto) | bad
abbrev DS := Nv → Sto → Rt
def R.thenS {α : Type} : R α → (α → Sto → Rt) → Rt
  | .ok a S, k => k a S
  | .ex c fs S, _ => .ex c fs S
  | .bad, _ => .bad
abbrev wc (E : XK) : WX := fun c d _ H => E c d H
section
variable (K : PySem.W.Frag) (w : World) (mg : Str → Option Value)
def PostS (ρ : Nat → Addr) (N : Nat) (H : Hp) (D : Ends) (E : XK) : Rt → Prop
  | .nx η' S' => ∀ ρ' σ' H', Ext K ρ N H ρ' S'.length H' → At K w mg ρ' S' σ' η' H' → D.nx σ' H'
  | .rt v S' => ∀ ρ' x H', Ext K ρ N H ρ' S'.length H' → RS K w mg ρ' H' S' → RV K w mg ρ' S'.length H' x v → D.rt x H'
  | .bk η' S' => ∀ ρ' σ' H', Ext K ρ N H ρ' S'.length H' → At K w mg ρ' S' σ' η' H' → D.bk σ' H'
  | .ct η' S' => ∀ ρ' σ' H', Ext K ρ N H ρ' S'.length H' → At K w mg ρ' S' σ' η' H' → D.ct σ' H'
  | .ex c fs S' => ∀ ρ' cls d H', Ext K ρ N H ρ' S'.length H' → RS K w mg ρ' H' S' → RX K w mg ρ' S'.length H' cls d c fs → E cls d H'
  | .bad => False
def tS (E : XK) (d : DS) : TS := fun D σ H => ∃ ρ S η, At K w mg ρ S σ η H ∧ PostS K w mg ρ S.length H D E (d η S)
end
section
variable {K : PySem.W.Frag} {w : World} {mg : Str → Option Value} {α β : Type} {Rel : (Nat → Addr) → Nat → Hp → β → α → Prop} {ρ ρ' : Nat → Addr} {N N' : Nat} {H H' : Hp} {D D' : Ends} {E : XK} {r : Rt} {σ : L2.St} {η : Nv} {S : Sto}
theorem PostS.step (e : Ext K ρ N H ρ' N' H') (h : PostS K w mg ρ N H D E r) : PostS K w mg ρ' N' H' D E r := by
  cases r with
  | nx a S => exact fun ρ2 x H2 e1 r1 => h ρ2 x H2 (e.trans e1) r1
  | bk a S => exact fun ρ2 x H2 e1 r1 => h ρ2 x H2 (e.trans e1) r1
  | ct a S => exact fun ρ2 x H2 e1 r1 => h ρ2 x H2 (e.trans e1) r1
  | rt a S => exact fun ρ2 x H2 e1 r1 v => h ρ2 x H2 (e.trans e1) r1 v
  | ex c fs S => exact fun ρ2 cls d H2 e1 r1 v => h ρ2 cls d H2 (e.trans e1) r1 v
  | bad => exact h
theorem PostS.mono (h : PostS K w mg ρ N H D E r) (h1 : ∀ σ H, D.nx σ H → D'.nx σ H) (h2 : ∀ v H, D.rt v H → D'.rt v H) (h3 : ∀ σ H, D.bk σ H → D'.bk σ H) (h4 : ∀ σ H, D.ct σ H → D'.ct σ H) : PostS K w mg ρ N H D' E r := by
  cases r with
  | nx a S => exact fun ρ2 x H2 e1 r1 => h1 _ _ (h ρ2 x H2 e1 r1)
  | bk a S => exact fun ρ2 x H2 e1 r1 => h3 _ _ (h ρ2 x H2 e1 r1)
  | ct a S => exact fun ρ2 x H2 e1 r1 => h4 _ _ (h ρ2 x H2 e1 r1)
  | rt a S => exact fun ρ2 x H2 e1 r1 v => h2 _ _ (h ρ2 x H2 e1 r1 v)
  | ex c fs S => exact h
  | bad => exact h
/-- an expression ahead of a statement's end -/
theorem tG.bindS {d : Nv → M α} {k : α → Sto → Rt} (a : At K w mg ρ S σ η H) (p : PostS K w mg ρ S.length H D E ((d η S).thenS k)) :
    tG K w mg Rel (wc E) d σ H fun x H1 => ∃ ρ1 S1 v, d η S = .ok v S1 ∧ At K w mg ρ1 S1 σ η H1 ∧ Ext K ρ S.length H ρ1 S1.length H1 ∧ Rel ρ1 S1.length H1 x v ∧ PostS K w mg ρ1 S1.length H1 D E (k v S1) := by
  refine ⟨ρ, S, η, a, ?_⟩
  cases e : d η S with
  | ok v S1 =>
    rw [e] at p
    exact fun ρ1 x H1 e1 r1 v1 => ⟨ρ1, S1, v, rfl, a.on e1 r1, e1, v1, p.step e1⟩
  | ex c fs S1 =>
    rw [e] at p
    exact p
  | bad =>
    rw [e] at p
    exact p
end
def SS (X : Cx) (E : XK) (st : Stmt) (d : DS) : Prop := PS X st (tS X.K X.w X.mg E d)
def SSs (X : Cx) (E : XK) (sts : List Stmt) (d : DS) : Prop := PSs X sts (tS X.K X.w X.mg E d)
def dNx : DS := fun η S => .nx η S
def dSeq (d u : DS) : DS := fun η S => match d η S with
  | .nx η' S' => u η' S'
  | r => r
def dBad : DS := fun _ _ => .bad
section
variable {X : Cx} {E : XK} {st : Stmt} {rest sts : List Stmt} {d u : DS} {e a : Expr} {de da : DE} {db : DB} {pos : Pos}
theorem nx_at {K : PySem.W.Frag} {w : World} {mg : Str → Option Value} {ρ : Nat → Addr} {H : Hp} {D : Ends} {E : XK} {σ : L2.St} {η : Nv} {S : Sto} (at0 : At K w mg ρ S σ η H) (p : PostS K w mg ρ S.length H D E (.nx η S)) : D.nx σ H := p ρ σ H Ext.refl at0
theorem sss_nil : SSs X E [] dNx := PSs.imp pss_nil fun D σ H ⟨ρ, S, η, at0, p⟩ => nx_at at0 p
theorem seq_imp {D : Ends} {σ : L2.St} {H : Hp} (q : tS X.K X.w X.mg E (dSeq d u) D σ H) : tSeq (tS X.K X.w X.mg E d) (tS X.K X.w X.mg E u) D σ H := by
  obtain ⟨ρ, S, η, at0, p⟩ := q
  refine ⟨ρ, S, η, at0, ?_⟩
  unfold dSeq at p
  cases e : d η S with
  | nx η' S' =>
    rw [e] at p
    exact fun ρ1 σ1 H1 e1 a1 => ⟨ρ1, S', η', a1, p.step e1⟩
  | bk a S => rw [e] at p; exact p
  | ct a S => rw [e] at p; exact p
  | rt a S => rw [e] at p; exact p
  | ex c fs S => rw [e] at p; exact p
  | bad => rw [e] at p; exact p
theorem sss_cons (h1 : SS X E st d) (h2 : SSs X E rest u) : SSs X E (st :: rest) (dSeq d u) := PSs.imp (pss_cons h1 h2) fun D σ H q => seq_imp q
theorem sss_one (h1 : SS X E st d) : SSs X E [st] d := pss_one h1
theorem ss_never : SS X E st dBad := PS.imp ps_never fun D σ H ⟨ρ, S, η, at0, p⟩ => p.elim
theorem ss_pass : SS X E (.Pass pos) dNx := PS.imp ps_pass fun D σ H ⟨ρ, S, η, at0, p⟩ => nx_at at0 p
def dBk : DS := fun η S => .bk η S
theorem ss_break : SS X E (.Break pos) dBk := PS.imp ps_break fun D σ H ⟨ρ, S, η, at0, p⟩ => p ρ σ H Ext.refl at0
def dEx (de : DE) : DS := fun η S => (de η S).thenS fun _ S1 => .nx η S1
theorem ss_expr (he : SE X (wc E) e de) (hs : swapsWith e none pos.line X.env = pure false := by rfl) : SS X E (.Expr e pos) (dEx de) :=
  PS.imp (ps_expr he hs) fun D σ H ⟨ρ, S, η, at0, p⟩ => (tG.bindS at0 p).mono fun x H1 ⟨ρ1, S1, u, _, at1, e1, r1, p1⟩ => nx_at at1 p1
theorem ss_doc {x j pos pos'} : SS X E (.Expr (.Constant (.str x) j pos) pos') dNx := PS.imp ps_doc fun D σ H ⟨ρ, S, η, at0, p⟩ => nx_at at0 p
def dRt (de : DE) : DS := fun η S => (de η S).thenS fun v S1 => .rt v S1
theorem ss_ret (he : SE X (wc E) e de) : SS X E (.Return (some e) pos) (dRt de) :=
  PS.imp (ps_ret he) fun D σ H ⟨ρ, S, η, at0, p⟩ => (tG.bindS at0 p).mono fun x H1 ⟨ρ1, S1, u, _, at1, e1, r1, p1⟩ => p1 ρ1 x H1 Ext.refl at1.rs r1
def dIfS (db : DB) (d u : DS) : DS := fun η S => (db η S).thenS fun c S1 => if c = true then d η S1 else u η S1
theorem ss_if {c : Expr} {p q : List Stmt} (hc : ST X (wc E) c db) (h1 : SSs X E p d) (h2 : SSs X E q u) : SS X E (.If c p q pos) (dIfS db d u) :=
  PS.imp (ps_if hc h1 h2) fun D σ H ⟨ρ, S, η, at0, p⟩ => (tG.bindS at0 p).mono fun c H1 ⟨ρ1, S1, u, _, at1, e1, r1, p1⟩ => by
    obtain rfl : c = u := r1
    cases c with
    | true => exact ⟨ρ1, S1, η, at1, p1⟩
    | false => exact ⟨ρ1, S1, η, at1, p1⟩
/-! ### targets -/
abbrev DT := AV → Nv → Sto → Rt
abbrev DTs := List AV → Nv → Sto → Rt
/-- a target's reading by a plain function: nothing but names and stores -/
def PostT (K : PySem.W.Frag) (w : World) (mg : Str → Option Value) (ρ : Nat → Addr) (N : Nat) (H : Hp) (Q : L2.St → Hp → Prop) : Rt → Prop
  | .nx η' S' => ∀ ρ' σ' H', Ext K ρ N H ρ' S'.length H' → At K w mg ρ' S' σ' η' H' → Q σ' H'
  | _ => False
def tT (K : PySem.W.Frag) (w : World) (mg : Str → Option Value) (d : DT) : TG := fun x σ H Q => ∃ ρ S η v, At K w mg ρ S σ η H ∧ RV K w mg ρ S.length H x v ∧ PostT K w mg ρ S.length H Q (d v η S)
def tTs (K : PySem.W.Frag) (w : World) (mg : Str → Option Value) (d : DTs) : TGs := fun x σ H Q => ∃ ρ S η v, At K w mg ρ S σ η H ∧ RVs K w mg ρ S.length H x v ∧ PostT K w mg ρ S.length H Q (d v η S)
def SG (X : Cx) (tg : Expr) (d : DT) : Prop := PG X tg (tT X.K X.w X.mg d)
def SGs (X : Cx) (tg : List Expr) (d : DTs) : Prop := PGs X tg (tTs X.K X.w X.mg d)
theorem PG.imp {tg : Expr} {t t' : TG} (p : PG X tg t) (h : ∀ v σ H Q, t' v σ H Q → t v σ H Q) : PG X tg t' := ⟨fun pins s σ H v u Q I r q => p.run pins s σ H v u Q I r (h v σ H Q q)⟩
theorem PGs.imp {tg : List Expr} {t t' : TGs} (p : PGs X tg t) (h : ∀ v σ H Q, t' v σ H Q → t v σ H Q) : PGs X tg t' := ⟨fun pins s σ H v u Q I r q => p.run pins s σ H v u Q I r (h v σ H Q q)⟩
def gNm (i : Nat) : DT := fun v η S => .nx (η.set i (some v)) S
theorem RE.set {K : PySem.W.Frag} {w : World} {mg : Str → Option Value} {ρ : Nat → Addr} {N : Nat} {H : Hp} {σ : L2.St} {η : Nv} {v : V} {x : AV} (r : RE K w mg ρ N H σ η) (i : Nat) (rv : RV K w mg ρ N H v x) : RE K w mg ρ N H (σ.set i (some v)) (η.set i (some x)) := by
  refine ⟨by rw [List.length_set, List.length_set]; exact r.1, fun j y h => ?_⟩
  by_cases e : i = j
  · subst e
    by_cases hl : i < η.length
    · rw [List.getElem?_set_self hl] at h
      have : x = y := Option.some.inj (Option.some.inj h)
      subst this
      exact ⟨v, List.getElem?_set_self (by rw [r.1]; exact hl), rv⟩
    · rw [List.getElem?_eq_none (by rw [List.length_set]; omega)] at h
      cases h
  · rw [List.getElem?_set_ne e] at h
    obtain ⟨u, h1, h2⟩ := r.2 j y h
    exact ⟨u, by rw [List.getElem?_set_ne e]; exact h1, h2⟩
theorem At.set {K : PySem.W.Frag} {w : World} {mg : Str → Option Value} {ρ : Nat → Addr} {S : Sto} {H : Hp} {σ : L2.St} {η : Nv} {v : V} {x : AV} (a : At K w mg ρ S σ η H) (i : Nat) (rv : RV K w mg ρ S.length H v x) : At K w mg ρ S (σ.set i (some v)) (η.set i (some x)) H := ⟨a.rs, a.re.set i rv⟩
theorem sg_nm {i : Nat} {x : Str} (hN : X.N.Nodup) (hi : X.N[i]? = some x) (hx : Loc X.env.scope x) (hf : X.fn x = true ∨ X.env.scope.names.lookup x = some .local := by first | exact .inl rfl | exact .inr rfl | assumption) : SG X (.Name x pos) (gNm i) :=
  PG.imp (pg_name hN hi hx hf) fun v σ H Q ⟨ρ, S, η, x, at0, r, p⟩ => p ρ _ H Ext.refl (at0.set i r)
def gsNil : DTs := fun vs η S => match vs with
  | [] => .nx η S
  | _ => .bad
def gsCons (d : DT) (u : DTs) : DTs := fun vs η S => match vs with
  | v :: r => match d v η S with
    | .nx η' S' => u r η' S'
    | _ => .bad
  | [] => .bad
theorem sgs_nil : SGs X [] gsNil := PGs.imp pgs_nil fun v σ H Q ⟨ρ, S, η, x, at0, r, p⟩ => by
  unfold gsNil at p
  split at p
  · cases r
    exact ⟨rfl, p ρ σ H Ext.refl at0⟩
  · exact p.elim
theorem PostT.step {K : PySem.W.Frag} {w : World} {mg : Str → Option Value} {ρ ρ' : Nat → Addr} {N N' : Nat} {H H' : Hp} {Q : L2.St → Hp → Prop} {r : Rt} (e : Ext K ρ N H ρ' N' H') (h : PostT K w mg ρ N H Q r) : PostT K w mg ρ' N' H' Q r := by
  cases r with
  | nx a S => exact fun ρ2 x H2 e1 r1 => h ρ2 x H2 (e.trans e1) r1
  | bk a S => exact h
  | ct a S => exact h
  | rt a S => exact h
  | ex c fs S => exact h
  | bad => exact h
theorem sgs_cons {tg : Expr} {tgs : List Expr} {d : DT} {u : DTs} (h1 : SG X tg d) (h2 : SGs X tgs u) (hs : (assignEach (tg :: tgs) X.env).map (·.2) = assign tg X.env :: (assignEach tgs X.env).map (·.2) := by rfl) : SGs X (tg :: tgs) (gsCons d u) :=
  PGs.imp (pgs_cons h1 h2 hs) fun v σ H Q ⟨ρ, S, η, x, at0, r, p⟩ => by
    unfold gsCons at p
    split at p
    · split at p
      · rename_i e
        cases r with
        | cons a t =>
        refine ⟨_, _, rfl, ρ, S, η, _, at0, a, ?_⟩
        rw [e]
        exact fun ρ1 σ1 H1 e1 a1 => ⟨ρ1, _, _, _, a1, t.mono e1.toUp, p.step e1⟩
      · exact p.elim
    · exact p.elim
def gTp (n : Nat) (u : DTs) : DT := fun v η S => match v with
  | .tup xs => if xs.length = n then u xs η S else .bad
  | .ref m => match S[m]? with
    | some (.lst xs) => if xs.length = n then u xs η S else .bad
    | _ => .bad
  | _ => .bad
theorem pg_or {tg : Expr} {t t' : TG} (h : PG X tg t) (h' : PG X tg t') : PG X tg fun v σ H Q => t v σ H Q ∨ t' v σ H Q := ⟨fun pins s σ H v u Q I r q => q.elim (h.run pins s σ H v u Q I r) (h'.run pins s σ H v u Q I r)⟩
theorem sg_tp {tgs : List Expr} {k n : Nat} {u : DTs} (hc : X.calm = true) (h : SGs X tgs u) (hn : (assignEach tgs X.env).length = n := by rfl) (hst : (assignEach tgs X.env).findIdx? (·.1) = none := by rfl) : SG X (.Tuple tgs k pos) (gTp n u) :=
  PG.imp (pg_or (pg_tup hc h hn hst) (pg_lst hc h hn hst)) fun v σ H Q ⟨ρ, S, η, x, at0, r, p⟩ => by
    unfold gTp at p
    split at p
    · split at p
      · rename_i hl
        cases r with
        | tup h1 r1 => exact .inl ⟨_, _, rfl, h1, by rw [r1.length]; exact hl, ρ, S, η, _, at0, r1, p⟩
      · exact p.elim
    · split at p
      · rename_i es
        split at p
        · rename_i hl
          obtain ⟨h1, z, vs, h2, h3⟩ := r.obj at0.rs es
          exact .inr ⟨_, vs, h1, SqL.of h2, by rw [h3.length]; exact hl, ρ, S, η, _, at0, h3, p⟩
        · exact p.elim
      · exact p.elim
    · exact p.elim
theorem pset_or {t t' : TSet} (h : PSet X t) (h' : PSet X t') : PSet X fun o i v H Q => t o i v H Q ∨ t' o i v H Q := fun pins s σ H o i v ov iv vv Q I ro ri rv q => q.elim (h pins s σ H o i v ov iv vv Q I ro ri rv) (h' pins s σ H o i v ov iv vv Q I ro ri rv)
/-- a store into a list, a dict -/
def aSet (o i v : AV) (S : Sto) : Option Sto := match o with
  | .ref n => match S[n]? with
    | some (.lst xs) => match i with
      | .int k => (ixN xs.length k).map fun j => S.set n (.lst (xs.set j v))
      | _ => none
    | some (.dict kvs) => match keyA i with
      | some k => if kvs.length < sizeLine then some (S.set n (.dict (putA kvs k v))) else none
      | none => none
    | _ => none
  | _ => none
theorem set_ok (K : PySem.W.Frag) (w : World) (mg : Str → Option Value) {ρ : Nat → Addr} {S S' : Sto} {H : Hp} {o i v : V} {oa ia va : AV} {Q : Hp → Prop} (rs : RS K w mg ρ H S) (ro : RV K w mg ρ S.length H o oa) (ri : RV K w mg ρ S.length H i ia) (rv : RV K w mg ρ S.length H v va) (h : aSet oa ia va S = some S')
    (q : ∀ H', Ext K ρ S.length H ρ S'.length H' → RS K w mg ρ H' S' → Q H') : rSetL o i v H Q ∨ rSetD o i v H Q := by
  unfold aSet at h
  split at h
  · split at h
    · rename_i n _ xs es
      split at h
      · rename_i k
        cases e : ixN xs.length k with
        | none => rw [e] at h; cases h
        | some j =>
          rw [e] at h
          have h' : S.set n (.lst (xs.set j va)) = S' := Option.some.inj h
          subst h'
          obtain ⟨h1, z, vs, h2, h3⟩ := ro.obj rs es
          cases ri
          have hn := (List.getElem?_eq_some_iff.mp es).1
          refine .inl ⟨_, vs, k, j, h1, rfl, h2, by rw [h3.length]; exact e, q _ ?_ ?_⟩
          · rw [List.length_set]
            exact Ext.put hn h2 own_lst
          · exact rs.put hn h2 own_lst ⟨by rw [List.length_set]; exact z, _, upd_same, (h3.set rv j).mono (Ext.put hn h2 own_lst).toUp⟩
      · cases h
    · rename_i n _ kvs es
      split at h
      · rename_i k ek
        split at h
        · rename_i hl
          have h' : S.set n (.dict (putA kvs k va)) = S' := Option.some.inj h
          subst h'
          obtain ⟨h1, z, vs, h2, h3⟩ := ro.obj rs es
          have hk := key_ok ri ek
          obtain rfl := key_rv ri ek
          have hn := (List.getElem?_eq_some_iff.mp es).1
          refine .inr ⟨_, _, h1, DPut.k h2 (by rw [h3.length]; exact hl), q _ ?_ ?_⟩
          · rw [List.length_set]
            exact Ext.put hn h2 own_dK
          · exact rs.put hn h2 own_dK ⟨dOk.put z hk va hl, _, upd_same, (h3.put k rv).mono (Ext.put hn h2 own_dK).toUp⟩
        · cases h
      · cases h
    · cases h
  · cases h
/-! ### assignments -/
def dSet (i : Nat) (de : DE) : DS := fun η S => (de η S).thenS fun v S1 => .nx (η.set i (some v)) S1
theorem ss_set {i : Nat} {x : Str} {pos' : Pos} (hN : X.N.Nodup) (hi : X.N[i]? = some x) (hx : Loc X.env.scope x) (he : SE X (wc E) e de) (hs : swapsWith e (some (.Name x pos')) pos.line X.env = pure false := by rfl) (hf : X.fn x = true ∨ X.env.scope.names.lookup x = some .local := by first | exact .inl rfl | exact .inr rfl | assumption) :
    SS X E (.Assign [.Name x pos'] e pos) (dSet i de) :=
  PS.imp (ps_set hN hi hx he hs hf) fun D σ H ⟨ρ, S, η, at0, p⟩ => (tG.bindS at0 p).mono fun x H1 ⟨ρ1, S1, u, _, at1, e1, r1, p1⟩ => nx_at (at1.set i r1) p1
def nxOnly : Rt → Rt
  | .nx η S => .nx η S
  | _ => .bad
def dAsg (de : DE) (g : DT) : DS := fun η S => (de η S).thenS fun v S1 => nxOnly (g v η S1)
theorem ss_asg {tg : Expr} {g : DT} (he : SE X (wc E) e de) (hg : SG X tg g) (hs : swapsWithSole [tg] e pos.line X.env = pure false := by rfl) (hw : swappedStores [tg] e X.env = pure none := by rfl)
    (h1 : (assignEach [tg] X.env).map (·.2) = [assign tg X.env] := by rfl) : SS X E (.Assign [tg] e pos) (dAsg de g) :=
  PS.imp (ps_asg he hg hs hw h1) fun D σ H ⟨ρ, S, η, at0, p⟩ => (tG.bindS at0 p).mono fun x H1 ⟨ρ1, S1, u, _, at1, e1, r1, p1⟩ => by
    refine ⟨ρ1, S1, η, u, at1, r1, ?_⟩
    cases e : g u η S1 with
    | nx η' S' => rw [e] at p1; exact fun ρ2 σ2 H2 e2 a2 => p1 ρ2 σ2 H2 e2 a2
    | bk a S => rw [e] at p1; exact p1.elim
    | ct a S => rw [e] at p1; exact p1.elim
    | rt a S => rw [e] at p1; exact p1.elim
    | ex c fs S => rw [e] at p1; exact p1.elim
    | bad => rw [e] at p1; exact p1.elim
/-- o[i] = e -/
def dPut (dv do_ di : DE) : DS := fun η S => (dv η S).thenS fun v S1 => (do_ η S1).thenS fun o S2 => (di η S2).thenS fun i S3 => match aSet o i v S3 with
  | some S4 => .nx η S4
  | none => .bad
theorem ss_put {o i : Expr} {do_ di : DE} {pos' : Pos} (hu : X.A.units + 65 < cLine) (he : SE X (wc E) e de) (ho : SE X (wc E) o do_) (hi : SE X (wc E) i di) (hs : swapsWithSole [.Subscript o i pos'] e pos.line X.env = pure false := by rfl) (hw : swappedStores [.Subscript o i pos'] e X.env = pure none := by rfl)
    (h1 : (assignEach [.Subscript o i pos'] X.env).map (·.2) = [assign (.Subscript o i pos') X.env] := by rfl)
    (ha : ∀ v, assign (.Subscript o i pos') X.env v = (do
      let ov ← holding [v] (eval o X.env)
      let iv ← holding [v, ov] (eval i X.env)
      standAt pos'
      holding [v, ov, iv] (setItem ov iv v)
      release [v, ov, iv] []) := by intro _; rfl) : SS X E (.Assign [.Subscript o i pos'] e pos) (dPut de do_ di) :=
  PS.imp (ps_asg he (pg_sub ho hi (pset_or set_list (set_dict (by omega))) ha) hs hw h1) fun D σ H ⟨ρ, S, η, at0, p⟩ => (tG.bindS at0 p).mono fun x H1 ⟨ρ1, S1, u, _, at1, e1, r1, p1⟩ =>
    (tG.bindS at1 p1).mono fun y H2 ⟨ρ2, S2, v, _, at2, e2, r2, p2⟩ => (tG.bindS at2 p2).mono fun z H3 ⟨ρ3, S3, k, _, at3, e3, r3, p3⟩ => by
      split at p3
      · rename_i S4 es
        exact set_ok X.K X.w X.mg at3.rs (r2.mono e3.toUp) r3 ((r1.mono e2.toUp).mono e3.toUp) es fun H' f1 f2 => p3 ρ3 σ H' f1 ⟨f2, at3.re.mono f1.toUp⟩
      · exact p3.elim
/-- a, b = x, y -/
def dPar (i j : Nat) (dl : DL) : DS := fun η S => (dl η S).thenS fun vs S1 => match vs with
  | [v, u] => .nx ((η.set i (some v)).set j (some u)) S1
  | _ => .bad
theorem ss_par {i j : Nat} {x y : Str} {a b : Expr} {dl : DL} {px py pt : Pos} {kt k2 pt2} (hc : X.calm = true) (hN : X.N.Nodup) (hi : X.N[i]? = some x) (hj : X.N[j]? = some y) (hij : i ≠ j)
    (hx : X.env.scope.names.lookup x = some .local) (hy : X.env.scope.names.lookup y = some .local) (ha : SA X (wc E) [a, b] dl)
    (hw : swappedStores [.Tuple [.Name x px, .Name y py] kt pt] (.Tuple [a, b] k2 pt2) X.env = pure (some [x, y]))
    (hs : swapsWithSole [.Tuple [.Name x px, .Name y py] kt pt] (.Tuple [a, b] k2 pt2) pos.line X.env = pure false := by rfl) :
    SS X E (.Assign [.Tuple [.Name x px, .Name y py] kt pt] (.Tuple [a, b] k2 pt2) pos) (dPar i j dl) :=
  PS.imp (ps_par hc hN hi hj hij hx hy ha hw hs) fun D σ H ⟨ρ, S, η, at0, p⟩ => (tG.bindS at0 p).mono fun x H1 ⟨ρ1, S1, u, _, at1, e1, r1, p1⟩ => by
    split at p1
    · cases r1 with
      | cons a t =>
      cases t with
      | cons b t =>
      cases t
      exact ⟨_, _, rfl, nx_at ((at1.set i a).set j b) p1⟩
    · exact p1.elim
def dPar3 (i j l : Nat) (dl : DL) : DS := fun η S => (dl η S).thenS fun vs S1 => match vs with
  | [v, u, x] => .nx (((η.set i (some v)).set j (some u)).set l (some x)) S1
  | _ => .bad
theorem ss_par3 {i j l : Nat} {x y z : Str} {a b c : Expr} {dl : DL} {px py pz pt : Pos} {kt k2 pt2} (hc : X.calm = true) (hN : X.N.Nodup) (hi : X.N[i]? = some x) (hj : X.N[j]? = some y) (hl : X.N[l]? = some z) (hij : i ≠ j) (hil : i ≠ l) (hjl : j ≠ l)
    (hx : X.env.scope.names.lookup x = some .local) (hy : X.env.scope.names.lookup y = some .local) (hz : X.env.scope.names.lookup z = some .local) (ha : SA X (wc E) [a, b, c] dl)
    (hw : swappedStores [.Tuple [.Name x px, .Name y py, .Name z pz] kt pt] (.Tuple [a, b, c] k2 pt2) X.env = pure (some [x, y, z]))
    (hs : swapsWithSole [.Tuple [.Name x px, .Name y py, .Name z pz] kt pt] (.Tuple [a, b, c] k2 pt2) pos.line X.env = pure false := by rfl) :
    SS X E (.Assign [.Tuple [.Name x px, .Name y py, .Name z pz] kt pt] (.Tuple [a, b, c] k2 pt2) pos) (dPar3 i j l dl) :=
  PS.imp (ps_par3 hc hN hi hj hl hij hil hjl hx hy hz ha hw hs) fun D σ H ⟨ρ, S, η, at0, p⟩ => (tG.bindS at0 p).mono fun x H1 ⟨ρ1, S1, u, _, at1, e1, r1, p1⟩ => by
    split at p1
    · cases r1 with
      | cons a t =>
      cases t with
      | cons b t =>
      cases t with
      | cons c t =>
      cases t
      exact ⟨_, _, _, rfl, nx_at (((at1.set i a).set j b).set l c) p1⟩
    · exact p1.elim
/-- del d[k] -/
def dDel (do_ di : DE) : DS := fun η S => (do_ η S).thenS fun o S1 => (di η S1).thenS fun i S2 => match o with
  | .ref n => match S2[n]? with
    | some (.dict kvs) => match keyA i with
      | some k => if (valA kvs k).isSome = true then .nx η (S2.set n (.dict (dropA kvs k))) else .bad
      | none => .bad
    | _ => .bad
  | _ => .bad
theorem ss_del {o i : Expr} {do_ di : DE} {tpos : Pos} (ho : SE X (wc E) o do_) (hi : SE X (wc E) i di) : SS X E (.Delete [.Subscript o i tpos] pos) (dDel do_ di) :=
  PS.imp (ps_ddel ho hi) fun D σ H ⟨ρ, S, η, at0, p⟩ => (tG.bindS at0 p).mono fun x H1 ⟨ρ1, S1, u, _, at1, e1, r1, p1⟩ => (tG.bindS at1 p1).mono fun y H2 ⟨ρ2, S2, v, _, at2, e2, r2, p2⟩ => by
    split at p2
    · split at p2
      · rename_i es
        split at p2
        · rename_i k ek
          split at p2
          · rename_i hs
            obtain ⟨h1, z, vs, h2, h3⟩ := (r1.mono e2.toUp).obj at2.rs es
            obtain rfl := key_rv r2 ek
            have hn := (List.getElem?_eq_some_iff.mp es).1
            have f1 := Ext.put (K := X.K) (u' := .dK (dropK vs k)) hn h2 own_dK
            refine ⟨_, vs, k, h1, h2, rfl, by rw [isSome_of h3]; exact hs, p2 ρ2 σ _ (by rw [List.length_set]; exact f1) ⟨?_, ?_⟩⟩
            · exact at2.rs.put hn h2 own_dK ⟨dOk.drop z _, _, upd_same, (h3.drop k).mono f1.toUp⟩
            · rw [List.length_set]
              exact at2.re.mono f1.toUp
          · exact p2.elim
        · exact p2.elim
      · exact p2.elim
    · exact p2.elim
end
end Sim

set_option Elab.async false
set_option linter.all false
set_option maxRecDepth 100000
set_option maxHeartbeats 4000000
/-! S7: loops, what they walk, comprehensions. -/
namespace Sim
open PySem PySem.Spec PyProof.Rows L2
structure AIt where
  n : Nat
  at_ : Nat → Sto → Option (Option AV)
section
variable (K : PySem.W.Frag) (w : World) (mg : Str → Option Value)
/-- a walk by a plain one -/
def ItOk (ρ : Nat → Addr) (N : Nat) (H : Hp) (J : It) (ai : AIt) : Prop := ∀ ρ' H' S' i, Ext K ρ N H ρ' S'.length H' → RS K w mg ρ' H' S' → match ai.at_ i S' with
  | some none => J.stop i H'
  | some (some v) => J.go i H' ∧ ∀ x H2, J.yld i H' x H2 → Ext K ρ' S'.length H' ρ' S'.length H2 ∧ RS K w mg ρ' H2 S' ∧ RV K w mg ρ' S'.length H2 x v
  | none => True
abbrev DI := Nv → M AIt
def tI (W : WX) (d : DI) : TI := fun σ H R => ∃ ρ S η, At K w mg ρ S σ η H ∧ Post K w mg (ItOk K w mg) ρ S.length H R (wx W σ) (d η S)
end
def SI (X : Cx) (W : WX) (tg iter : Expr) (d : DI) : Prop := PI X tg iter (tI X.K X.w X.mg W d)
theorem PI.imp {X : Cx} {tg e : Expr} {t t' : TI} (p : PI X tg e t) (h : ∀ σ H R, t' σ H R → t σ H R) : PI X tg e t' := ⟨fun pins s σ H R I q => p.run pins s σ H R I (h σ H R q)⟩
theorem PI.or {X : Cx} {tg e : Expr} {t t' : TI} (p : PI X tg e t) (p' : PI X tg e t') : PI X tg e fun σ H R => t σ H R ∨ t' σ H R := ⟨fun pins s σ H R I q => q.elim (p.run pins s σ H R I) (p'.run pins s σ H R I)⟩
def itL (r : Nat) (n : Nat) : AIt := ⟨n, fun i S => match S[r]? with
  | some (.lst xs) => some xs[i]?
  | _ => none⟩
def itT (xs : List AV) : AIt := ⟨xs.length, fun i _ => some xs[i]?⟩
def itR (lo c : Int) (n : Nat) : AIt := ⟨n, fun i _ => some (if i < n then some (.int (lo + i * c)) else none)⟩
def itZ (z : Str) : AIt := ⟨z.cps.size, fun i _ => some (z.cps[i]?.map fun c => .str ⟨#[c]⟩)⟩
def aIter (u : AV) : M AIt := fun S => match u with
  | .tup xs => .ok (itT xs) S
  | .rl xs => .ok (itT (xs.map .int)) S
  | .str z => .ok (itZ z) S
  | .ref r => match S[r]? with
    | some (.lst xs) => .ok (itL r xs.length) S
    | _ => .bad
  | _ => .bad
section
variable {K : PySem.W.Frag} {w : World} {mg : Str → Option Value} {ρ : Nat → Addr} {N : Nat} {S : Sto} {H : Hp}
theorem itOk_list {r n : Nat} (h : r < N) : ItOk K w mg ρ N H (Itl K (ρ r)) (itL r n) := by
  intro ρ' H' S' i e rs
  unfold itL
  simp only
  cases es : S'[r]? with
  | none => exact trivial
  | some o =>
    cases o with
    | lst xs =>
      obtain ⟨z, vs, h1, h2⟩ := rs.obj r _ es
      rw [e.eq r h] at h1
      dsimp only
      cases ex : xs[i]? with
      | none =>
        refine ⟨vs, SqL.of h1, ?_⟩
        rw [h2.length]
        exact List.getElem?_eq_none_iff.mp ex
      | some x =>
        obtain ⟨v, g1, g2⟩ := h2.get ex
        refine ⟨⟨vs, v, SqL.of h1, g1⟩, fun y H2 q => ?_⟩
        obtain ⟨rfl, q⟩ := q
        have := q vs (SqL.of h1)
        rw [g1] at this
        cases this
        exact ⟨Ext.refl, rs, g2⟩
    | dict xs => exact trivial
    | lck xs => exact trivial
    | ins c fs => exact trivial
theorem itOk_tup {a : Addr} {vs : List V} {xs : List AV} (h : SqT K H a vs) (r : RVs K w mg ρ N H vs xs) : ItOk K w mg ρ N H (Itt K a) (itT xs) := by
  intro ρ' H' S' i e rs
  have h1 := e.tk _ _ h
  have h2 := r.mono e.toUp
  unfold itT
  simp only
  cases ex : xs[i]? with
  | none => exact ⟨vs, h1, by rw [h2.length]; exact List.getElem?_eq_none_iff.mp ex⟩
  | some x =>
    obtain ⟨v, g1, g2⟩ := h2.get ex
    refine ⟨⟨vs, v, h1, g1⟩, fun y H2 q => ?_⟩
    obtain ⟨rfl, q⟩ := q
    have := q vs h1
    rw [g1] at this
    cases this
    exact ⟨Ext.refl, rs, g2⟩
theorem itOk_rl {a : Addr} {xs : List Int} (r : RV K w mg ρ N H (.ref a) (.rl xs)) : ItOk K w mg ρ N H (Itl K a) (itT (xs.map .int)) := by
  intro ρ' H' S' i e rs
  have h2 := r.mono e.toUp
  cases h2 with
  | rl h1 f =>
  unfold itT
  simp only
  have gl : ∀ i, (xs.map V.int)[i]? = (xs[i]?).map V.int := fun i => List.getElem?_map
  rw [List.getElem?_map]
  cases ex : xs[i]? with
  | none => exact ⟨_, h1, by rw [List.length_map]; exact List.getElem?_eq_none_iff.mp ex⟩
  | some x =>
    refine ⟨⟨_, .int x, h1, by rw [gl, ex]; rfl⟩, fun y H2 q => ?_⟩
    obtain ⟨rfl, q⟩ := q
    have := q _ h1
    rw [gl, ex] at this
    cases this
    exact ⟨Ext.refl, rs, .int x⟩
theorem itOk_str {z : Str} (h : okS z) : ItOk K w mg ρ N H (Its z) (itZ z) := by
  intro ρ' H' S' i e rs
  unfold itZ
  simp only
  cases ex : z.cps[i]? with
  | none => exact Array.getElem?_eq_none_iff.mp ex
  | some c =>
    refine ⟨(Array.getElem?_eq_some_iff.mp ex).1, fun y H2 q => ?_⟩
    obtain ⟨rfl, d, q1, rfl⟩ := q
    rw [ex] at q1
    cases q1
    exact ⟨Ext.refl, rs, .str _ (okS_one h (by
      rw [← Array.getElem?_toList] at ex
      exact List.mem_of_getElem? ex))⟩
theorem itOk_range {lo : Int} {n : Nat} : ItOk K w mg ρ N H (Itr lo n) (itR lo 1 n) := by
  intro ρ' H' S' i e rs
  unfold itR
  simp only
  split
  · rename_i q
    split at q
    · cases q
    · rename_i hn
      exact Nat.not_lt.mp hn
  · rename_i q
    split at q
    · rename_i hn
      cases q
      refine ⟨hn, fun y H2 q => ?_⟩
      obtain ⟨rfl, rfl⟩ := q
      refine ⟨Ext.refl, rs, ?_⟩
      rw [Int.mul_one]
      exact .int _
    · cases q
  · exact trivial
theorem itOk_rangeC {lo c : Int} {n : Nat} : ItOk K w mg ρ N H (Itc lo c n) (itR lo c n) := by
  intro ρ' H' S' i e rs
  unfold itR
  simp only
  split
  · rename_i q
    split at q
    · cases q
    · rename_i hn
      exact Nat.not_lt.mp hn
  · rename_i q
    split at q
    · rename_i hn
      cases q
      refine ⟨hn, fun y H2 q => ?_⟩
      obtain ⟨rfl, rfl⟩ := q
      exact ⟨Ext.refl, rs, .int _⟩
    · cases q
  · exact trivial
end
section
variable {X : Cx} {W : WX} {tg e a b c : Expr} {de da db dc : DE} {dl : DL} {pos p : Pos}
theorem si_val (he : SE X W e de) : SI X W tg e (bind1 de aIter) := by
  refine PI.imp (PI.or (pi_list he) (PI.or (pi_tup he) (pi_str he))) fun σ H R ⟨ρ, S, η, at0, p⟩ => ?_
  have key := fun {T : TI → Prop} => True.intro
  cases ev : de η S with
  | bad => unfold bind1 at p; rw [ev] at p; exact p.elim
  | ex c fs S1 =>
    refine .inl ⟨ρ, S, η, at0, ?_⟩
    unfold bind1 at p
    rw [ev] at p ⊢
    exact p
  | ok u S1 =>
    have g := tG.bind (Rel := RV X.K X.w X.mg) at0 p
    cases u with
    | tup xs =>
      refine .inr (.inl (g.mono fun x H1 ⟨ρ1, S1', u', q1, at1, e1, r1, p1⟩ => ?_))
      rw [ev] at q1; cases q1
      have r1' := r1
      cases r1 with
      | tup h1 h2 => exact ⟨_, rfl, ⟨_, h1⟩, p1 ρ1 _ H1 Ext.refl at1.rs (itOk_tup h1 h2)⟩
    | rl xs =>
      refine .inl (g.mono fun x H1 ⟨ρ1, S1', u', q1, at1, e1, r1, p1⟩ => ?_)
      rw [ev] at q1; cases q1
      have r1' := r1
      cases r1 with
      | rl h1 h2 => exact ⟨_, rfl, ⟨_, h1⟩, p1 ρ1 _ H1 Ext.refl at1.rs (itOk_rl r1')⟩
    | str z =>
      refine .inr (.inr (g.mono fun x H1 ⟨ρ1, S1', u', q1, at1, e1, r1, p1⟩ => ?_))
      rw [ev] at q1; cases q1
      cases r1 with
      | str _ h1 => exact ⟨_, rfl, p1 ρ1 _ H1 Ext.refl at1.rs (itOk_str h1)⟩
    | ref r =>
      refine .inl (g.mono fun x H1 ⟨ρ1, S1', u', q1, at1, e1, r1, p1⟩ => ?_)
      rw [ev] at q1; cases q1
      unfold aIter at p1
      simp only at p1
      split at p1
      · rename_i es
        obtain ⟨h1, z, vs, h2, h3⟩ := r1.obj at1.rs es
        exact ⟨_, h1, ⟨_, SqL.of h2⟩, p1 ρ1 _ H1 Ext.refl at1.rs (itOk_list (List.getElem?_eq_some_iff.mp es).1)⟩
      · exact p1.elim
    | non => unfold bind1 at p; rw [ev] at p; exact p.elim
    | bl _ => unfold bind1 at p; rw [ev] at p; exact p.elim
    | int _ => unfold bind1 at p; rw [ev] at p; exact p.elim
    | ty _ => unfold bind1 at p; rw [ev] at p; exact p.elim
    | cls _ => unfold bind1 at p; rw [ev] at p; exact p.elim
    | kd _ => unfold bind1 at p; rw [ev] at p; exact p.elim
def aRng1 (xs : List AV) : M AIt := fun S => match xs with
  | [.int j] => if j.natAbs < 2 ^ 61 then .ok (itR 0 1 j.toNat) S else .bad
  | _ => .bad
def aRng2 (xs : List AV) : M AIt := fun S => match xs with
  | [.int i, .int j] => if i.natAbs < 2 ^ 61 ∧ j.natAbs < 2 ^ 61 then .ok (itR i 1 (j - i).toNat) S else .bad
  | _ => .bad
def aRng3 (xs : List AV) : M AIt := fun S => match xs with
  | [.int i, .int j, .int c] => if c ≠ 0 ∧ c.natAbs < 1073741824 ∧ Builtin.Range.small i j c = true then .ok (itR i c (Builtin.Range.rangeSize i j c).toNat) S else .bad
  | _ => .bad
theorem rgs_nn {i j c : Int} (hc : c ≠ 0) : 0 ≤ Builtin.Range.rangeSize i j c := by
  unfold Builtin.Range.rangeSize
  split
  · split
    · have := Int.ediv_nonneg (a := j - i - 1) (b := c) (by omega) (by omega)
      omega
    · omega
  · split
    · have := Int.ediv_nonneg (a := i - j - 1) (b := -c) (by omega) (by omega)
      omega
    · omega
theorem si_rng1 (hg : Gl X "range") (hm : X.mg "range" = none) (ha : SA X W [a] dl) (hs : starEach [a] X.env = [(false, eval a X.env)] := by rfl) : SI X W tg (.Call (.Name "range" p) [a] [] pos) (bind1 dl aRng1) :=
  PI.imp (pi_range1 hg hm ha hs) fun σ H R ⟨ρ, S, η, at0, p⟩ => (tG.bind at0 p).mono fun x H1 ⟨ρ1, S1, u, _, at1, e1, r1, p1⟩ => by
    unfold aRng1 at p1
    split at p1
    · split at p1
      · rename_i hl
        cases r1 with
        | cons a t =>
        cases t
        cases a
        exact ⟨_, rfl, by omega, by omega, p1 ρ1 _ H1 Ext.refl at1.rs itOk_range⟩
      · exact p1.elim
    · exact p1.elim
theorem si_rng2 (hg : Gl X "range") (hm : X.mg "range" = none) (ha : SA X W [a, b] dl) (hs : starEach [a, b] X.env = [(false, eval a X.env), (false, eval b X.env)] := by rfl) (hs2 : starEach [b] X.env = [(false, eval b X.env)] := by rfl) : SI X W tg (.Call (.Name "range" p) [a, b] [] pos) (bind1 dl aRng2) :=
  PI.imp (pi_range2 hg hm ha hs hs2) fun σ H R ⟨ρ, S, η, at0, p⟩ => (tG.bind at0 p).mono fun x H1 ⟨ρ1, S1, u, _, at1, e1, r1, p1⟩ => by
    unfold aRng2 at p1
    split at p1
    · split at p1
      · rename_i hl
        cases r1 with
        | cons a t =>
        cases t with
        | cons b t =>
        cases t
        cases a
        cases b
        exact ⟨_, _, rfl, ⟨by omega, by omega, by omega, by omega⟩, p1 ρ1 _ H1 Ext.refl at1.rs itOk_range⟩
      · exact p1.elim
    · exact p1.elim
theorem si_rng3 (hg : Gl X "range") (hm : X.mg "range" = none) (ha : SA X W [a, b, c] dl) (hs : starEach [a, b, c] X.env = (false, eval a X.env) :: starEach [b, c] X.env := by rfl) (hpl : (backTo pos (starEach [b, c] X.env)).any (·.1) = false := by rfl) : SI X W tg (.Call (.Name "range" p) [a, b, c] [] pos) (bind1 dl aRng3) :=
  PI.imp (pi_range3 hg hm ha hs hpl) fun σ H R ⟨ρ, S, η, at0, p⟩ => (tG.bind at0 p).mono fun x H1 ⟨ρ1, S1, u, _, at1, e1, r1, p1⟩ => by
    unfold aRng3 at p1
    split at p1
    · split at p1
      · rename_i hl
        cases r1 with
        | cons a t =>
        cases t with
        | cons b t =>
        cases t with
        | cons c t =>
        cases t
        cases a
        cases b
        cases c
        exact ⟨_, _, _, _, rfl, ⟨hl.1, hl.2.1, hl.2.2, (Int.toNat_of_nonneg (rgs_nn hl.1)).symm⟩, p1 ρ1 _ H1 Ext.refl at1.rs itOk_rangeC⟩
      · exact p1.elim
    · exact p1.elim
/-! ### for -/
def loopF (it : AIt) (g : DT) (body : DS) : Nat → Nat → Nv → Sto → Rt
  | f, i, η, S => match it.at_ i S with
    | none => .bad
    | some none => .nx η S
    | some (some v) => match f with
      | 0 => .bad
      | f + 1 => match g v η S with
        | .nx η1 S1 => match body η1 S1 with
          | .nx η2 S2 => loopF it g body f (i + 1) η2 S2
          | .ct η2 S2 => loopF it g body f (i + 1) η2 S2
          | .bk η2 S2 => .nx η2 S2
          | .rt v S2 => .rt v S2
          | .ex c fs S2 => .ex c fs S2
          | .bad => .bad
        | _ => .bad
def dFor (di : DI) (g : DT) (body : DS) : DS := fun η S => (di η S).thenS fun it S1 => loopF it g body it.n 0 η S1
theorem ss_for {E : XK} {sts : List Stmt} {di : DI} {g : DT} {d : DS} (hp : PassesOwn (model X.prog X.w) X.A X.env X.xe) (hc : X.calm = true) (hi : SI X (wc E) tg e di) (hg : SG X tg g) (hb : SSs X E sts d)
    (hs : ∀ x, foldedSetIterable e X.env x = pure x := by intro _; rfl) : SS X E (.For tg e sts [] pos) (dFor di g d) := by
  refine PS.imp (ps_for hp hc hi hg hb hs) fun D σ H ⟨ρ, S, η, at0, p⟩ => ?_
  have p2 : tI X.K X.w X.mg (wc E) di σ H fun J H1 => ∃ ρ1 S1 it, At X.K X.w X.mg ρ1 S1 σ η H1 ∧ ItOk X.K X.w X.mg ρ1 S1.length H1 J it ∧ PostS X.K X.w X.mg ρ1 S1.length H1 D E (loopF it g d it.n 0 η S1) := by
    refine ⟨ρ, S, η, at0, ?_⟩
    unfold dFor at p
    cases ev : di η S with
    | ok it S1 =>
      rw [ev] at p
      exact fun ρ1 J H1 e1 r1 v1 => ⟨ρ1, S1, it, at0.on e1 r1, v1, p.step e1⟩
    | ex c fs S1 => rw [ev] at p; exact p
    | bad => rw [ev] at p; exact p
  obtain ⟨ρ', S', η', at', p3⟩ := p2
  refine ⟨ρ', S', η', at', p3.mono (fun J H1 h => ?_) fun _ _ _ h => h⟩
  obtain ⟨ρb, Sb, it, atb, ok, pb⟩ := h
  refine ⟨fun i m σ H => ∃ ρ S η, At X.K X.w X.mg ρ S σ η H ∧ Ext X.K ρb Sb.length H1 ρ S.length H ∧ PostS X.K X.w X.mg ρ S.length H D E (loopF it g d m i η S), ⟨it.n, ρb, Sb, η, atb, Ext.refl, pb⟩, ?_⟩
  rintro i m σ H ⟨ρ, S, η, at1, ex, pp⟩
  have okk := ok ρ H S i ex at1.rs
  unfold loopF at pp
  cases eat : it.at_ i S with
  | none => rw [eat] at pp; exact pp.elim
  | some o =>
    rw [eat] at pp okk
    cases o with
    | none => exact .inl ⟨okk, nx_at at1 pp⟩
    | some v =>
      cases m with
      | zero => exact pp.elim
      | succ f =>
        simp only at pp
        refine .inr ⟨okk.1, fun σ' H' => ∃ ρ S η, At X.K X.w X.mg ρ S σ' η H' ∧ Ext X.K ρb Sb.length H1 ρ S.length H' ∧ PostS X.K X.w X.mg ρ S.length H' D E (loopF it g d f (i + 1) η S), fun σ' H' h => ⟨f, Nat.lt_succ_self _, h⟩, fun x H2 y => ?_⟩
        obtain ⟨e2, rs2, rv⟩ := okk.2 x H2 y
        refine ⟨ρ, S, η, v, ⟨rs2, at1.re.mono e2.toUp⟩, rv, ?_⟩
        cases eg : g v η S with
        | nx η1 S1 =>
          rw [eg] at pp
          simp only at pp
          intro ρ3 σ3 H3 e3 a3
          refine ⟨ρ3, S1, η1, a3, ?_⟩
          have ext3 : Ext X.K ρ S.length H ρ3 S1.length H3 := e2.trans e3
          cases eb : d η1 S1 with
          | nx η2 S2 =>
            rw [eb] at pp
            exact fun ρ4 σ4 H4 e4 a4 => ⟨ρ4, S2, η2, a4, (ex.trans ext3).trans e4, pp.step (ext3.trans e4)⟩
          | ct η2 S2 =>
            rw [eb] at pp
            exact fun ρ4 σ4 H4 e4 a4 => ⟨ρ4, S2, η2, a4, (ex.trans ext3).trans e4, pp.step (ext3.trans e4)⟩
          | bk η2 S2 =>
            rw [eb] at pp
            exact fun ρ4 σ4 H4 e4 a4 => pp ρ4 σ4 H4 (ext3.trans e4) a4
          | rt v S2 =>
            rw [eb] at pp
            exact fun ρ4 x H4 e4 r4 v4 => pp ρ4 x H4 (ext3.trans e4) r4 v4
          | ex c fs S2 =>
            rw [eb] at pp
            exact fun ρ4 cls d H4 e4 r4 v4 => pp ρ4 cls d H4 (ext3.trans e4) r4 v4
          | bad => rw [eb] at pp; exact pp
        | bk η1 S1 => rw [eg] at pp; exact pp.elim
        | ct η1 S1 => rw [eg] at pp; exact pp.elim
        | rt η1 S1 => rw [eg] at pp; exact pp.elim
        | ex η1 _ S1 => rw [eg] at pp; exact pp.elim
        | bad => rw [eg] at pp; exact pp.elim
/-! ### while -/
def loopW (c : DB) (body : DS) : Nat → Nv → Sto → Rt
  | 0, _, _ => .bad
  | f + 1, η, S => (c η S).thenS fun b S1 => if b = true then match body η S1 with
      | .nx η2 S2 => loopW c body f η2 S2
      | .ct η2 S2 => loopW c body f η2 S2
      | .bk η2 S2 => .nx η2 S2
      | .rt v S2 => .rt v S2
      | .ex c fs S2 => .ex c fs S2
      | .bad => .bad
    else .nx η S1
theorem ss_while {E : XK} {sts : List Stmt} {dc : DB} {d : DS} (n : Nat) (hp : PassesOwn (model X.prog X.w) X.A X.env X.xe) (hc : ST X (wc E) c dc) (hb : SSs X E sts d) : SS X E (.While c sts [] pos) (loopW dc d n) := by
  refine PS.imp (ps_while hp hc hb) fun D σ H ⟨ρ, S, η, at0, p⟩ => ?_
  refine ⟨fun m σ H => ∃ ρ S η, At X.K X.w X.mg ρ S σ η H ∧ PostS X.K X.w X.mg ρ S.length H D E (loopW dc d m η S), ⟨n, ρ, S, η, at0, p⟩, ?_⟩
  rintro m σ H ⟨ρ, S, η, at1, pp⟩
  cases m with
  | zero => exact pp.elim
  | succ f =>
    refine (tG.bindS (Rel := Rb) at1 pp).mono fun b H1 ⟨ρ1, S1, u, _, at2, e1, r1, p1⟩ => ?_
    obtain rfl : b = u := r1
    cases b with
    | false => exact nx_at at2 p1
    | true =>
      rw [if_pos rfl]
      rw [if_pos rfl] at p1
      refine ⟨fun σ' H' => ∃ ρ S η, At X.K X.w X.mg ρ S σ' η H' ∧ PostS X.K X.w X.mg ρ S.length H' D E (loopW dc d f η S), fun σ' H' h => ⟨f, Nat.lt_succ_self _, h⟩, ρ1, S1, η, at2, ?_⟩
      cases eb : d η S1 with
      | nx η2 S2 =>
        rw [eb] at p1
        exact fun ρ4 σ4 H4 e4 a4 => ⟨ρ4, S2, η2, a4, p1.step e4⟩
      | ct η2 S2 =>
        rw [eb] at p1
        exact fun ρ4 σ4 H4 e4 a4 => ⟨ρ4, S2, η2, a4, p1.step e4⟩
      | bk η2 S2 =>
        rw [eb] at p1
        exact fun ρ4 σ4 H4 e4 a4 => p1 ρ4 σ4 H4 e4 a4
      | rt v S2 =>
        rw [eb] at p1
        exact fun ρ4 x H4 e4 r4 v4 => p1 ρ4 x H4 e4 r4 v4
      | ex c fs S2 =>
        rw [eb] at p1
        exact fun ρ4 cls d H4 e4 r4 v4 => p1 ρ4 cls d H4 e4 r4 v4
      | bad => rw [eb] at p1; exact p1
/-! ### comprehensions -/
def wipeA (η : Nv) : List Nat → Nv
  | [] => η
  | v :: vs => (wipeA η vs).set v none
theorem wipeA_length (η : Nv) : ∀ vs : List Nat, (wipeA η vs).length = η.length
  | [] => rfl
  | v :: vs => by unfold wipeA; rw [List.length_set, wipeA_length η vs]
theorem wipeA_get {η : Nv} {i : Nat} {x : AV} : ∀ {vs : List Nat}, (wipeA η vs)[i]? = some (some x) → η[i]? = some (some x) ∧ i ∉ vs
  | [], h => ⟨h, by simp⟩
  | v :: vs, h => by
    unfold wipeA at h
    by_cases hi : v = i
    · subst hi
      by_cases hv : v < (wipeA η vs).length
      · rw [List.getElem?_set_self hv] at h; cases h
      · rw [List.getElem?_eq_none (by simpa using hv)] at h; cases h
    · rw [List.getElem?_set_ne hi] at h
      obtain ⟨h1, h2⟩ := wipeA_get h
      exact ⟨h1, fun z => (List.mem_cons.mp z).elim (fun e => hi e.symm) h2⟩
theorem wipe_get {σ : L2.St} {i : Nat} : ∀ {vs : List Nat}, i ∉ vs → (wipe σ vs)[i]? = σ[i]?
  | [], _ => rfl
  | v :: vs, h => by
    unfold wipe
    rw [List.getElem?_set_ne (fun e => h (by rw [e]; exact List.mem_cons_self)), wipe_get fun z => h (List.mem_cons_of_mem _ z)]
theorem RE.wipe {K : PySem.W.Frag} {w : World} {mg : Str → Option Value} {ρ : Nat → Addr} {N : Nat} {H : Hp} {σ : L2.St} {η : Nv} (r : RE K w mg ρ N H σ η) (vs : List Nat) : RE K w mg ρ N H (wipe σ vs) (wipeA η vs) := by
  refine ⟨by rw [wipe_length, wipeA_length]; exact r.1, fun i x h => ?_⟩
  obtain ⟨h1, h2⟩ := wipeA_get h
  obtain ⟨v, g1, g2⟩ := r.2 i x h1
  exact ⟨v, by rw [wipe_get h2]; exact g1, g2⟩
theorem wipe_set_in {i : Nat} {y : Option V} : ∀ {vs : List Nat} {σ : L2.St}, i ∈ vs → wipe (σ.set i y) vs = wipe σ vs
  | [], _, h => by cases h
  | v :: vs, σ, h => by
    unfold wipe
    by_cases hm : i ∈ vs
    · rw [wipe_set_in hm]
    · have e : i = v := (List.mem_cons.mp h).elim id fun z => absurd z hm
      subst e
      have : ∀ (us : List Nat) (σ : L2.St), i ∉ us → wipe (σ.set i y) us = (wipe σ us).set i y := by
        intro us
        induction us with
        | nil => intro σ _; rfl
        | cons u us ih =>
          intro σ hu
          unfold wipe
          rw [ih σ fun z => hu (List.mem_cons_of_mem _ z)]
          rw [List.set_comm _ _ (fun e => hu (by rw [e]; exact List.mem_cons_self))]
      rw [this vs σ hm, List.set_set]
theorem wipe_idem {σ : L2.St} : ∀ vs : List Nat, wipe (wipe σ vs) vs = wipe σ vs
  | [] => rfl
  | v :: vs => by
    show (wipe ((wipe σ vs).set v none) vs).set v none = (wipe σ vs).set v none
    by_cases hm : v ∈ vs
    · rw [wipe_set_in hm, wipe_idem vs]
    · have : ∀ (us : List Nat) (σ : L2.St), v ∉ us → wipe (σ.set v none) us = (wipe σ us).set v none := by
        intro us
        induction us with
        | nil => intro σ _; rfl
        | cons u us ih =>
          intro σ hu
          unfold wipe
          rw [ih σ fun z => hu (List.mem_cons_of_mem _ z)]
          rw [List.set_comm _ _ (fun e => hu (by rw [e]; exact List.mem_cons_self))]
      rw [this vs _ hm, List.set_set, wipe_idem vs]
/-- a comprehension's target: a name, or names in parentheses -/
inductive Tg where
  | nm (i : Nat) | tp (is : List Nat)
def Tg.own : Tg → List Nat
  | .nm i => [i]
  | .tp is => is
def setsN : List Nat → List AV → Nv → Option Nv
  | [], [], η => some η
  | i :: is, x :: xs, η => setsN is xs (η.set i (some x))
  | _, _, _ => none
def Tg.put (t : Tg) (v : AV) (η : Nv) : Option Nv := match t with
  | .nm i => some (η.set i (some v))
  | .tp is => match v with
    | .tup xs => setsN is xs η
    | _ => none
def gNs : List Nat → TGs
  | [] => gNil
  | i :: is => gCons (gName i) (gNs is)
def Tg.g (K : PySem.W.Frag) : Tg → TG
  | .nm i => gName i
  | .tp is => gTup K is.length (gNs is)
theorem gNs_ok {K : PySem.W.Frag} {w : World} {mg : Str → Option Value} {ρ : Nat → Addr} {N : Nat} {H : Hp} {Q : L2.St → Hp → Prop} {ws : List Nat} : ∀ {is : List Nat} {xs : List AV} {vs : List V} {σ : L2.St} {η η' : Nv}, RE K w mg ρ N H σ η → RVs K w mg ρ N H vs xs → setsN is xs η = some η' → (∀ i ∈ is, i ∈ ws) →
    (∀ σ', RE K w mg ρ N H σ' η' → L2.wipe σ' ws = L2.wipe σ ws → Q σ' H) → gNs is vs σ H Q ∧ is.length = xs.length
  | [], [], _, σ, η, η', r, rv, h, _, q => by
    cases rv
    have : η = η' := Option.some.inj h
    subst this
    exact ⟨⟨rfl, q σ r rfl⟩, rfl⟩
  | i :: is, x :: xs, _, σ, η, η', r, rv, h, hw, q => by
    cases rv with
    | cons a t =>
    obtain ⟨g1, g2⟩ := gNs_ok (r.set i a) t (show setsN is xs (η.set i (some x)) = some η' from h) (fun j hj => hw j (List.mem_cons_of_mem _ hj)) (Q := Q) fun σ' r' e => q σ' r' (e.trans (wipe_set_in (hw i List.mem_cons_self)))
    exact ⟨⟨_, _, rfl, g1⟩, by rw [List.length_cons, List.length_cons, g2]⟩
  | [], _ :: _, _, _, _, _, _, _, h, _, _ => by cases h
  | _ :: _, [], _, _, _, _, _, _, h, _, _ => by cases h
theorem Tg.ok {K : PySem.W.Frag} {w : World} {mg : Str → Option Value} {ρ : Nat → Addr} {N : Nat} {H : Hp} {Q : L2.St → Hp → Prop} (t : Tg) {x : V} {v : AV} {σ : L2.St} {η η' : Nv} (r : RE K w mg ρ N H σ η) (rv : RV K w mg ρ N H x v) (h : t.put v η = some η')
    (q : ∀ σ', RE K w mg ρ N H σ' η' → L2.wipe σ' t.own = L2.wipe σ t.own → Q σ' H) : t.g K x σ H Q := by
  cases t with
  | nm i =>
    have : η.set i (some v) = η' := Option.some.inj h
    subst this
    exact q _ (r.set i rv) (wipe_set_in (List.mem_singleton.mpr rfl))
  | tp is =>
    unfold Tg.put at h
    simp only at h
    split at h
    · cases rv with
      | tup h1 r1 =>
      obtain ⟨g1, g2⟩ := gNs_ok (ws := is) r r1 h (fun _ hi => hi) q
      exact ⟨_, _, rfl, h1, by rw [r1.length]; exact g2.symm, g1⟩
    · cases h
/-- the items made -/
def collF (it : AIt) (t : Tg) (dt : DB) (de : DE) (η0 : Nv) : Nat → Nat → List AV → Sto → R (List AV)
  | f, i, acc, S => match it.at_ i S with
    | none => .bad
    | some none => .ok acc S
    | some (some v) => match f with
      | 0 => .bad
      | f + 1 => match t.put v η0 with
        | some η1 => match dt η1 S with
          | .ok true S2 => match de η1 S2 with
            | .ok y S3 => if acc.length < sizeLine then collF it t dt de η0 f (i + 1) (acc ++ [y]) S3 else .bad
            | _ => .bad
          | .ok false S2 => collF it t dt de η0 f (i + 1) acc S2
          | _ => .bad
        | none => .bad
def aLstN (xs : List AV) : M AV := fun S => .ok (.ref S.length) (S ++ [.lst xs])
def dLc (di : DI) (t : Tg) (dt : DB) (de : DE) : DE := fun η S => (di η S).bind fun it S1 => (collF it t dt de (wipeA η t.own) it.n 0 [] S1).bind fun ys S2 => aLstN ys S2
def WF : WX := fun _ _ _ _ => False
def dYes : DB := fun _ S => .ok true S
abbrev STs (X : Cx) (W : WX) (ifs : List Expr) (d : DB) : Prop := PTs X ifs (tDB X.K X.w X.mg W d)
theorem sts_nil : STs X W [] dYes := ⟨fun pins s σ H Q I h => pts_nil.run pins s σ H Q I (by
  obtain ⟨ρ, S, η, at0, p⟩ := h
  exact p.boo at0.rs)⟩
theorem sts_one {d : DB} (h : ST X W c d) : STs X W [c] d := pts_one h
theorem upd_self {H : Hp} {D : Addr} {o : HO} (h : H D = some o) : upd H D o = H := by
  funext b
  unfold upd
  split
  · rename_i e; rw [e, h]
  · rfl
theorem lc_imp {K : PySem.W.Frag} {w : World} {mg : Str → Option Value} {di : DI} {t : Tg} {dt : DB} {de : DE} {σ : L2.St} {H : Hp} {Q : VK} (q : tD K w mg W (dLc di t dt de) σ H Q) :
    tLc (tI K w mg W di) (t.g K) (tDB K w mg WF dt) (tD K w mg WF de) t.own σ H Q := by
  obtain ⟨ρ, S, η, at0, p⟩ := q
  have p2 : tI K w mg W di σ H fun J H1 => ∃ ρ1 S1 it, At K w mg ρ1 S1 σ η H1 ∧ ItOk K w mg ρ1 S1.length H1 J it ∧ PostV K w mg ρ1 S1.length H1 Q (wx W σ) ((collF it t dt de (wipeA η t.own) it.n 0 [] S1).bind fun ys S2 => aLstN ys S2) := by
    refine ⟨ρ, S, η, at0, ?_⟩
    unfold dLc at p
    cases ev : di η S with
    | ok it S1 =>
      rw [ev] at p
      exact fun ρ1 J H1 e1 r1 v1 => ⟨ρ1, S1, it, at0.on e1 r1, v1, p.step e1⟩
    | ex c fs S1 => rw [ev] at p; exact p
    | bad => rw [ev] at p; exact p
  obtain ⟨ρ', S', η', at', p3⟩ := p2
  refine ⟨ρ', S', η', at', p3.mono (fun J H1 h D nD => ?_) fun _ _ _ h => h⟩
  obtain ⟨ρb, Sb, it, atb, ok, pb⟩ := h
  refine ⟨fun i m H => ∃ ρ S acc vs, RS K w mg ρ H S ∧ RE K w mg ρ S.length H (wipe σ t.own) (wipeA η t.own) ∧ Ext K ρb Sb.length H1 ρ S.length H ∧ (∀ n, n < S.length → ρ n ≠ D) ∧ H D = some (.lst vs) ∧ RVs K w mg ρ S.length H vs acc ∧ acc.length ≤ sizeLine ∧
    PostV K w mg ρb Sb.length H1 Q (wx W σ) ((collF it t dt de (wipeA η t.own) m i acc S).bind fun ys S2 => aLstN ys S2), ⟨it.n, ρb, Sb, [], [], atb.rs.other nD, (atb.re.wipe _).mono (Up.other nD), Ext.other nD, fun n hn => atb.rs.ne_new nD hn, upd_same, .nil, Nat.zero_le _, pb⟩, ?_⟩
  rintro i m H ⟨ρ, S, acc, vs, rs, re, ex, nim, hD, rvs, hl, pp⟩
  have okk := ok ρ H S i ex rs
  unfold collF at pp
  cases eat : it.at_ i S with
  | none => rw [eat] at pp; exact pp.elim
  | some o =>
    rw [eat] at pp okk
    cases o with
    | none =>
      refine .inl ⟨okk, ?_⟩
      have ow : ∀ u, H D = some u → Own u := fun u h => by rw [hD] at h; cases h; exact own_lst
      have e2 := ex.laidAt (u := .lst vs) nD ow
      have r2 := rs.laidAt (o := .lst acc) nim ow (u := .lst vs) ⟨hl, vs, upd_same, rvs.mono (Up.laid ow)⟩
      rw [upd_self hD] at e2 r2
      have hlen : (S ++ [AO.lst acc]).length = S.length + 1 := by rw [List.length_append]; rfl
      have rv := RV.ref (K := K) (w := w) (mg := mg) (ρ := rho ρ S.length D) (N := (S ++ [AO.lst acc]).length) (H := H) S.length (by rw [hlen]; exact Nat.lt_succ_self _)
      have e1 : rho ρ S.length D S.length = D := by unfold rho; rw [if_pos rfl]
      rw [e1] at rv
      exact pp (rho ρ S.length D) _ H (by rw [hlen]; exact e2) r2 rv
    | some v =>
      cases m with
      | zero => exact pp.elim
      | succ f =>
        simp only at pp
        refine .inr ⟨okk.1, fun H' => ∃ ρ S acc vs, RS K w mg ρ H' S ∧ RE K w mg ρ S.length H' (wipe σ t.own) (wipeA η t.own) ∧ Ext K ρb Sb.length H1 ρ S.length H' ∧ (∀ n, n < S.length → ρ n ≠ D) ∧ H' D = some (.lst vs) ∧ RVs K w mg ρ S.length H' vs acc ∧ acc.length ≤ sizeLine ∧
          PostV K w mg ρb Sb.length H1 Q (wx W σ) ((collF it t dt de (wipeA η t.own) f (i + 1) acc S).bind fun ys S2 => aLstN ys S2), fun H' h => ⟨f, Nat.lt_succ_self _, h⟩, fun x H2 y => ?_⟩
        obtain ⟨e2, rs2, rv⟩ := okk.2 x H2 y
        have hD2 : H2 D = some (.lst vs) := e2.keep _ _ hD nim
        cases ep : t.put v (wipeA η t.own) with
        | none => rw [ep] at pp; exact pp.elim
        | some η1 =>
          rw [ep] at pp
          simp only at pp
          refine t.ok (re.mono e2.toUp) rv ep fun σ' re' ew => ⟨ew.trans (wipe_idem _), ?_⟩
          refine ⟨ρ, S, η1, ⟨rs2, re'⟩, ?_⟩
          cases et : dt η1 S with
          | ok b S2 =>
            rw [et] at pp
            intro ρ3 b' H3 e3 rs3 rb
            obtain rfl : b' = b := rb
            have nim3 : ∀ n, n < S2.length → ρ3 n ≠ D := fun n hn z => by
              by_cases h : n < S.length
              · exact nim n h ((e3.eq n h).symm.trans z)
              · have := e3.fresh n (Nat.not_lt.mp h) hn
                rw [z, hD2] at this
                cases this
            have hD3 : H3 D = some (.lst vs) := e3.keep _ _ hD2 nim
            cases b' with
            | false =>
              rw [if_neg Bool.false_ne_true]
              exact ⟨ρ3, S2, acc, vs, rs3, (re.mono e2.toUp).mono e3.toUp, (ex.trans e2).trans e3, nim3, hD3, (rvs.mono e2.toUp).mono e3.toUp, hl, pp⟩
            | true =>
              rw [if_pos rfl]
              simp only at pp
              refine ⟨ρ3, S2, η1, ⟨rs3, re'.mono e3.toUp⟩, ?_⟩
              cases ee : de η1 S2 with
              | ok y S3 =>
                rw [ee] at pp
                intro ρ4 y' H4 e4 rs4 rv4
                simp only at pp
                split at pp
                · rename_i hacc
                  have nim4 : ∀ n, n < S3.length → ρ4 n ≠ D := fun n hn z => by
                    by_cases h : n < S2.length
                    · exact nim3 n h ((e4.eq n h).symm.trans z)
                    · have := e4.fresh n (Nat.not_lt.mp h) hn
                      rw [z, hD3] at this
                      cases this
                  have hD4 : H4 D = some (.lst vs) := e4.keep _ _ hD3 nim3
                  have r4 := (((rvs.mono e2.toUp).mono e3.toUp).mono e4.toUp)
                  have up : Up K ρ4 S3.length H4 ρ4 S3.length (upd H4 D (.lst (vs ++ [y']))) := ⟨Nat.le_refl _, fun _ _ => rfl, tk_upd (fun u h => by rw [hD4] at h; cases h; exact own_lst), fzl_upd (fun u h ob x => by rw [hD4] at h; cases h; exact own_lst.2 ob _)⟩
                  have ex4 : Ext K ρb Sb.length H1 ρ4 S3.length (upd H4 D (.lst (vs ++ [y']))) := by
                    have e5 := ((ex.trans e2).trans e3).trans e4
                    refine ⟨⟨e5.le, e5.eq, fun a xs h => up.tk _ _ (e5.tk a xs h), fun a o xs h => up.fz _ _ _ (e5.fz a o xs h)⟩, e5.fresh, fun a o h m => ?_, fun a h => ?_, fun a o xs h => fz_upd (fun u h ob x => by rw [hD4] at h; cases h; exact own_lst.2 ob _) _ _ _ (e5.fa a o xs h)⟩
                    · rw [upd_ne (ne_of_none h nD)]; exact e5.keep a o h m
                    · by_cases z : a = D
                      · rw [z]; exact nD
                      · rw [upd_ne z] at h; exact e5.free a h
                  refine ⟨vs, hD4, by rw [r4.length]; exact hacc, ρ4, S3, acc ++ [y], vs ++ [y'], ⟨rs4.inj, fun n o h => (rs4.obj n o h).mono up (upd_ne (nim4 n (List.getElem?_eq_some_iff.mp h).1))⟩, (((re.mono e2.toUp).mono e3.toUp).mono e4.toUp).mono up, ex4, nim4, upd_same, (r4.append (.cons rv4 .nil)).mono up, by rw [List.length_append]; exact hacc, pp⟩
                · exact pp.elim
              | ex c fs S3 => rw [ee] at pp; exact pp.elim
              | bad => rw [ee] at pp; exact pp.elim
          | ex c fs S2 => rw [et] at pp; exact pp.elim
          | bad => rw [et] at pp; exact pp.elim
theorem se_lc {elt iter : Expr} {ifs : List Expr} {scope : Scope} {own : List (Str × Nat)} {di : DI} (t : Tg) {dt : DB} {de : DE} (hc : X.calm = true) (hN : X.N.Nodup) (hi : SI X W tg iter di) (ok : BlkOk X.N X.env.scope scope own) (ho : own.map (·.2) = t.own)
    (hg : ∀ (s : Shared) (H : Hp) (C : Addr) (cl : List (Str × Addr)) (fp : List Addr), PG (X.blk s H scope (compEnvC scope cl C X.env) fp) tg (t.g X.K)) (ht : ∀ (s : Shared) (H : Hp) (C : Addr) (cl : List (Str × Addr)) (fp : List Addr), STs (X.blk s H scope (compEnvC scope cl C X.env) fp) WF ifs dt)
    (he : ∀ (s : Shared) (H : Hp) (C : Addr) (cl : List (Str × Addr)) (fp : List Addr), SE (X.blk s H scope (compEnvC scope cl C X.env) fp) WF elt de) (hs : ∀ x, foldedSetIterable iter X.env x = pure x := by intro _; rfl) :
    SE X W (.ListComp elt [⟨tg, iter, ifs, 0⟩] scope pos) (dLc di t dt de) :=
  PE.imp (pe_lc (tt := tDB X.K X.w X.mg WF dt) (te := tD X.K X.w X.mg WF de) hc hN hi ok hg ht he hs) fun σ H Q q => by
    rw [ho]
    exact lc_imp q
theorem ss_setLc {E : XK} {i : Nat} {y : Str} {py spos : Pos} {elt iter : Expr} {ifs : List Expr} {scope : Scope} {own : List (Str × Nat)} {di : DI} (t : Tg) {dt : DB} {de : DE} (hc : X.calm = true) (hN : X.N.Nodup) (hy : X.N[i]? = some y) (hyl : X.env.scope.names.lookup y = some .local)
    (hsw : swapsWith (.ListComp elt [⟨tg, iter, ifs, 0⟩] scope pos) (some (.Name y py)) spos.line X.env = pure true) (hi : SI X (wc E) tg iter di) (ok : BlkOk X.N X.env.scope scope own) (ho : own.map (·.2) = t.own)
    (hg : ∀ (s : Shared) (H : Hp) (C : Addr) (cl : List (Str × Addr)) (fp : List Addr), PG (X.blk s H scope (compEnvC scope cl C X.env) fp) tg (t.g X.K)) (ht : ∀ (s : Shared) (H : Hp) (C : Addr) (cl : List (Str × Addr)) (fp : List Addr), STs (X.blk s H scope (compEnvC scope cl C X.env) fp) WF ifs dt)
    (he : ∀ (s : Shared) (H : Hp) (C : Addr) (cl : List (Str × Addr)) (fp : List Addr), SE (X.blk s H scope (compEnvC scope cl C X.env) fp) WF elt de) (hs : ∀ x, foldedSetIterable iter X.env x = pure x := by intro _; rfl) :
    SS X E (.Assign [.Name y py] (.ListComp elt [⟨tg, iter, ifs, 0⟩] scope pos) spos) (dSet i (dLc di t dt de)) :=
  PS.imp (ps_setLc (tt := tDB X.K X.w X.mg WF dt) (te := tD X.K X.w X.mg WF de) hc hN hy hyl hsw hi ok hg ht he hs) fun D σ H ⟨ρ, S, η, at0, p⟩ => by
    have q : tD X.K X.w X.mg (wc E) (dLc di t dt de) σ H fun x H1 => D.nx (σ.set i (some x)) H1 := (tG.bindS at0 p).mono fun x H1 ⟨ρ1, S1, u, _, at1, e1, r1, p1⟩ => nx_at (at1.set i r1) p1
    rw [ho]
    exact lc_imp q
end
end Sim

set_option Elab.async false
set_option linter.all false
set_option maxRecDepth 100000
set_option maxHeartbeats 4000000
/-! S8: defs, calls, methods, classes, fields. -/
namespace Sim
open PySem PySem.Spec PyProof.Rows L2
def spD (K : PySem.W.Frag) (w : World) (mg : Str → Option Value) (F : List AV → M AV) : Sp := fun vs H Q E => ∃ ρ S as, RS K w mg ρ H S ∧ RVs K w mg ρ S.length H vs as ∧ PostV K w mg ρ S.length H Q E (F as S)
def Ar (n : Nat) (F : List AV → M AV) : Prop := ∀ as S, as.length ≠ n → F as S = .bad
def dDef (n m : Nat) (body : DS) : List AV → M AV := fun as S => if as.length = n then (match body (as.map some ++ List.replicate (m - n) none) S with
  | .nx _ S' => .ok .non S'
  | .rt v S' => .ok v S'
  | .ex c fs S' => .ex c fs S'
  | _ => .bad) else .bad
theorem dDef_ar (n m : Nat) (body : DS) : Ar n (dDef n m body) := fun as S h => if_neg h
structure Src (K : PySem.W.Frag) (mg : Str → Option Value) (x : Str) (st : Stmt) (ps : List Str) : Prop where
  ex : ∃ f fd, mg x = some (.ref f) ∧ Fun K x x st f fd ∧ Binds K fd ps []
structure SrcM (K : PySem.W.Frag) (mg : Str → Option Value) (cls m qual : Str) (st : Stmt) (ps : List Str) : Prop where
  ex : ∃ C f fd, mg cls = some (.ref C) ∧ Cls K C ∧ Meth K C m f ∧ Fun K m qual st f fd ∧ Binds K fd ps []
structure SrcI (K : PySem.W.Frag) (mg : Str → Option Value) (cls qual : Str) (st : Stmt) (ps : List Str) : Prop where
  ex : ∃ C f fd, mg cls = some (.ref C) ∧ Mk K C f ∧ Fun K "__init__" qual st f fd ∧ Binds K fd ps []
structure Df (P : Program) (w : World) (K : PySem.W.Frag) (mg : Str → Option Value) (base : Heap) (x : Str) (k : Nat) (ps : List Str) (F : List AV → M AV) : Prop where
  ex : ∃ f fd, mg x = some (.ref f) ∧ PySem.W.keepIn K (.ref f) = true ∧ Binds K fd ps [] ∧ FnOk P w K mg base (L2.CX P w) k f fd ps (spD K w mg F)
structure DfM (P : Program) (w : World) (K : PySem.W.Frag) (mg : Str → Option Value) (base : Heap) (cls m : Str) (k : Nat) (ps : List Str) (F : List AV → M AV) : Prop where
  ex : ∃ C f fd, mg cls = some (.ref C) ∧ Cls K C ∧ Meth K C m f ∧ Binds K fd ps [] ∧ FnOk P w K mg base (L2.CX P w) k f fd ps (spD K w mg F)
structure DfI (P : Program) (w : World) (K : PySem.W.Frag) (mg : Str → Option Value) (base : Heap) (cls : Str) (k : Nat) (ps : List Str) (F : List AV → M AV) : Prop where
  ex : ∃ C f fd, mg cls = some (.ref C) ∧ Mk K C f ∧ Binds K fd ps [] ∧ FnOk P w K mg base (L2.CX P w) k f fd ps (spD K w mg F)
section
variable {P : Program} {w : World} {K : PySem.W.Frag} {mg : Str → Option Value} {base : Heap} {x cls m qual : Str} {st : Stmt} {N ps : List Str} {k : Nat} {d : DS}
theorem spD_len {F : List AV → M AV} {n : Nat} (h : Ar n F) {vs : List V} {H : Hp} {Q : VK} {E : XK} (q : spD K w mg F vs H Q E) : vs.length = n := by
  obtain ⟨ρ, S, as, _, r, p⟩ := q
  rw [r.length]
  by_cases e : as.length = n
  · exact e
  · rw [h as S e] at p
    exact p.elim
theorem start_re {ρ : Nat → Addr} {n : Nat} {H : Hp} : ∀ {vs : List V} {as : List AV}, RVs K w mg ρ n H vs as → ∀ (i : Nat) (x : AV), (as.map some)[i]? = some (some x) → ∃ v, (vs.map some)[i]? = some (some v) ∧ RV K w mg ρ n H v x := by
  intro vs as r i x h
  rw [List.getElem?_map] at h
  cases e : as[i]? with
  | none => rw [e] at h; cases h
  | some y =>
    rw [e] at h
    have : y = x := Option.some.inj (Option.some.inj h)
    subst this
    obtain ⟨v, h1, h2⟩ := r.get e
    exact ⟨v, by rw [List.getElem?_map, h1]; rfl, h2⟩
/-- a body's reading, from the promise -/
theorem body_ok {E : XK} {vs : List V} {H : Hp} {Q : VK} {n : Nat} (hn : n ≤ N.length) (q : spD K w mg (dDef n N.length d) vs H Q E) : tS K w mg E d { nx := fun _ H' => Q .non H', rt := Q } (L2.start N vs) H := by
  have hl := spD_len (dDef_ar n N.length d) q
  obtain ⟨ρ, S, as, rs, r, p⟩ := q
  have ha : as.length = n := by rw [← r.length]; exact hl
  unfold dDef at p
  rw [if_pos ha] at p
  refine ⟨ρ, S, as.map some ++ List.replicate (N.length - n) none, ⟨rs, ?_, ?_⟩, ?_⟩
  · unfold L2.start
    rw [List.length_append, List.length_append, List.length_map, List.length_map, List.length_replicate, List.length_replicate, hl, ha]
  · intro i x h
    unfold L2.start
    by_cases hi : i < n
    · rw [List.getElem?_append_left (by rw [List.length_map, ha]; exact hi)] at h
      obtain ⟨v, h1, h2⟩ := start_re r i x h
      exact ⟨v, by rw [List.getElem?_append_left (by rw [List.length_map, hl]; exact hi)]; exact h1, h2⟩
    · rw [List.getElem?_append_right (by rw [List.length_map, ha]; exact Nat.not_lt.mp hi), List.getElem?_replicate] at h
      split at h
      · cases h
      · cases h
  · cases e : d (as.map some ++ List.replicate (N.length - n) none) S with
    | nx η' S' =>
      rw [e] at p
      exact fun ρ' σ' H' e1 a1 => p ρ' .non H' e1 a1.rs .non
    | rt v S' => rw [e] at p; exact p
    | ex c fs S' => rw [e] at p; exact p
    | bk a S => rw [e] at p; exact p.elim
    | ct a S => rw [e] at p; exact p.elim
    | bad => rw [e] at p; exact p.elim
abbrev Bd (P : Program) (w : World) (K : PySem.W.Frag) (mg : Str → Option Value) (base : Heap) (N : List Str) (qual : Str) (st : Stmt) (k : Nat) (d : DS) : Prop :=
  ∀ (f : Addr) (cdv : Value) (A : Around) (outer : List Env) (s : Shared) (H : Hp) (E : XK), Room k (A.deeper (envOfC qual (defScope st) s.heap.objs.size f cdv)) → SSs (cxOf (L2.CX P w) P w K mg base N qual (defScope st) f cdv A outer s H E) E (defBody st) d
theorem scope_le {sc : Scope} (S : FnScope N ps sc) : ps.length ≤ N.length := by
  have h := congrArg List.length S.pre
  rw [List.length_take] at h
  omega
theorem Src.ok (S : Src K mg x st ps) (sc : FnScope N ps (defScope st)) (hb : Bd P w K mg base N x st k d) : Df P w K mg base x (k + 1) ps (dDef ps.length N.length d) := by
  obtain ⟨f, fd, m, F, b⟩ := S.ex
  exact ⟨f, fd, m, F.kp, b, F.okX sc (fun vs H Q E h => spD_len (dDef_ar _ _ _) h) fun cdv A outer s H vs Q E hr h => ⟨_, hb f cdv A outer s H E hr, body_ok (scope_le sc) h⟩⟩
theorem SrcM.ok (S : SrcM K mg cls m qual st ps) (sc : FnScope N ps (defScope st)) (hb : Bd P w K mg base N qual st k d) : DfM P w K mg base cls m (k + 1) ps (dDef ps.length N.length d) := by
  obtain ⟨C, f, fd, hm, c, mt, F, b⟩ := S.ex
  exact ⟨C, f, fd, hm, c, mt, b, F.okX sc (fun vs H Q E h => spD_len (dDef_ar _ _ _) h) fun cdv A outer s H vs Q E hr h => ⟨_, hb f cdv A outer s H E hr, body_ok (scope_le sc) h⟩⟩
theorem SrcI.ok (S : SrcI K mg cls qual st ps) (sc : FnScope N ps (defScope st)) (hb : Bd P w K mg base N qual st k d) : DfI P w K mg base cls (k + 1) ps (dDef ps.length N.length d) := by
  obtain ⟨C, f, fd, hm, M, F, b⟩ := S.ex
  exact ⟨C, f, fd, hm, M, b, F.okX sc (fun vs H Q E h => spD_len (dDef_ar _ _ _) h) fun cdv A outer s H vs Q E hr h => ⟨_, hb f cdv A outer s H E hr, body_ok (scope_le sc) h⟩⟩
/-- a def of which nothing is asked (yet) -/
theorem Src.none (S : Src K mg x st ps) (sc : FnScope N ps (defScope st)) : Df P w K mg base x 1 ps (dDef ps.length N.length dBad) :=
  S.ok (k := 0) sc fun f cdv A outer s H E hr => PSs.imp pss_never fun D σ H ⟨_, _, _, _, p⟩ => p.elim
theorem SrcM.none (S : SrcM K mg cls m qual st ps) (sc : FnScope N ps (defScope st)) : DfM P w K mg base cls m 1 ps (dDef ps.length N.length dBad) :=
  S.ok (k := 0) sc fun f cdv A outer s H E hr => PSs.imp pss_never fun D σ H ⟨_, _, _, _, p⟩ => p.elim
end
section
variable {X : Cx} {W : WX} {E : XK} {x m f cls : Str} {k : Nat} {ps : List Str} {F : List AV → M AV} {e o : Expr} {es : List Expr} {de do_ : DE} {dl : DL} {p pos apos : Pos}
/-! ### calls -/
theorem args_imp {σ : L2.St} {H : Hp} {Q : VK} (q : tD X.K X.w X.mg W (bind1 dl F) σ H Q) : tDL X.K X.w X.mg W dl σ H fun vs H1 => spD X.K X.w X.mg F vs H1 Q (wx W σ) := by
  obtain ⟨ρ, S, η, at0, p⟩ := q
  exact (tG.bind at0 p).mono fun vs H1 ⟨ρ1, S1, us, _, at1, e1, r1, p1⟩ => ⟨ρ1, S1, us, at1.rs, r1, p1⟩
theorem se_call (D : Df X.prog X.w X.K X.mg X.base x k ps F) (hr : Room k X.A) (tk : Takes X W) (hg : Gl X x) (ha : SA X W (e :: es) dl) (hdb : (x == ("__debug__" : Str)) = false := by decide)
    (he : starEach (e :: es) X.env = (false, eval e X.env) :: starEach es X.env := by rfl) (hpl : (backTo pos (starEach es X.env)).any (·.1) = false := by rfl) : SE X W (.Call (.Name x p) (e :: es) [] pos) (bind1 dl F) := by
  obtain ⟨f, fd, hm, kp, b, ok⟩ := D.ex
  exact PE.imp (pe_callS ok hr hg hm kp b (fun σ => passAt tk σ) ha hdb he hpl) fun σ H Q q => args_imp q
theorem se_call0 (D : Df X.prog X.w X.K X.mg X.base x k ps F) (hr : Room k X.A) (tk : Takes X (wc E)) (hg : Gl X x) (hdb : (x == ("__debug__" : Str)) = false := by decide) : SE X (wc E) (.Call (.Name x p) [] [] pos) (fun _ S => F [] S) := by
  obtain ⟨f, fd, hm, kp, b, ok⟩ := D.ex
  exact PE.imp (pe_call0 (E := E) ok hr hg hm kp b .nil (passes_call tk fun _ _ _ _ h => h) hdb) fun σ H Q ⟨ρ, S, η, at0, p⟩ => ⟨ρ, S, [], at0.rs, .nil, p⟩
theorem lookup_rp {K : PySem.W.Frag} {w : World} {mg : Str → Option Value} {ρ : Nat → Addr} {N : Nat} {H : Hp} {us : List (Str × V)} {fs : List (Str × AV)} (r : RPs K w mg ρ N H us fs) (f : Str) : (us.lookup f = none ∧ fs.lookup f = none) ∨ ∃ v x, us.lookup f = some v ∧ fs.lookup f = some x ∧ RV K w mg ρ N H v x := by
  unfold RPs at r
  induction r with
  | nil => exact .inl ⟨rfl, rfl⟩
  | @cons p q ps qs h t ih =>
    obtain ⟨p1, p2⟩ := p
    obtain ⟨q1, q2⟩ := q
    obtain ⟨h1, h2⟩ := h
    have h1' : p1 = q1 := h1
    subst h1'
    rw [List.lookup_cons, List.lookup_cons]
    cases hb : f == p1 with
    | true => exact .inr ⟨_, _, rfl, rfl, h2⟩
    | false => exact ih
/-- o.m(..) of an instance of cls -/
def insB (S : Sto) (cls m : Str) (o : AV) : Bool := match o with
  | .ref n => match S[n]? with
    | some (.ins c fs) => decide (c = cls) && (fs.lookup m).isNone
    | _ => false
  | _ => false
theorem insB_at {S : Sto} {cls m : Str} {o : AV} (h : insB S cls m o = true) : ∃ n fs, o = .ref n ∧ S[n]? = some (.ins cls fs) ∧ fs.lookup m = none := by
  unfold insB at h
  split at h
  · split at h
    · rename_i e
      rw [Bool.and_eq_true, decide_eq_true_eq] at h
      obtain ⟨h1, h2⟩ := h
      subst h1
      exact ⟨_, _, rfl, e, by simpa using h2⟩
    · cases h
  · cases h
def dMeth (cls m : Str) (do_ : DE) (dl : DL) (F : List AV → M AV) : DE := fun η S => (do_ η S).bind fun o S1 => if insB S1 cls m o = true then (dl η S1).bind fun as S2 => F (o :: as) S2 else .bad
theorem meth_imp {σ : L2.St} {H : Hp} {Q : VK} {C : Addr} (hC : X.mg cls = some (.ref C)) (q : tD X.K X.w X.mg (wc E) (dMeth cls m do_ dl F) σ H Q) : tMeth C m (spD X.K X.w X.mg F) [] E (tD X.K X.w X.mg (wc E) do_) (tDL X.K X.w X.mg (wc E) dl) σ H Q := by
  obtain ⟨ρ, S, η, at0, p⟩ := q
  refine (tG.bind at0 p).mono fun x H1 ⟨ρ1, S1, u, _, at1, e1, r1, p1⟩ => ?_
  split at p1
  · rename_i hi
    obtain ⟨n, fs, rfl, es, hf⟩ := insB_at hi
    obtain ⟨h1, z, C', dx, us, hm, h2, h3⟩ := r1.obj at1.rs es
    rw [hC] at hm
    cases hm
    rcases lookup_rp h3 m with ⟨g1, g2⟩ | ⟨v, y, g1, g2, _⟩
    · refine ⟨_, dx, us, h1, h2, g1, (tG.bind at1 p1).mono fun vs H2 ⟨ρ2, S2, as, _, at2, e2, r2, p2⟩ => ⟨ρ2, S2, _ :: as, at2.rs, ?_, p2⟩⟩
      rw [List.append_nil]
      exact .cons (r1.mono e2.toUp) r2
    · rw [hf] at g2; cases g2
  · exact p1.elim
theorem se_meth {pl : Sem Bool} (D : DfM X.prog X.w X.K X.mg X.base cls m k ps F) (hr : Room k X.A) (tk : Takes X (wc E)) (ho : SE X (wc E) o do_) (ha : SA X (wc E) (e :: es) dl)
    (hst : starEach (e :: es) X.env = (false, eval e X.env) :: starEach es X.env := by rfl) (hpl : (backTo pos (starEach es X.env)).any (·.1) = false := by rfl)
    (ht : eval (.Call (.Attribute o m apos) (e :: es) [] pos) X.env = (do
      let ov ← eval o X.env
      standAt apos.atName
      let (f, first) ← holding [ov] (getMethod ov m pl)
      callWith pos f first (backTo pos (starEach (e :: es) X.env)) (backToKw pos (keywordEach [] X.env))) := by rfl) : SE X (wc E) (.Call (.Attribute o m apos) (e :: es) [] pos) (dMeth cls m do_ dl F) := by
  obtain ⟨C, f, fd, hC, c, mt, b, ok⟩ := D.ex
  exact PE.imp (pe_meth (pl := pl) ho c mt ok hr b .nil (passes_call tk fun _ _ _ _ h => h) ha hst hpl ht) fun σ H Q q => meth_imp hC q
theorem se_meth0 {pl : Sem Bool} (D : DfM X.prog X.w X.K X.mg X.base cls m k ps F) (hr : Room k X.A) (tk : Takes X (wc E)) (ho : SE X (wc E) o do_)
    (ht : eval (.Call (.Attribute o m apos) [] [] pos) X.env = (do
      let ov ← eval o X.env
      standAt apos.atName
      let (f, first) ← holding [ov] (getMethod ov m pl)
      callWith pos f first (backTo pos (starEach [] X.env)) (backToKw pos (keywordEach [] X.env))) := by rfl) : SE X (wc E) (.Call (.Attribute o m apos) [] [] pos) (dMeth cls m do_ dNil F) := by
  obtain ⟨C, f, fd, hC, c, mt, b, ok⟩ := D.ex
  refine PE.imp (pe_meth0 (pl := pl) ho c mt ok hr b .nil (passes_call tk fun _ _ _ _ h => h) ht) fun σ H Q q => ?_
  have q2 := meth_imp hC q
  exact q2.mono fun x H1 ⟨a, dx, fs, h1, h2, h3, ρ, S, η, at0, p⟩ => ⟨a, dx, fs, h1, h2, h3, p ρ [] H1 Ext.refl at0.rs .nil⟩
/-- C(..) -/
def dMake (cls : Str) (dl : DL) (F : List AV → M AV) : DE := fun η S => (dl η S).bind fun as S1 => (F (.ref S1.length :: as) (S1 ++ [.ins cls []])).bind fun r S2 => match r with
  | .non => .ok (.ref S1.length) S2
  | _ => .bad
theorem make_imp {σ : L2.St} {H : Hp} {Q : VK} {C : Addr} (hC : X.mg cls = some (.ref C)) (q : tD X.K X.w X.mg (wc E) (dMake cls dl F) σ H Q) : tMake C (spD X.K X.w X.mg F) [] E (tDL X.K X.w X.mg (wc E) dl) σ H Q := by
  obtain ⟨ρ, S, η, at0, p⟩ := q
  refine (tG.bind at0 p).mono fun vs H1 ⟨ρ1, S1, as, _, at1, e1, r1, p1⟩ x dx nx nd ne => ?_
  have e2 : Ext X.K ρ1 S1.length H1 ρ1 S1.length (upd H1 dx (.own x)) := Ext.other nd
  have rs2 := at1.rs.other (o := .own x) nd
  have nx2 : upd H1 dx (.own x) x = none := by rw [upd_ne (Ne.symm ne)]; exact nx
  have e3 := Ext.fresh1 (K := X.K) (ρ := ρ1) (N := S1.length) (o := .ins C dx []) nx2
  have rs3 := rs2.laid (u := .ins C dx []) (o := .ins cls []) nx2 ⟨by decide, C, dx, [], hC, upd_same, .nil⟩
  have hl : (S1 ++ [AO.ins cls []]).length = S1.length + 1 := by rw [List.length_append]; rfl
  have e1' : rho ρ1 S1.length x S1.length = x := by unfold rho; rw [if_pos rfl]
  have rv := RV.ref (K := X.K) (w := X.w) (mg := X.mg) (ρ := rho ρ1 S1.length x) (N := (S1 ++ [AO.ins cls []]).length) (H := upd (upd H1 dx (.own x)) x (.ins C dx [])) S1.length (by rw [hl]; exact Nat.lt_succ_self _)
  rw [e1'] at rv
  refine ⟨rho ρ1 S1.length x, S1 ++ [.ins cls []], .ref S1.length :: as, rs3, ?_, ?_⟩
  · rw [List.append_nil]
    refine .cons rv ?_
    rw [hl]
    exact r1.mono (e2.trans e3).toUp
  · have p2 := p1.step (e2.trans e3)
    rw [← hl] at p2
    refine (Post.bind p2).mono (fun v H2 ⟨ρ2, S2, r, _, e4, rs4, r4, p4⟩ => ?_) fun _ _ _ h => h
    split at p4
    · cases r4
      refine ⟨rfl, p4.fin rs4 ?_⟩
      exact rv.mono e4.toUp
    · exact p4.elim
theorem se_make (D : DfI X.prog X.w X.K X.mg X.base cls k ps F) (hr : Room (k + 1) X.A) (tk : Takes X (wc E)) (hg : Gl X cls) (ha : SA X (wc E) (e :: es) dl) (hdb : (cls == ("__debug__" : Str)) = false := by decide)
    (he : starEach (e :: es) X.env = (false, eval e X.env) :: starEach es X.env := by rfl) (hpl : (backTo pos (starEach es X.env)).any (·.1) = false := by rfl) : SE X (wc E) (.Call (.Name cls p) (e :: es) [] pos) (dMake cls dl F) := by
  obtain ⟨C, f, fd, hC, M, b, ok⟩ := D.ex
  exact PE.imp (pe_make (E := E) M ok hr hg hC b .nil (passes_call tk fun _ _ _ _ h => h) ha hdb he hpl) fun σ H Q q => make_imp hC q
theorem se_make0 (D : DfI X.prog X.w X.K X.mg X.base cls k ps F) (hr : Room (k + 1) X.A) (tk : Takes X (wc E)) (hg : Gl X cls) (hdb : (cls == ("__debug__" : Str)) = false := by decide) : SE X (wc E) (.Call (.Name cls p) [] [] pos) (dMake cls dNil F) := by
  obtain ⟨C, f, fd, hC, M, b, ok⟩ := D.ex
  refine PE.imp (pe_make0 (E := E) M ok hr hg hC b .nil (passes_call tk fun _ _ _ _ h => h) hdb) fun σ H Q q => ?_
  obtain ⟨ρ, S, η, at0, p⟩ := make_imp hC q
  exact p ρ [] H Ext.refl at0.rs .nil
/-! ### fields -/
/-- the classes that have the field -/
structure HasF (K : PySem.W.Frag) (mg : Str → Option Value) (cs : List Str) (f : Str) : Prop where
  at_ : ∀ c, c ∈ cs → ∀ C, mg c = some (.ref C) → Cls K C ∧ NoAttr K C f
def aFld (cs : List Str) (f : Str) (o : AV) : M AV := fun S => match o with
  | .ref n => match S[n]? with
    | some (.ins c fs) => if c ∈ cs then (match fs.lookup f with | some v => .ok v S | none => .bad) else .bad
    | _ => .bad
  | _ => .bad
def dFld (cs : List Str) (f : Str) (do_ : DE) : DE := bind1 do_ (aFld cs f)
theorem se_fld {cs : List Str} (h : HasF X.K X.mg cs f) (ho : SE X W o do_) (hb : attributeBase o f X.env (eval o X.env) = eval o X.env := by rfl) : SE X W (.Attribute o f pos) (dFld cs f do_) :=
  PE.imp (pe_fld ho hb) fun σ H Q ⟨ρ, S, η, at0, p⟩ => (tG.bind at0 p).mono fun x H1 ⟨ρ1, S1, u, _, at1, e1, r1, p1⟩ => by
    unfold aFld at p1
    split at p1
    · split at p1
      · rename_i es
        split at p1
        · rename_i hc
          split at p1
          · rename_i v ev
            obtain ⟨h1, z, C', dx, us, hm, h2, h3⟩ := r1.obj at1.rs es
            obtain ⟨g2, g3⟩ := h.at_ _ hc _ hm
            rcases lookup_rp h3 f with ⟨k1, k2⟩ | ⟨v', y, k1, k2, k3⟩
            · rw [k2] at ev; cases ev
            · rw [k2] at ev; cases ev
              exact ⟨_, _, dx, us, v', h1, h2, g2, g3, k1, p1.fin at1.rs k3⟩
          · exact p1.elim
        · exact p1.elim
      · exact p1.elim
    · exact p1.elim
def putFA (f : Str) (v : AV) : List (Str × AV) → List (Str × AV)
  | [] => [(f, v)]
  | (g, x) :: r => if g = f then (g, v) :: r else (g, x) :: putFA f v r
theorem putFA_len (f : Str) (v : AV) : ∀ fs : List (Str × AV), (putFA f v fs).length ≤ fs.length + 1
  | [] => Nat.le_refl _
  | (g, x) :: r => by
    unfold putFA
    split
    · exact Nat.le_succ _
    · have := putFA_len f v r
      rw [List.length_cons, List.length_cons]
      omega
theorem putF_rp {K : PySem.W.Frag} {w : World} {mg : Str → Option Value} {ρ : Nat → Addr} {N : Nat} {H : Hp} {us : List (Str × V)} {fs : List (Str × AV)} (r : RPs K w mg ρ N H us fs) (f : Str) {v : V} {x : AV} (rv : RV K w mg ρ N H v x) : RPs K w mg ρ N H (putF f v us) (putFA f x fs) := by
  unfold RPs at r ⊢
  induction r with
  | nil => exact .cons ⟨rfl, rv⟩ .nil
  | @cons p q ps qs h t ih =>
    obtain ⟨p1, p2⟩ := p
    obtain ⟨q1, q2⟩ := q
    obtain ⟨h1, h2⟩ := h
    have h1' : p1 = q1 := h1
    subst h1'
    unfold putF putFA
    split
    · exact .cons ⟨rfl, rv⟩ t
    · exact .cons ⟨rfl, h2⟩ ih
/-- a field stored -/
def setFld (cs : List Str) (f : Str) (o v : AV) (S : Sto) : Option Sto := match o with
  | .ref n => match S[n]? with
    | some (.ins c fs) => if c ∈ cs ∧ fs.length < 900 then some (S.set n (.ins c (putFA f v fs))) else none
    | _ => none
  | _ => none
theorem setFld_ok {K : PySem.W.Frag} {w : World} {mg : Str → Option Value} {ρ : Nat → Addr} {S S' : Sto} {H : Hp} {x v : V} {o u : AV} {cs : List Str} (h : HasF K mg cs f) (rs : RS K w mg ρ H S) (ro : RV K w mg ρ S.length H x o) (rv : RV K w mg ρ S.length H v u) (e : setFld cs f o u S = some S') :
    ∃ a C dx fs, x = .ref a ∧ H a = some (.ins C dx fs) ∧ Cls K C ∧ NoAttr K C f ∧ fs.length < 1000 ∧ ∀ dx' fs', dx' = dx → fs' = fs → Ext K ρ S.length H ρ S'.length (upd H a (.ins C dx' (putF f v fs'))) ∧ RS K w mg ρ (upd H a (.ins C dx' (putF f v fs'))) S' := by
  unfold setFld at e
  split at e
  · split at e
    · rename_i es
      split at e
      · rename_i hc
        cases e
        obtain ⟨h1, z, C', dx, us, hm, h2, h3⟩ := ro.obj rs es
        have g1 := hm
        obtain ⟨g2, g3⟩ := h.at_ _ hc.1 _ hm
        have hn := (List.getElem?_eq_some_iff.mp es).1
        refine ⟨_, C', dx, us, h1, h2, g2, g3, by rw [h3.length]; exact z, fun dx' fs' e1 e2 => ?_⟩
        subst e1
        subst e2
        have f1 := Ext.put (K := K) (u' := .ins C' dx' (putF f v fs')) hn h2 own_ins
        refine ⟨by rw [List.length_set]; exact f1, rs.put hn h2 own_ins ⟨?_, C', dx', _, g1, upd_same, (putF_rp h3 f rv).mono f1.toUp⟩⟩
        have := putFA_len f u ‹List (Str × AV)›
        omega
      · cases e
    · cases e
  · cases e
def dFldPut (cs : List Str) (f : Str) (do_ dv : DE) : DS := fun η S => (dv η S).thenS fun v S1 => (do_ η S1).thenS fun o S2 => match setFld cs f o v S2 with
  | some S3 => .nx η S3
  | none => .bad
theorem ss_fld {cs : List Str} {dv : DE} {pos' : Pos} (h : HasF X.K X.mg cs f) (ho : SE X (wc E) o do_) (hv : SE X (wc E) e dv) (hs : swapsWith e (some (.Attribute o f pos')) pos.line X.env = pure false := by rfl) : SS X E (.Assign [.Attribute o f pos'] e pos) (dFldPut cs f do_ dv) :=
  PS.imp (ps_fld ho hv hs) fun D σ H ⟨ρ, S, η, at0, p⟩ => (tG.bindS at0 p).mono fun x H1 ⟨ρ1, S1, u, _, at1, e1, r1, p1⟩ => (tG.bindS at1 p1).mono fun y H2 ⟨ρ2, S2, v, _, at2, e2, r2, p2⟩ => by
    split at p2
    · rename_i S3 es
      obtain ⟨a, C, dx, fs, h1, h2, h3, h4, h5, h6⟩ := setFld_ok h at2.rs r2 (r1.mono e2.toUp) es
      obtain ⟨f1, f2⟩ := h6 dx fs rfl rfl
      exact ⟨a, C, dx, fs, h1, h2, h3, h4, h5, p2 ρ2 σ _ f1 ⟨f2, at2.re.mono f1.toUp⟩⟩
    · exact p2.elim
/-- o.f op= e, ints -/
def dFldAug (cs : List Str) (f : Str) (g : Int → Int → Int) (do_ dv : DE) : DS := fun η S => (do_ η S).thenS fun o S1 => match o with
  | .ref n => match S1[n]? with
    | some (.ins c fs) => if c ∈ cs then (match fs.lookup f with
      | some (.int i) => (dv η S1).thenS fun v S2 => match v with
        | .int j => match S2[n]? with
          | some (.ins c' fs') => if c' = c ∧ fs'.length < 900 then .nx η (S2.set n (.ins c' (putFA f (.int (g i j)) fs'))) else .bad
          | _ => .bad
        | _ => .bad
      | _ => .bad) else .bad
    | _ => .bad
  | _ => .bad
theorem ss_fldaug {cs : List Str} {dv : DE} {tpos : Pos} {op : Operator} {rd : V → V → Hp → VK → Prop} {g : Int → Int → Int} (h : HasF X.K X.mg cs f) (hop : InOp X op rd) (hg : ∀ i j H (Q : VK), Q (.int (g i j)) H → rd (.int i) (.int j) H Q) (ho : SE X (wc E) o do_) (hv : SE X (wc E) e dv) : SS X E (.AugAssign (.Attribute o f tpos) op e pos) (dFldAug cs f g do_ dv) :=
  PS.imp (ps_fldaug ho hv hop) fun D σ H ⟨ρ, S, η, at0, p⟩ => (tG.bindS at0 p).mono fun x H1 ⟨ρ1, S1, u, _, at1, e1, r1, p1⟩ => by
    split at p1
    · split at p1
      · rename_i es
        split at p1
        · rename_i hc
          split at p1
          · rename_i i ev
            obtain ⟨h1, z, C', dx, us, hm, h2, h3⟩ := r1.obj at1.rs es
            obtain ⟨g2, g3⟩ := h.at_ _ hc _ hm
            have hm0 := hm
            rcases lookup_rp h3 f with ⟨k1, k2⟩ | ⟨v', y, k1, k2, k3⟩
            · rw [k2] at ev; cases ev
            · rw [k2] at ev; cases ev
              cases k3
              refine ⟨_, _, dx, us, _, h1, h2, g2, g3, k1, (tG.bindS at1 p1).mono fun y H2 ⟨ρ2, S2, v, _, at2, e2, r2, p2⟩ => ?_⟩
              split at p2
              · cases r2
                rename_i j _ _
                refine hg i j H2 _ ?_
                split at p2
                · rename_i c' fs' es2
                  split at p2
                  · rename_i hc2
                    obtain ⟨q1, z2, C2, dx2, us2, hm2, q2, q3⟩ := (r1.mono e2.toUp).obj at2.rs es2
                    rw [hc2.1, hm0] at hm2
                    cases hm2
                    have hn := (List.getElem?_eq_some_iff.mp es2).1
                    have : V.ref _ = V.ref _ := h1.symm.trans q1
                    have hrr : ρ1 _ = ρ2 _ := V.ref.inj this
                    rw [hrr]
                    have f1 := Ext.put (K := X.K) (u' := .ins C' dx2 (putF f (.int (g i j)) us2)) hn q2 own_ins
                    refine ⟨dx2, us2, q2, by rw [q3.length]; omega, p2 ρ2 σ _ (by rw [List.length_set]; exact f1) ⟨?_, ?_⟩⟩
                    · refine at2.rs.put hn q2 own_ins ⟨?_, C', dx2, _, by rw [hc2.1]; exact hm0, upd_same, (putF_rp q3 f (.int _)).mono f1.toUp⟩
                      have := putFA_len f (.int (g i j)) fs'
                      omega
                    · rw [List.length_set]
                      exact at2.re.mono f1.toUp
                  · exact p2.elim
                · exact p2.elim
              · exact p2.elim
          · exact p1.elim
        · exact p1.elim
      · exact p1.elim
    · exact p1.elim
end
end Sim

set_option Elab.async false
set_option linter.all false
set_option maxRecDepth 100000
set_option maxHeartbeats 4000000
/-! S9: calls of what is built in. -/
namespace Sim
open PySem PySem.Spec PyProof.Rows L2
abbrev Rvs (X : Cx) := RVs X.K X.w X.mg
def OpN (X : Cx) (r : List V → Hp → VK → Prop) (g : List AV → M AV) : Prop := ∀ ρ H S xs us Q E, Rs X ρ H S → Rvs X ρ S.length H xs us → Pv X ρ S.length H Q E (g us S) → r xs H Q
section
variable {X : Cx} {W : WX} {x : Str} {p pos : Pos} {e : Expr} {es : List Expr} {dl : DL} {id T : String} {r : List V → Hp → VK → Prop} {g : List AV → M AV}
theorem impN (hg : OpN X r g) {σ : L2.St} {H : Hp} {Q : VK} (q : tD X.K X.w X.mg W (bind1 dl g) σ H Q) : tCB r (tDL X.K X.w X.mg W dl) σ H Q := by
  obtain ⟨ρ, S, η, at0, p⟩ := q
  exact (tG.bind at0 p).mono fun vs H1 ⟨ρ1, S1, us, _, at1, e1, r1, p1⟩ => hg ρ1 H1 S1 vs us Q _ at1.rs r1 p1
theorem se_callB (hc : CallR X (.builtin id) r) (hf : OpN X r g) (hg : Gl X x) (hm : X.mg x = none) (hv : bootBuiltins x = some (.builtin id)) (ha : SA X W (e :: es) dl) (hn : x ≠ "__name__" := by decide) (hdb : (x == ("__debug__" : Str)) = false := by decide)
    (he : starEach (e :: es) X.env = (false, eval e X.env) :: starEach es X.env := by rfl) (hpl : (backTo pos (starEach es X.env)).any (·.1) = false := by rfl) : SE X W (.Call (.Name x p) (e :: es) [] pos) (bind1 dl g) :=
  PE.imp (pe_callB hc hg hm hv ha hn hdb he hpl) fun σ H Q q => impN hf q
theorem se_callTy (hc : CallR X (.type T) r) (hf : OpN X r g) (hg : Gl X x) (hm : X.mg x = none) (hv : bootBuiltins x = some (.type T)) (ha : SA X W (e :: es) dl) (hn : x ≠ "__name__" := by decide) (hdb : (x == ("__debug__" : Str)) = false := by decide)
    (he : starEach (e :: es) X.env = (false, eval e X.env) :: starEach es X.env := by rfl) (hpl : (backTo pos (starEach es X.env)).any (·.1) = false := by rfl) : SE X W (.Call (.Name x p) (e :: es) [] pos) (bind1 dl g) :=
  PE.imp (pe_callTy hc hg hm hv ha hn hdb he hpl) fun σ H Q q => impN hf q

/-! ### len -/
def aLen (us : List AV) : M AV := fun S => match us with
  | [.str z] => .ok (.int z.length) S
  | [.tup xs] => .ok (.int xs.length) S
  | [.rl xs] => .ok (.int xs.length) S
  | [.ref n] => match S[n]? with
    | some (.lst xs) => .ok (.int xs.length) S
    | some (.dict kvs) => .ok (.int kvs.length) S
    | _ => .bad
  | _ => .bad
def rLen2 (K : PySem.W.Frag) : List V → Hp → VK → Prop := fun xs H Q => (∃ x n, xs = [x] ∧ LenV K x H n ∧ Q (.int n) H) ∨ ∃ a kvs, xs = [V.ref a] ∧ H a = some (.dK kvs) ∧ Q (.int kvs.length) H
theorem call_len2 : CallR X (.builtin "len") (rLen2 X.K) := call_len.or call_lenD
theorem len_ok : OpN X (rLen2 X.K) aLen := by
  intro ρ H S xs us Q E rs rx p
  unfold aLen at p
  split at p
  · cases rx with | cons a t => cases t; cases a with | str z h => exact .inl ⟨_, _, rfl, ⟨h.len, rfl⟩, p.int rs⟩
  · cases rx with | cons a t => cases t; cases a with | tup h r1 => exact .inl ⟨_, _, rfl, .inr ⟨_, h, rfl⟩, by rw [r1.length]; exact p.int rs⟩
  · cases rx with | cons a t => cases t; cases a with | rl h f => exact .inl ⟨_, _, rfl, .inl ⟨_, h, rfl⟩, by rw [List.length_map]; exact p.int rs⟩
  · split at p
    · rename_i es
      cases rx with
      | cons a t =>
        cases t
        obtain ⟨h1, z, vs, h2, h3⟩ := a.obj rs es
        subst h1
        exact .inl ⟨_, _, rfl, .inl ⟨vs, SqL.of h2, rfl⟩, by rw [h3.length]; exact p.int rs⟩
    · rename_i es
      cases rx with
      | cons a t =>
        cases t
        obtain ⟨h1, z, vs, h2, h3⟩ := a.obj rs es
        subst h1
        exact .inr ⟨_, _, rfl, h2, by rw [h3.length]; exact p.int rs⟩
    · exact p.elim
  · exact p.elim

/-! ### numbers -/
def aAbs (us : List AV) : M AV := fun S => match us with
  | [.int i] => .ok (.int (if i < 0 then -i else i)) S
  | _ => .bad
theorem abs_ok : OpN X (fun xs H Q => ∃ i, xs = [.int i] ∧ Q (.int (if i < 0 then -i else i)) H) aAbs := by
  intro ρ H S xs us Q E rs rx p
  unfold aAbs at p
  split at p
  · cases rx with | cons a t => cases t; cases a; exact ⟨_, rfl, p.int rs⟩
  · exact p.elim
def aMM (f : Int → Int → Int) (us : List AV) : M AV := fun S => match us with
  | [.int i, .int j] => .ok (.int (f i j)) S
  | _ => .bad
def aMax := aMM fun i j => if j > i then j else i
def aMin := aMM fun i j => if j < i then j else i
theorem mm_ok {f : Int → Int → Int} : OpN X (fun xs H Q => ∃ i j, xs = [.int i, .int j] ∧ Q (.int (f i j)) H) (aMM f) := by
  intro ρ H S xs us Q E rs rx p
  unfold aMM at p
  split at p
  · cases rx with | cons a t => cases t with | cons b t => cases t; cases a; cases b; exact ⟨_, _, rfl, p.int rs⟩
  · exact p.elim
def aInt (us : List AV) : M AV := fun S => match us with
  | [.int i] => .ok (.int i) S
  | [.bl k] => .ok (.int (if k then 1 else 0)) S
  | [.str z] => match PySem.intText? z with
    | some n => if z.length ≤ 640 then .ok (.int n) S else .bad
    | none => .bad
  | _ => .bad
def rInt2 : List V → Hp → VK → Prop := fun xs H Q => ((∃ i, xs = [.int i] ∧ Q (.int i) H) ∨ ∃ k, xs = [.bl k] ∧ Q (.int (if k then 1 else 0)) H) ∨ ∃ a n, xs = [.str a] ∧ PySem.intText? a = some n ∧ a.length ≤ 640 ∧ Q (.int n) H
theorem call_int2 : CallR X (.type "int") rInt2 := call_int1.or call_int_str
theorem int1_ok : OpN X rInt2 aInt := by
  intro ρ H S xs us Q E rs rx p
  unfold aInt at p
  split at p
  · cases rx with | cons a t => cases t; cases a; exact .inl (.inl ⟨_, rfl, p.int rs⟩)
  · cases rx with | cons a t => cases t; cases a; exact .inl (.inr ⟨_, rfl, p.int rs⟩)
  · cases rx with
    | cons a t =>
      cases t; cases a
      split at p
      · split at p
        · exact .inr ⟨_, _, rfl, ‹_›, ‹_›, p.int rs⟩
        · exact p.elim
      · exact p.elim
  · exact p.elim
def aBool (us : List AV) : M AV := fun S => match us with
  | [.int i] => .ok (.bl (i != 0)) S
  | [.bl k] => .ok (.bl k) S
  | _ => .bad
theorem bool_ok : OpN X (fun xs H Q => (∃ i, xs = [.int i] ∧ Q (.bl (i != 0)) H) ∨ ∃ k, xs = [.bl k] ∧ Q (.bl k) H) aBool := by
  intro ρ H S xs us Q E rs rx p
  unfold aBool at p
  split at p
  · cases rx with | cons a t => cases t; cases a; exact .inl ⟨_, rfl, p.bl rs⟩
  · cases rx with | cons a t => cases t; cases a; exact .inr ⟨_, rfl, p.bl rs⟩
  · exact p.elim
theorem dig_lt (n : Nat) : ∀ c ∈ (Nat.toDigits 10 n).map Char.toNat, c < 1114112 := by
  intro c hc
  obtain ⟨d, _, rfl⟩ := List.mem_map.mp hc
  have := d.valid
  unfold Char.toNat UInt32.isValidChar Nat.isValidChar at *
  omega
/-- str(i) of an int within bounds -/
def aStr (us : List AV) : M AV := fun S => match us with
  | [.int i] => if i.natAbs.log2 < 1920 ∧ okB (toString i) = true then .ok (.str (toString i)) S else .bad
  | [.str z] => .ok (.str z) S
  | _ => .bad
def rStr2 : List V → Hp → VK → Prop := fun xs H Q => (∃ i, xs = [.int i] ∧ i.natAbs.log2 < 1920 ∧ Q (.str (toString i)) H) ∨ ∃ a, xs = [.str a] ∧ Q (.str a) H
theorem call_str2 : CallR X (.type "str") rStr2 := call_str_int.or SkE.call_str_str
theorem str_ok : OpN X rStr2 aStr := by
  intro ρ H S xs us Q E rs rx p
  unfold aStr at p
  split at p
  · split at p
    · rename_i hc
      cases rx with | cons a t => cases t; cases a; exact .inl ⟨_, rfl, hc.1, p.fin rs (.str _ (okS_of hc.2))⟩
    · exact p.elim
  · cases rx with | cons a t => cases t; cases a with | str _ h => exact .inr ⟨_, rfl, p.fin rs (.str _ h)⟩
  · exact p.elim

/-! ### lists, tuples made of what can be walked -/
def seqA (S : Sto) : AV → Option (List AV)
  | .tup xs => some xs
  | .rl xs => some (xs.map .int)
  | .ref n => match S[n]? with
    | some (.lst xs) => some xs
    | _ => none
  | _ => none
/-- what stands for a list or a tuple -/
theorem seq_rv {K : PySem.W.Frag} {w : World} {mg : Str → Option Value} {ρ : Nat → Addr} {S : Sto} {H : Hp} {x : V} {u : AV} {xs : List AV} (rs : RS K w mg ρ H S) (r : RV K w mg ρ S.length H x u) (h : seqA S u = some xs) :
    ∃ a vs, x = .ref a ∧ RVs K w mg ρ S.length H vs xs ∧ ((SqL K H a vs) ∨ (SqT K H a vs)) := by
  unfold seqA at h
  split at h
  · cases h
    cases r with
    | tup h1 r1 => exact ⟨_, _, rfl, r1, .inr h1⟩
  · cases h
    cases r with
    | rl h1 f =>
      exact ⟨_, _, rfl, rvs_ints _, .inl h1⟩
  · split at h
    · rename_i es
      cases h
      obtain ⟨h1, z, vs, h2, h3⟩ := r.obj rs es
      exact ⟨_, vs, h1, h3, .inl (SqL.of h2)⟩
    · cases h
  · cases h
theorem RPs.keys {K : PySem.W.Frag} {w : World} {mg : Str → Option Value} {ρ : Nat → Addr} {N : Nat} {H : Hp} {us : List (Key × V)} {kvs : List (Key × AV)} (r : RPs K w mg ρ N H us kvs) : us.map (·.1) = kvs.map (·.1) := by
  unfold RPs at r
  induction r with
  | nil => rfl
  | cons h t ih => rw [List.map_cons, List.map_cons, h.1, ih]
def keyV : Key → AV
  | .inl i => .int i
  | .inr z => .str z
theorem rvs_keys {K : PySem.W.Frag} {w : World} {mg : Str → Option Value} {ρ : Nat → Addr} {N : Nat} {H : Hp} : ∀ ks : List Key, (∀ k ∈ ks, okK k = true) → RVs K w mg ρ N H (ks.map kV) (ks.map keyV)
  | [], _ => .nil
  | .inl i :: ks, h => .cons (.int i) (rvs_keys ks fun k hk => h k (List.mem_cons_of_mem _ hk))
  | .inr z :: ks, h => .cons (.str z (okS_of (h _ (List.mem_cons_self ..)))) (rvs_keys ks fun k hk => h k (List.mem_cons_of_mem _ hk))
/-- the keys of a dict as values -/
theorem rvs_dict {K : PySem.W.Frag} {w : World} {mg : Str → Option Value} {ρ : Nat → Addr} {N : Nat} {H : Hp} {us : List (Key × V)} {kvs : List (Key × AV)} (r : RPs K w mg ρ N H us kvs) (h : dOk kvs) : RVs K w mg ρ N H (us.map fun p => kV p.1) (kvs.map fun p => keyV p.1) := by
  have e1 : (us.map fun p => kV p.1) = (us.map (·.1)).map kV := by rw [List.map_map]; rfl
  have e2 : (kvs.map fun p => keyV p.1) = (kvs.map (·.1)).map keyV := by rw [List.map_map]; rfl
  rw [e1, e2, r.keys]
  refine rvs_keys _ fun k hk => ?_
  obtain ⟨p, hp, rfl⟩ := List.mem_map.mp hk
  exact h.2 p hp
def sgnA (c : Nat) : AV := .str ⟨#[c]⟩
/-! text as a list of its signs -/
def sgn (c : Nat) : V := .str ⟨#[c]⟩
theorem vals_signs : ∀ (cs : List Nat) (us : List Value), us.length = cs.length → (∀ (j : Nat) (v : Value), us[j]? = some v → ∃ (c : Nat) (u : Tok), cs[j]? = some c ∧ v = Value.str ⟨#[c]⟩ u) → Vals (cs.map sgn) us
  | [], [], _, _ => .nil
  | [], _ :: _, h, _ => by simp at h
  | _ :: _, [], h, _ => by simp at h
  | c :: cs, u :: us, h, q => by
    obtain ⟨c', t, e1, e2⟩ := q 0 u rfl
    rw [List.getElem?_cons_zero] at e1
    cases e1
    subst e2
    exact .cons ⟨_, rfl⟩ (vals_signs cs us (by simpa using h) fun j v e => by
      obtain ⟨c2, t2, e3, e4⟩ := q (j + 1) v (by rw [List.getElem?_cons_succ]; exact e)
      exact ⟨c2, t2, by rw [List.getElem?_cons_succ] at e3; exact e3, e4⟩)
theorem call_list_txt {X : Cx} (hc : X.calm = true) : CallR X (.type "list") (fun xs H Q => ∃ z : Str, xs = [.str z] ∧ z.length ≤ sizeLine ∧ ∀ l, H l = none → Q (.ref l) (upd H l (.lst ((z.cps.toList.map sgn))))) := by
  intro pins s σ H xs us Q I r h
  obtain ⟨z, rfl, hz, q⟩ := h
  obtain ⟨u, rfl, rx⟩ := vals1 r
  obtain ⟨t, rfl⟩ := rx
  refine PySem.call_list_str (I.ok.hd hc) z t (fun h' tk acc' c' kp e it => ?_) hz
  obtain ⟨hsz, hit⟩ := it
  refine ⟨.ref s.heap.objs.size, _, I.laid (t' := tk) kp (Nat.le_refl _) (show ObjOk X.prog X.w _ h' _ (.lst ((z.cps.toList.map sgn))) from ⟨?_, acc'.toList, c', ?_, e⟩), rfl, q _ (I.hok.fresh (Nat.le_refl _))⟩
  · rw [List.length_map, Array.length_toList]
    exact hz
  · refine vals_signs _ _ ?_ fun j v ej => ?_
    · rw [Array.length_toList, Array.length_toList]; exact hsz
    · rw [Array.getElem?_toList] at ej
      obtain ⟨c, u, e1, e2⟩ := hit j v ej
      refine ⟨c, u, ?_, e2⟩
      rw [Array.getElem?_toList]
      exact e1

theorem rvs_sgn {K : PySem.W.Frag} {w : World} {mg : Str → Option Value} {ρ : Nat → Addr} {N : Nat} {H : Hp} {z : Str} (h : okS z) : ∀ cs : List Nat, (∀ c ∈ cs, c ∈ z.cps.toList) → RVs K w mg ρ N H (cs.map sgn) (cs.map sgnA)
  | [], _ => .nil
  | c :: cs, q => .cons (.str _ (okS_one h (q c (List.mem_cons_self ..)))) (rvs_sgn h cs fun d hd => q d (List.mem_cons_of_mem _ hd))
/-! ### list, tuple, dict of values -/
def aList (us : List AV) : M AV := fun S => match us with
  | [u] => match dictAt S u with
    | some kvs => .ok (.ref S.length) (S ++ [.lst (kvs.map fun p => keyV p.1)])
    | none => match u with
      | .str z => .ok (.ref S.length) (S ++ [.lst (z.cps.toList.map sgnA)])
      | _ => match seqA S u with
        | some xs => if xs.length ≤ sizeLine then .ok (.ref S.length) (S ++ [.lst xs]) else .bad
        | none => .bad
  | _ => .bad
def rList3 (K : PySem.W.Frag) : List V → Hp → VK → Prop := fun xs H Q => (∃ p ys, xs = [.ref p] ∧ (SqL K H p ys ∨ SqT K H p ys) ∧ ∀ l, H l = none → Q (.ref l) (upd H l (.lst ys))) ∨
  (∃ z : Str, xs = [.str z] ∧ z.length ≤ sizeLine ∧ ∀ l, H l = none → Q (.ref l) (upd H l (.lst (z.cps.toList.map sgn)))) ∨
  ∃ (a : Addr) (kvs : List (Key × V)), xs = [.ref a] ∧ Rd H a (.dK kvs) ∧ ∀ p, H p = none → Q (.ref p) (upd H p (.lst (kvs.map fun kv => kV kv.1)))
theorem call_list3 {X : Cx} (hc : X.calm = true) : CallR X (.type "list") (rList3 X.K) := call_list_of.or ((call_list_txt hc).or (call_listD hc))
theorem list_ok {X : Cx} : OpN X (rList3 X.K) aList := by
  intro ρ H S xs us Q E rs rx p
  unfold aList at p
  split at p
  · rename_i u
    cases rx with
    | cons a t =>
    cases t
    split at p
    · rename_i kvs e
      obtain ⟨a, vs, rfl, h1, h2, h3⟩ := dict_rd rs a e
      refine .inr (.inr ⟨_, _, rfl, h1, fun p' n => p.newL rs n (by rw [List.length_map]; exact h3.1) (rvs_dict h2 h3)⟩)
    · split at p
      · cases a with
        | str z h =>
        exact .inr (.inl ⟨_, rfl, h.len, fun l n => p.newL rs n (by rw [List.length_map]; exact h.len) (rvs_sgn h _ fun _ q => q)⟩)
      · split at p
        · rename_i xs e
          split at p
          · rename_i hl
            obtain ⟨b, vs, rfl, h1, h2⟩ := seq_rv rs a e
            exact .inl ⟨_, _, rfl, h2, fun l n => p.newL rs n hl h1⟩
          · exact p.elim
        · exact p.elim
  · exact p.elim
def aTuple (us : List AV) : M AV := fun S => match us with
  | [.tup xs] => .ok (.tup xs) S
  | [u] => match seqA S u with
    | some xs => .ok (.tup xs) S
    | none => .bad
  | _ => .bad
theorem tuple_ok {X : Cx} : OpN X (fun xs H Q => ∃ p ys, xs = [.ref p] ∧ ((SqL X.K H p ys ∧ ∀ l, H l = none → Q (.ref l) (upd H l (.tup ys))) ∨ (SqT X.K H p ys ∧ Q (.ref p) H))) aTuple := by
  intro ρ H S xs us Q E rs rx p
  unfold aTuple at p
  split at p
  · cases rx with
    | cons a t =>
    cases t
    have a' := a
    cases a with
    | tup h1 r1 => exact ⟨_, _, rfl, .inr ⟨h1, p.fin rs a'⟩⟩
  · rename_i u nt
    cases rx with
    | cons a t =>
    cases t
    split at p
    · rename_i xs e
      obtain ⟨b, vs, rfl, h1, h2⟩ := seq_rv rs a e
      rcases h2 with h2 | h2
      · exact ⟨_, _, rfl, .inl ⟨h2, fun l n => p.tup rs n h1⟩⟩
      · exact ⟨_, _, rfl, .inr ⟨h2, p.fin rs (.tup h2 h1)⟩⟩
    · exact p.elim
  · exact p.elim
/-- dict(d): a copy -/
def aDict (us : List AV) : M AV := fun S => match us with
  | [u] => match dictAt S u with
    | some kvs => .ok (.ref S.length) (S ++ [.dict kvs])
    | none => .bad
  | _ => .bad
theorem dict_ok {X : Cx} : OpN X (fun xs H Q => ∃ (a : Addr) (kvs : List (Key × V)), xs = [.ref a] ∧ Rd H a (.dK kvs) ∧ ∀ p, H p = none → Q (.ref p) (upd H p (.dK kvs))) aDict := by
  intro ρ H S xs us Q E rs rx p
  unfold aDict at p
  split at p
  · cases rx with
    | cons a t =>
    cases t
    split at p
    · rename_i e
      obtain ⟨b, vs, rfl, h1, h2, h3⟩ := dict_rd rs a e
      exact ⟨_, _, rfl, h1, fun l n => p.newD rs n h3 h2⟩
    · exact p.elim
  · exact p.elim

/-! ### sorted -/
def leS (a b : Str) : Bool := !decide (b.cps.toList < a.cps.toList)
def insS (z : Str) : List Str → List Str
  | [] => [z]
  | y :: ys => if leS z y = true then z :: y :: ys else y :: insS z ys
def sortS : List Str → List Str
  | [] => []
  | z :: zs => insS z (sortS zs)
theorem ins_perm (z : Str) : ∀ ys : List Str, (insS z ys).Perm (z :: ys)
  | [] => .refl _
  | y :: ys => by
    unfold insS
    split
    · exact .refl _
    · exact ((ins_perm z ys).cons y).trans (.swap z y ys)
theorem sort_perm : ∀ zs : List Str, (sortS zs).Perm zs
  | [] => .refl _
  | z :: zs => (ins_perm z _).trans ((sort_perm zs).cons z)
theorem leS_tr {a b c : Str} (h : leS a b = true) (h' : leS b c = true) : leS a c = true := by
  unfold leS at *
  simp only [Bool.not_eq_true', decide_eq_false_iff_not, List.not_lt] at *
  exact List.le_trans h h'
theorem leS_tot (a b : Str) (h : leS a b = false) : leS b a = true := by
  unfold leS at *
  simp only [Bool.not_eq_false', Bool.not_eq_true', decide_eq_false_iff_not, decide_eq_true_eq] at *
  exact fun k => List.lt_irrefl _ (List.lt_trans h k)
theorem leS_anti {a b : Str} (h : leS a b = true) (h' : leS b a = true) : a = b := by
  unfold leS at *
  simp only [Bool.not_eq_true', decide_eq_false_iff_not, List.not_lt] at *
  have := List.le_antisymm h h'
  cases a; cases b
  simpa using this
theorem ins_sorted (z : Str) : ∀ ys : List Str, ys.Pairwise (fun a b => leS a b = true) → (insS z ys).Pairwise (fun a b => leS a b = true)
  | [], _ => .cons (fun _ h => by cases h) .nil
  | y :: ys, h => by
    unfold insS
    cases h with
    | cons h1 h2 =>
    split
    · rename_i hz
      refine .cons (fun b hb => ?_) (.cons h1 h2)
      rcases List.mem_cons.mp hb with rfl | hb
      · exact hz
      · exact leS_tr hz (h1 b hb)
    · rename_i hz
      have hz' := leS_tot z y (by simpa using hz)
      refine .cons (fun b hb => ?_) (ins_sorted z ys h2)
      rcases List.mem_cons.mp ((ins_perm z ys).mem_iff.mp hb) with rfl | hb
      · exact hz'
      · exact h1 b hb
theorem sort_sorted : ∀ zs : List Str, (sortS zs).Pairwise (fun a b => leS a b = true)
  | [] => .nil
  | z :: zs => ins_sorted z _ (sort_sorted zs)
theorem pairwise_of_sortedS : ∀ ys : List Str, sortedS ys = true → ys.Pairwise (fun a b => leS a b = true) := by
  have aux : ∀ (ys : List Str) (p : Str), risingS p ys = true → (p :: ys).Pairwise (fun a b => leS a b = true) := by
    intro ys
    induction ys with
    | nil => exact fun p _ => .cons (fun _ h => by cases h) .nil
    | cons y ys ih =>
      intro p h
      unfold risingS at h
      rw [Bool.and_eq_true] at h
      have h2 := ih y h.2
      have h1 : leS p y = true := by
        unfold leS
        rw [← ltCps_eq]
        exact h.1
      refine .cons (fun b hb => ?_) h2
      rcases List.mem_cons.mp hb with rfl | hb
      · exact h1
      · cases h2 with
        | cons h3 h4 => exact leS_tr h1 (h3 b hb)
  intro ys h
  cases ys with
  | nil => exact .nil
  | cons y ys => exact aux ys y h
theorem sort_uniq {xs ys : List Str} (h : ys.Perm xs) (h' : ys.Pairwise (fun a b => leS a b = true)) : ys = sortS xs :=
  List.Perm.eq_of_pairwise (fun _ _ _ _ => leS_anti) h' (sort_sorted xs) (h.trans (sort_perm xs).symm)
theorem sort_congr {xs ys : List Str} (h : xs.Perm ys) : sortS xs = sortS ys := sort_uniq ((sort_perm xs).trans h) (sort_sorted xs)
/-- a list of texts -/
def strsA : List AV → Option (List Str)
  | [] => some []
  | .str z :: xs => (strsA xs).map (z :: ·)
  | _ => none
def keysS : List (Key × AV) → Option (List Str)
  | [] => some []
  | (.inr z, _) :: xs => (keysS xs).map (z :: ·)
  | _ => none
theorem strs_rv {K : PySem.W.Frag} {w : World} {mg : Str → Option Value} {ρ : Nat → Addr} {N : Nat} {H : Hp} : ∀ {vs : List V} {xs : List AV} {zs : List Str}, RVs K w mg ρ N H vs xs → strsA xs = some zs → vs = zs.map V.str ∧ ∀ z ∈ zs, okS z
  | _, _, _, .nil, h => by cases h; exact ⟨rfl, fun _ h => by cases h⟩
  | _, _, zs, .cons (x := x) (xs := xs) a t, h => by
    cases a with
    | str z hk =>
      unfold strsA at h
      cases e : strsA xs with
      | none => rw [e] at h; cases h
      | some ys =>
        rw [e] at h
        cases h
        obtain ⟨h1, h2⟩ := strs_rv t e
        rw [h1]
        refine ⟨rfl, fun y hy => ?_⟩
        rcases List.mem_cons.mp hy with rfl | hy
        · exact hk
        · exact h2 y hy
    | _ => cases h
theorem rvs_strs' {K : PySem.W.Frag} {w : World} {mg : Str → Option Value} {ρ : Nat → Addr} {N : Nat} {H : Hp} : ∀ {zs : List Str}, (∀ z ∈ zs, okS z) → RVs K w mg ρ N H (zs.map V.str) (zs.map AV.str)
  | [], _ => .nil
  | z :: zs, h => .cons (.str z (h z (List.mem_cons_self ..))) (rvs_strs' fun y hy => h y (List.mem_cons_of_mem _ hy))
theorem keysS_eq : ∀ {kvs : List (Key × AV)} {zs : List Str}, keysS kvs = some zs → kvs.map (·.1) = zs.map Sum.inr
  | [], _, h => by cases h; rfl
  | (.inl i, x) :: kvs, zs, h => by cases h
  | (.inr z, x) :: kvs, zs, h => by
    unfold keysS at h
    cases e : keysS kvs with
    | none => rw [e] at h; cases h
    | some ys =>
      rw [e] at h
      cases h
      rw [List.map_cons, keysS_eq e]
      rfl
def seqLA (S : Sto) : AV → Option (List AV)
  | .rl xs => some (xs.map .int)
  | .ref n => match S[n]? with
    | some (.lst xs) => some xs
    | _ => none
  | _ => none
theorem seqL_rv {K : PySem.W.Frag} {w : World} {mg : Str → Option Value} {ρ : Nat → Addr} {S : Sto} {H : Hp} {x : V} {u : AV} {xs : List AV} (rs : RS K w mg ρ H S) (r : RV K w mg ρ S.length H x u) (h : seqLA S u = some xs) :
    ∃ a vs, x = .ref a ∧ RVs K w mg ρ S.length H vs xs ∧ SqL K H a vs := by
  unfold seqLA at h
  split at h
  · cases h
    cases r with
    | rl h1 f => exact ⟨_, _, rfl, rvs_ints _, h1⟩
  · split at h
    · rename_i es
      cases h
      obtain ⟨h1, z, vs, h2, h3⟩ := r.obj rs es
      exact ⟨_, vs, h1, h3, SqL.of h2⟩
    · cases h
  · cases h
def aSorted (us : List AV) : M AV := fun S => match us with
  | [u] => match dictAt S u with
    | some kvs => match keysS kvs with
      | some zs => if zs.length < 1000 then .ok (.ref S.length) (S ++ [.lst ((sortS zs).map .str)]) else .bad
      | none => .bad
    | none => match seqLA S u with
      | some xs => match strsA xs with
        | some zs => if zs.length < 1000 then .ok (.ref S.length) (S ++ [.lst ((sortS zs).map .str)]) else .bad
        | none => .bad
      | none => .bad
  | _ => .bad
theorem small1000 {n : Nat} (h : n < 1000) : n ≤ sizeLine := by rw [sizeLine_eq]; omega
/-- sorted(texts) of some length -/
def rSortedT (K : PySem.W.Frag) : List V → Hp → VK → Prop := fun vs H Q => ∃ (a : Addr) (xs : List Str), vs = [V.ref a] ∧ SqL K H a (xs.map V.str) ∧ xs.length < 1000 ∧
  ∀ (ys : List Str) (p : Addr), ys.Perm xs → sortedS ys = true → H p = none → Q (.ref p) (upd H p (.lst (ys.map V.str)))
theorem cr_sortedT {X : Cx} : CallR X (.builtin "sorted") (rSortedT X.K) := fun pins s σ H vs us Q I r ⟨a, xs, e0, hs, hl, q⟩ => by
  cases e0
  obtain ⟨its, rv, pl, _⟩ := I.list hs
  rw [Vals.ref1 r]
  have hn := rv.length
  rw [List.length_map] at hn
  refine sorted_strsAny pl.isList rv.strs (by rw [← hn]; exact small1000 hl) fun out ys h1 h2 h3 => ?_
  obtain ⟨ep, hat⟩ := sortedAll_at s.heap its out
  have hz : (ys.map V.str).length ≤ sizeLine := by rw [List.length_map, h2.length_eq]; exact small1000 hl
  exact ⟨.ref _, upd H (s.heap.objs.size + 1) (.lst (ys.map V.str)), I.laid (t' := s.toks) (fun _ _ => sortedAll_old) (Nat.le_succ _) ⟨hz, out.toList, ep, vals_of_strs h1, hat⟩, rfl, q ys _ h2 h3 (I.hok.fresh (Nat.le_succ _))⟩
/-- sorted(d) -/
def rSortedK : List V → Hp → VK → Prop := fun xs H Q => ∃ (a : Addr) (kvs : List (Key × V)) (ks : List Str), xs = [.ref a] ∧ Rd H a (.dK kvs) ∧ kvs.map (·.1) = ks.map Sum.inr ∧ ks.length < 1000 ∧
  ∀ ys p, ys.Perm ks → sortedS ys = true → H p = none → Q (.ref p) (upd H p (.lst (ys.map V.str)))
theorem cr_sortedK {X : Cx} (hc : X.calm = true) : CallR X (.builtin "sorted") rSortedK := fun pins s σ H xs us Q I r ⟨a, kvs, ks, e0, hd, hks, hl, q⟩ => by
  cases e0
  rw [Vals.ref1 r]
  obtain ⟨z, lo, vs, rel, dd⟩ := dk_rd I.hok hd
  obtain ⟨ep, hat⟩ := dd.dictAt
  have hkeys : vs.map (·.1) = ks.map Sum.inr := rel.keys.symm.trans hks
  have hn : vs.length = ks.length := by simpa using congrArg List.length hkeys
  refine Calls.call_function_entry kind_sorted plain_sorted entry_sorted (args_sorted1 _) ?_
  unfold Builtin.«sorted»
  refine wpAny_bind (m := checkCount "sorted" 1 1 _) (wpAny_pure (wpAny_bind (PySem.W.kdu_collect (A := X.A.in1) (PySem.W.kdl_dict (knd := mixKind X.prog X.w) (kvs := vs) (ep := ep) lo) (I.ok.hd hc) hat (by rw [hn]; exact small1000 hl) fun h' tk acc hk hacc => ?_)))
  have hal : acc.toList.length = ks.length := by rw [Array.length_toList, hacc.1, hn]
  have hS : StrsAre acc.toList ks := strs_at hal fun j v e => by
    obtain ⟨k, x, e1, e2⟩ := hacc.2 j v (by rw [← Array.getElem?_toList]; exact e)
    have e3 : (ks.map Sum.inr)[j]? = some k := by rw [← hkeys, List.getElem?_map, e1]; rfl
    rw [List.getElem?_map, Option.map_eq_some_iff] at e3
    obtain ⟨y, e4, e5⟩ := e3
    cases e5
    obtain ⟨t, ev⟩ := Value.isStrOf_shape (x := y) (v := v) e2
    exact ⟨y, t, e4, ev⟩
  refine wpAny_bind (wpAny_newList ?_ (by rw [hal]; exact small1000 hl))
  have hoL : (h'.push (seqObj "list" acc.toList.toArray 0)).get? h'.objs.size = some (seqObj "list" acc.toList.toArray 0) := Heap.get?_push_size _ rfl
  refine wpAny_bind (wpAny_holding (wpAny_call_entry slot_list_sort ⟨_, hoL, rfl⟩ entry_list_sort (list_sort_treeKAny (κ := PyProof.Rows.strKind) strKind_oneLt hoL hS.keysOf (fun v1 v2 rest e => keyKind_strs (by rw [← e]; exact hS)) (by rw [hal]; exact small1000 hl) fun st hp hs => ⟨_, rfl, ?_⟩) (args_list_sort _)))
  obtain ⟨ys, h1, h2, h3⟩ := sorted_out_str hS hp hs
  obtain ⟨e', he'⟩ := sortedHeap_at (vs := acc.toList) (out := (arrOf st).map (·.2)) hoL
  have hz : (ys.map V.str).length ≤ sizeLine := by rw [List.length_map, h2.length_eq]; exact small1000 hl
  have I1 : Inv X pins σ H { s with heap := h', toks := tk } := I.kept hk
  exact wpAny_pure ⟨_, rfl, .ref h'.objs.size, upd H h'.objs.size (.lst (ys.map V.str)), I1.laid (t' := tk) (fun b u e => (sortedHeap_old (Nat.ne_of_lt (Heap.lt_size e)) (by rw [size_push']; exact Nat.lt_succ_of_lt (Heap.lt_size e))).trans (Heap.get?_push_of_some _ e)) (Nat.le_refl _)
    (show ObjOk X.prog X.w _ _ _ (.lst (ys.map V.str)) from ⟨hz, ((arrOf st).map (·.2)).toList, e', vals_of_strs h1, by rw [Array.toArray_toList]; exact he'⟩), rfl, q ys _ h2 h3 (I1.hok.fresh (Nat.le_refl _))⟩
def rSorted2 (K : PySem.W.Frag) : List V → Hp → VK → Prop := fun xs H Q => rSortedT K xs H Q ∨ ∃ (a : Addr) (kvs : List (Key × V)) (ks : List Str), xs = [.ref a] ∧ Rd H a (.dK kvs) ∧ kvs.map (·.1) = ks.map Sum.inr ∧ ks.length < 1000 ∧
    ∀ ys p, ys.Perm ks → sortedS ys = true → H p = none → Q (.ref p) (upd H p (.lst (ys.map V.str)))
theorem call_sorted2 {X : Cx} (hc : X.calm = true) : CallR X (.builtin "sorted") (rSorted2 X.K) := cr_sortedT.or (cr_sortedK hc)
theorem sorted_ok {X : Cx} : OpN X (rSorted2 X.K) aSorted := by
  intro ρ H S xs us Q E rs rx p
  have fin : ∀ {zs : List Str} {ys : List Str} {q : Addr}, (∀ z ∈ zs, okS z) → zs.length < 1000 → Pv X ρ S.length H Q E (.ok (.ref S.length) (S ++ [.lst ((sortS zs).map .str)])) → ys.Perm zs → sortedS ys = true → H q = none → Q (.ref q) (upd H q (.lst (ys.map V.str))) := by
    intro zs ys q ok hl p hp hs n
    have e := sort_uniq hp (pairwise_of_sortedS ys hs)
    subst e
    exact p.newL rs n (by rw [List.length_map, hp.length_eq]; exact small1000 hl) (rvs_strs' fun z hz => ok z (hp.mem_iff.mp hz))
  unfold aSorted at p
  split at p
  · cases rx with
    | cons a t =>
    cases t
    split at p
    · rename_i e
      obtain ⟨b, vs, rfl, h1, h2, h3⟩ := dict_rd rs a e
      split at p
      · rename_i zs ez
        split at p
        · rename_i hl
          have ek := keysS_eq ez
          refine .inr ⟨_, _, zs, rfl, h1, by rw [h2.keys]; exact ek, hl, fun ys q hp hs n => fin (fun z hz => ?_) hl p hp hs n⟩
          have : Sum.inr z ∈ zs.map (Sum.inr (α := Int)) := List.mem_map.mpr ⟨z, hz, rfl⟩
          rw [← ek] at this
          obtain ⟨q, hq, eq⟩ := List.mem_map.mp this
          have := h3.2 q hq
          rw [eq] at this
          exact okS_of this
        · exact p.elim
      · exact p.elim
    · split at p
      · rename_i e
        split at p
        · rename_i zs ez
          split at p
          · rename_i hl
            obtain ⟨b, vs, rfl, h1, h2⟩ := seqL_rv rs a e
            obtain ⟨h3, h4⟩ := strs_rv h1 ez
            subst h3
            exact .inl ⟨_, zs, rfl, h2, hl, fun ys q hp hs n => fin h4 hl p hp hs n⟩
          · exact p.elim
        · exact p.elim
      · exact p.elim
  · exact p.elim
end
end Sim

set_option Elab.async false
set_option linter.all false
set_option maxRecDepth 100000
set_option maxHeartbeats 4000000
/-! S10: methods of texts. -/
namespace Sim
open PySem PySem.Spec PyProof.Rows L2 TL
def mkS (cs : List Nat) : Str := ⟨cs.toArray⟩
theorem tl_mkS (cs : List Nat) : tl (mkS cs) = cs := rfl
theorem mkS_tl (x : Str) : mkS (tl x) = x := mk_tl x
theorem len_mkS (cs : List Nat) : (mkS cs).length = cs.length := by rw [len_tl, tl_mkS]
theorem okS.part {x : Str} {p : List Nat} (h : okS x) (l : p.length ≤ (tl x).length) (s : ∀ c ∈ p, c ∈ tl x) : okS (mkS p) := h.sub (by rw [len_mkS, len_tl]; exact l) s
theorem spl_sub (S : List Nat) : ∀ (l : List Nat) (k : Nat) (acc p : List Nat), p ∈ spl S k acc l → p.length ≤ acc.length + l.length ∧ ∀ c ∈ p, c ∈ acc ∨ c ∈ l
  | [], k, acc, p, h => by
    rw [spl_nil] at h
    cases List.mem_singleton.mp h
    exact ⟨Nat.le_refl _, fun c hc => .inl hc⟩
  | c :: r, 0, acc, p, h => by
    by_cases e : pre S (c :: r) = true
    · rw [spl_hit e] at h
      rcases List.mem_cons.mp h with rfl | h
      · exact ⟨Nat.le_add_right _ _, fun c hc => .inl hc⟩
      · obtain ⟨h1, h2⟩ := spl_sub S r _ _ p h
        refine ⟨by simp at h1 ⊢; omega, fun d hd => ?_⟩
        rcases h2 d hd with h3 | h3
        · cases h3
        · exact .inr (List.mem_cons_of_mem _ h3)
    · rw [spl_miss (by simpa using e)] at h
      obtain ⟨h1, h2⟩ := spl_sub S r _ _ p h
      refine ⟨by simp at h1 ⊢; omega, fun d hd => ?_⟩
      rcases h2 d hd with h3 | h3
      · rcases List.mem_append.mp h3 with h3 | h3
        · exact .inl h3
        · cases List.mem_singleton.mp h3
          exact .inr (List.mem_cons_self ..)
      · exact .inr (List.mem_cons_of_mem _ h3)
  | c :: r, k + 1, acc, p, h => by
    have h' : p ∈ spl S k acc r := h
    obtain ⟨h1, h2⟩ := spl_sub S r k acc p h'
    exact ⟨by simp at h1 ⊢; omega, fun d hd => (h2 d hd).imp id (List.mem_cons_of_mem _)⟩
theorem par_sub (S : List Nat) : ∀ (l acc a b : List Nat), par S acc l = some (a, b) → (a.length ≤ acc.length + l.length ∧ ∀ c ∈ a, c ∈ acc ∨ c ∈ l) ∧ b.length ≤ l.length ∧ ∀ c ∈ b, c ∈ l
  | [], acc, a, b, h => by cases h
  | c :: r, acc, a, b, h => by
    by_cases e : pre S (c :: r) = true
    · rw [par_hit e] at h
      cases h
      exact ⟨⟨Nat.le_add_right _ _, fun c hc => .inl hc⟩, by rw [List.length_drop]; omega, fun d hd => List.mem_of_mem_drop hd⟩
    · rw [par_miss (by simpa using e)] at h
      obtain ⟨⟨h1, h2⟩, h3, h4⟩ := par_sub S r _ a b h
      refine ⟨⟨by simp at h1 ⊢; omega, fun d hd => ?_⟩, Nat.le_succ_of_le h3, fun d hd => List.mem_cons_of_mem _ (h4 d hd)⟩
      rcases h2 d hd with h3 | h3
      · rcases List.mem_append.mp h3 with h3 | h3
        · exact .inl h3
        · cases List.mem_singleton.mp h3
          exact .inr (List.mem_cons_self ..)
      · exact .inr (List.mem_cons_of_mem _ h3)
/-- a method's reading is to give, by the plain function -/
def OpM (X : Cx) (r : V → List V → Hp → VK → Prop) (f : AV → List AV → M AV) : Prop := ∀ ρ H S x u xs us Q E, Rs X ρ H S → Rv X ρ S.length H x u → Rvs X ρ S.length H xs us → Pv X ρ S.length H Q E (f u us S) → r x xs H Q
def isStr : AV → Bool
  | .str _ => true
  | _ => false
def dM0 (do_ : DE) (f : AV → List AV → M AV) : DE := fun η S => (do_ η S).bind fun o S1 => if isStr o = true then f o [] S1 else .bad
def dM1 (do_ da : DE) (f : AV → List AV → M AV) : DE := fun η S => (do_ η S).bind fun o S1 => if isStr o = true then (da η S1).bind fun a S2 => f o [a] S2 else .bad
section
variable {X : Cx} {W : WX} {o e : Expr} {do_ de : DE} {id : String} {name : Str} {apos pos : Pos} {r : V → List V → Hp → VK → Prop} {f : AV → List AV → M AV}
theorem isStr_rv {K : PySem.W.Frag} {w : World} {mg : Str → Option Value} {ρ : Nat → Addr} {N : Nat} {H : Hp} {x : V} {u : AV} (r : RV K w mg ρ N H x u) (h : isStr u = true) : ∃ a, x = .str a := by
  cases r <;> first | exact ⟨_, rfl⟩ | cases h
theorem se_m0 (slot : Slot "str" name id) (ty : typeOf (.builtin id) = pure (.type "method_descriptor")) (rule : MtR X id r) (hf : OpM X r f) (ho : SE X W o do_)
    (hbase : attributeBase o name X.env (eval o X.env) = eval o X.env := by rfl) (hline : (apos.endLine == pos.line) = true := by rfl) : SE X W (.Call (.Attribute o name apos) [] [] pos) (dM0 do_ f) :=
  PE.imp (pe_m0 slot ty rule ho hbase hline) fun σ H Q ⟨ρ, S, η, at0, p⟩ => (tG.bind at0 p).mono fun x H1 ⟨ρ1, S1, u, _, at1, e1, r1, p1⟩ => by
    split at p1
    · rename_i h
      exact ⟨isStr_rv r1 h, hf _ _ _ _ _ _ _ _ _ at1.rs r1 .nil p1⟩
    · exact p1.elim
theorem se_m1 (slot : Slot "str" name id) (ty : typeOf (.builtin id) = pure (.type "method_descriptor")) (rule : MtR X id r) (hf : OpM X r f) (ho : SE X W o do_) (he : SE X W e de)
    (hs : starEach [e] X.env = [(false, eval e X.env)] := by rfl) (hbase : attributeBase o name X.env (eval o X.env) = eval o X.env := by rfl) (hline : (apos.endLine == pos.line) = true := by rfl) :
    SE X W (.Call (.Attribute o name apos) [e] [] pos) (dM1 do_ de f) :=
  PE.imp (pe_m1 slot ty rule ho he hs hbase hline) fun σ H Q ⟨ρ, S, η, at0, p⟩ => (tG.bind at0 p).mono fun x H1 ⟨ρ1, S1, u, _, at1, e1, r1, p1⟩ => by
    split at p1
    · rename_i h
      refine ⟨isStr_rv r1 h, (tG.bind at1 p1).mono fun y H2 ⟨ρ2, S2, v, _, at2, e2, r2, p2⟩ => ?_⟩
      exact hf _ _ _ _ _ _ _ _ _ at2.rs (r1.mono e2.toUp) (.cons r2 .nil) p2
    · exact p1.elim
def aSplit (u : AV) (us : List AV) : M AV := fun S => match u, us with
  | .str a, [.str b] => if (b.length == 0) = false ∧ a.length + 2 ≤ sizeLine ∧ b.cps.all (· < 256) = true then .ok (.ref S.length) (S ++ [.lst ((spl (tl b) 0 [] (tl a)).map fun p => .str (mkS p))]) else .bad
  | _, _ => .bad
theorem ne_tl {b : Str} (h : (b.length == 0) = false) : tl b ≠ [] := by
  intro e
  rw [len_tl, e] at h
  cases h
theorem spl_len (S : List Nat) : ∀ (l : List Nat) (k : Nat) (acc : List Nat), (spl S k acc l).length ≤ l.length + 1
  | [], k, acc => by rw [spl_nil]; exact Nat.le_refl _
  | c :: r, 0, acc => by
    by_cases e : pre S (c :: r) = true
    · rw [spl_hit e]
      have := spl_len S r (S.length - 1) []
      simp only [List.length_cons]
      omega
    · rw [spl_miss (by simpa using e)]
      have := spl_len S r 0 (acc ++ [c])
      simp only [List.length_cons]
      omega
  | c :: r, k + 1, acc => by
    have := spl_len S r k acc
    have e : spl S (k + 1) acc (c :: r) = spl S k acc r := rfl
    rw [e]
    simp only [List.length_cons]
    omega
theorem split_ok : OpM X (fun x xs H Q => ∃ a b, x = .str a ∧ xs = [.str b] ∧ (b.length == 0) = false ∧ a.length + 2 ≤ sizeLine ∧ rNewStrs (Txt.split a b) H Q) aSplit := by
  intro ρ H S x u xs us Q E rs rx rxs p
  unfold aSplit at p
  split at p
  · split at p
    · rename_i a b hc
      cases rx with
      | str _ ha =>
      cases rxs with
      | cons hb t =>
      cases t
      cases hb with
      | str _ hb =>
      refine ⟨a, b, rfl, rfl, hc.1, hc.2.1, fun p' n => ?_⟩
      have key := split_spl a b (ne_tl hc.1) (kind_ok hc.2.2)
      have e : Txt.split a b = (spl (tl b) 0 [] (tl a)).map mkS := by
        refine map_tl_inj ?_
        rw [key, List.map_map]
        exact (List.map_id _).symm
      rw [e]
      have hl := spl_len (tl b) (tl a) 0 []
      rw [← len_tl] at hl
      refine p.newL rs n (by rw [List.length_map]; omega) ?_
      have := rvs_strs' (K := X.K) (w := X.w) (mg := X.mg) (ρ := ρ) (N := S.length) (H := H) (zs := (spl (tl b) 0 [] (tl a)).map mkS) fun z hz => by
        obtain ⟨q, hq, rfl⟩ := List.mem_map.mp hz
        obtain ⟨h1, h2⟩ := spl_sub _ _ _ _ _ hq
        exact ha.part (by simpa using h1) fun c hc => (h2 c hc).elim (fun z => by cases z) id
      rw [List.map_map (g := AV.str)] at this
      exact this
    · exact p.elim
  · exact p.elim
def aPart (u : AV) (us : List AV) : M AV := fun S => match u, us with
  | .str a, [.str b] => if (b.length == 0) = false then (match par (tl b) [] (tl a) with
    | some (x, y) => .ok (.tup [.str (mkS x), .str b, .str (mkS y)]) S
    | none => .ok (.tup [.str a, .str Str.empty, .str Str.empty]) S) else .bad
  | _, _ => .bad
theorem part_ok : OpM X (fun x xs H Q => ∃ a b, x = .str a ∧ xs = [.str b] ∧ (b.length == 0) = false ∧ a.length ≤ sizeLine ∧
    ∀ p, H p = none → Q (.ref p) (upd H p (.tup [.str (Txt.partition a b).1, .str (Txt.partition a b).2.1, .str (Txt.partition a b).2.2]))) aPart := by
  intro ρ H S x u xs us Q E rs rx rxs p
  unfold aPart at p
  split at p
  · split at p
    · rename_i a b hc
      cases rx with
      | str _ ha =>
      cases rxs with
      | cons hb t =>
      cases t
      cases hb with
      | str _ hb =>
      refine ⟨a, b, rfl, rfl, hc, ha.len, fun q n => ?_⟩
      rw [partition_par a b (ne_tl hc)]
      split at p
      · rename_i y z e
        rw [e]
        obtain ⟨⟨h1, h2⟩, h3, h4⟩ := par_sub _ _ _ _ _ e
        refine p.tup rs n (.cons (.str _ (ha.part (by simpa using h1) fun c hc => (h2 c hc).elim (fun z => by cases z) id)) (.cons (.str _ hb) (.cons (.str _ (ha.part h3 h4)) .nil)))
      · rename_i e
        rw [e]
        have he : okS Str.empty := ⟨Nat.zero_le _, fun c hc => by cases hc⟩
        exact p.tup rs n (.cons (.str _ ha) (.cons (.str _ he) (.cons (.str _ he) .nil)))
    · exact p.elim
  · exact p.elim
/-- a text's start -/
def aStarts (u : AV) (us : List AV) : M AV := fun S => match u, us with
  | .str a, [.str b] => .ok (.bl (pre (tl b) (tl a))) S
  | _, _ => .bad
theorem subAt_pre (a b : Str) : Builtin.Str.subAt a b 0 = pre (tl b) (tl a) := by
  rw [PySem.StrLaws.subAt_eq, List.drop_zero, len_tl]
  rfl
theorem pre_len {S l : List Nat} (h : pre S l = true) : S.length ≤ l.length := by
  unfold pre at h
  have e : l.take S.length = S := by simpa using h
  rw [← e, List.length_take]
  omega
theorem starts_pre (a b : Str) : Txt.startswith a b = pre (tl b) (tl a) := by
  unfold Txt.startswith
  rw [subAt_pre]
  cases h : pre (tl b) (tl a) with
  | false => rw [Bool.and_false]
  | true =>
    have := pre_len h
    rw [← len_tl, ← len_tl] at this
    rw [Bool.and_true]
    exact decide_eq_true (by omega)
theorem rmpre (a b : Str) : Txt.removeprefix a b = if pre (tl b) (tl a) = true then mkS ((tl a).drop b.length) else a := by
  unfold Txt.removeprefix
  rw [subAt_pre]
  split
  · rename_i h
    have hl := pre_len h
    rw [← len_tl, ← len_tl] at hl
    unfold Txt.affix
    simp only
    split
    · rename_i h0
      have h0' : a.length - b.length = a.length := by simpa using h0
      have hz : b.length = 0 ∨ a.length = 0 := by omega
      rcases hz with hz | hz
      · rw [hz, List.drop_zero, mkS_tl]
      · have : tl a = [] := by
          have := len_tl a
          rw [hz] at this
          exact List.eq_nil_of_length_eq_zero this.symm
        rw [this, List.drop_nil]
        exact TL.ext_tl (by rw [this]; rfl)
    · exact TL.ext_tl (by rw [tl_strSub_end, tl_mkS])
  · rfl
theorem starts_ok : OpM X (fun x xs H Q => ∃ a b, x = .str a ∧ xs = [.str b] ∧ Q (.bl (Txt.startswith a b)) H) aStarts := by
  intro ρ H S x u xs us Q E rs rx rxs p
  unfold aStarts at p
  split at p
  · cases rx
    cases rxs with
    | cons hb t =>
    cases t
    cases hb
    exact ⟨_, _, rfl, rfl, by rw [starts_pre]; exact p.bl rs⟩
  · exact p.elim
def aRmPre (u : AV) (us : List AV) : M AV := fun S => match u, us with
  | .str a, [.str b] => .ok (.str (if pre (tl b) (tl a) = true then mkS ((tl a).drop b.length) else a)) S
  | _, _ => .bad
theorem rmpre_ok : OpM X (fun x xs H Q => ∃ a b, x = .str a ∧ xs = [.str b] ∧ a.length ≤ sizeLine ∧ Q (.str (Txt.removeprefix a b)) H) aRmPre := by
  intro ρ H S x u xs us Q E rs rx rxs p
  unfold aRmPre at p
  split at p
  · cases rx with
    | str a ha =>
    cases rxs with
    | cons hb t =>
    cases t
    cases hb with
    | str b hb =>
    refine ⟨_, _, rfl, rfl, ha.len, ?_⟩
    rw [rmpre]
    refine p.fin rs (.str _ ?_)
    split
    · exact ha.part (by rw [List.length_drop]; omega) fun c hc => List.mem_of_mem_drop hc
    · exact ha
  · exact p.elim
/-- join of a list, a tuple -/
def joinOk (a : Str) (ys : List Str) : Bool := decide ((ys.map (·.length)).sum + ys.length * a.length ≤ 16777216)
def aJoin (u : AV) (us : List AV) : M AV := fun S => match u, us with
  | .str a, [v] => match seqA S v with
    | some xs => match strsA xs with
      | some ys => if joinOk a ys = true then .ok (.str (mkS (joinL (tl a) (ys.map tl)))) S else .bad
      | none => .bad
    | none => .bad
  | _, _ => .bad
theorem joinL_mem (S : List Nat) : ∀ (ps : List (List Nat)) (c : Nat), c ∈ joinL S ps → c ∈ S ∨ ∃ p ∈ ps, c ∈ p
  | [], c, h => by cases h
  | [p], c, h => .inr ⟨p, List.mem_cons_self .., h⟩
  | p :: q :: r, c, h => by
    have h' : c ∈ p ++ (S ++ joinL S (q :: r)) := h
    rcases List.mem_append.mp h' with h' | h'
    · exact .inr ⟨p, List.mem_cons_self .., h'⟩
    · rcases List.mem_append.mp h' with h' | h'
      · exact .inl h'
      · rcases joinL_mem S (q :: r) c h' with h' | ⟨x, hx, h'⟩
        · exact .inl h'
        · exact .inr ⟨x, List.mem_cons_of_mem _ hx, h'⟩
theorem joinL_len (S : List Nat) : ∀ ps : List (List Nat), (joinL S ps).length ≤ (ps.map List.length).sum + ps.length * S.length
  | [] => Nat.zero_le _
  | [p] => by
    show p.length ≤ (p.length + 0) + 1 * S.length
    omega
  | p :: q :: r => by
    have h := joinL_len S (q :: r)
    show (p ++ (S ++ joinL S (q :: r))).length ≤ _
    rw [List.length_append, List.length_append, List.map_cons, List.sum_cons, List.length_cons (a := p), Nat.succ_mul]
    omega
theorem join_ok : OpM X (fun x xs H Q => ∃ a p, ∃ ys : List Str, x = .str a ∧ xs = [.ref p] ∧ (SqL X.K H p (ys.map V.str) ∨ SqT X.K H p (ys.map V.str)) ∧
    (ys.map (·.length)).sum + ys.length * a.length ≤ 16777216 ∧ Q (.str (Txt.join a ys)) H) aJoin := by
  intro ρ H S x u xs us Q E rs rx rxs p
  unfold aJoin at p
  split at p
  · cases rx with
    | str _ ha =>
    rename_i a _
    cases rxs with
    | cons hb t =>
    cases t
    split at p
    · rename_i xs e1
      split at p
      · rename_i ys e2
        split at p
        · rename_i hj
          obtain ⟨b, vs, rfl, h1, h2⟩ := seq_rv rs hb e1
          obtain ⟨h3, h4⟩ := strs_rv h1 e2
          subst h3
          have hj' : (ys.map (·.length)).sum + ys.length * a.length ≤ 16777216 := of_decide_eq_true hj
          refine ⟨_, _, ys, rfl, rfl, h2, hj', ?_⟩
          have e : Txt.join a ys = mkS (joinL (tl a) (ys.map tl)) := TL.ext_tl (by rw [join_eq, tl_join, tl_mkS])
          rw [e]
          refine p.fin rs (.str _ ⟨?_, fun c hc => ?_⟩)
          · rw [len_mkS, sizeLine_eq]
            have := joinL_len (tl a) (ys.map tl)
            rw [List.map_map, List.length_map] at this
            have e3 : ys.map (List.length ∘ tl) = ys.map (·.length) := List.map_congr_left fun z _ => (len_tl z).symm
            rw [e3, ← len_tl] at this
            omega
          · rcases joinL_mem _ _ _ hc with hc | ⟨q, hq, hc⟩
            · exact ha.all c hc
            · obtain ⟨z, hz, rfl⟩ := List.mem_map.mp hq
              exact (h4 z hz).all c hc
        · exact p.elim
      · exact p.elim
    · exact p.elim
  · exact p.elim
theorem se_split (ho : SE X W o do_) (he : SE X W e de) (hs : starEach [e] X.env = [(false, eval e X.env)] := by rfl) (hbase : attributeBase o "split" X.env (eval o X.env) = eval o X.env := by rfl) (hline : (apos.endLine == pos.line) = true := by rfl) : SE X W (.Call (.Attribute o "split" apos) [e] [] pos) (dM1 do_ de aSplit) :=
  se_m1 PySem.F.slot_str_split PySem.F.type_str_split mt_split split_ok ho he hs hbase hline
theorem se_part (ho : SE X W o do_) (he : SE X W e de) (hs : starEach [e] X.env = [(false, eval e X.env)] := by rfl) (hbase : attributeBase o "partition" X.env (eval o X.env) = eval o X.env := by rfl) (hline : (apos.endLine == pos.line) = true := by rfl) : SE X W (.Call (.Attribute o "partition" apos) [e] [] pos) (dM1 do_ de aPart) :=
  se_m1 PySem.F.slot_str_partition PySem.F.type_str_partition mt_partition part_ok ho he hs hbase hline
theorem se_join (ho : SE X W o do_) (he : SE X W e de) (hs : starEach [e] X.env = [(false, eval e X.env)] := by rfl) (hbase : attributeBase o "join" X.env (eval o X.env) = eval o X.env := by rfl) (hline : (apos.endLine == pos.line) = true := by rfl) : SE X W (.Call (.Attribute o "join" apos) [e] [] pos) (dM1 do_ de aJoin) :=
  se_m1 PySem.F.slot_str_join PySem.F.type_str_join mt_join join_ok ho he hs hbase hline
theorem se_starts (ho : SE X W o do_) (he : SE X W e de) (hs : starEach [e] X.env = [(false, eval e X.env)] := by rfl) (hbase : attributeBase o "startswith" X.env (eval o X.env) = eval o X.env := by rfl) (hline : (apos.endLine == pos.line) = true := by rfl) : SE X W (.Call (.Attribute o "startswith" apos) [e] [] pos) (dM1 do_ de aStarts) :=
  se_m1 PySem.F.slot_str_startswith PySem.F.type_str_startswith mt_startswith starts_ok ho he hs hbase hline
theorem se_rmpre (ho : SE X W o do_) (he : SE X W e de) (hs : starEach [e] X.env = [(false, eval e X.env)] := by rfl) (hbase : attributeBase o "removeprefix" X.env (eval o X.env) = eval o X.env := by rfl) (hline : (apos.endLine == pos.line) = true := by rfl) : SE X W (.Call (.Attribute o "removeprefix" apos) [e] [] pos) (dM1 do_ de aRmPre) :=
  se_m1 PySem.F.slot_str_removeprefix PySem.F.type_str_removeprefix mt_removeprefix rmpre_ok ho he hs hbase hline
end
end Sim

set_option Elab.async false
set_option linter.all false
set_option maxRecDepth 100000
set_option maxHeartbeats 4000000
/-! S11: methods of lists and dicts. -/
namespace Sim
open PySem PySem.Spec PyProof.Rows L2
section
variable {K : PySem.W.Frag} {w : World} {mg : Str → Option Value} {ρ : Nat → Addr} {S : Sto} {H : Hp} {Q : VK} {E : XK} {n : Nat}
theorem Post.setO {o : AO} {v : AV} {x : V} {u u' : HO} (p : PostV K w mg ρ S.length H Q E (.ok v (S.set n o))) (rs : RS K w mg ρ H S) (hn : n < S.length) (h : H (ρ n) = some u) (ow : Own u) (r : RO K w mg ρ S.length (upd H (ρ n) u') (ρ n) o)
    (rx : RV K w mg ρ S.length H x v) : Q x (upd H (ρ n) u') :=
  p ρ x _ (by rw [List.length_set]; exact Ext.put hn h ow) (rs.put hn h ow r) (by rw [List.length_set]; exact rx.mono (Ext.put (u' := u') hn h ow).toUp)
theorem Post.setL {ys : List AV} {us vs : List V} {v : AV} {x : V} (p : PostV K w mg ρ S.length H Q E (.ok v (S.set n (.lst ys)))) (rs : RS K w mg ρ H S) (hn : n < S.length) (h : H (ρ n) = some (.lst vs)) (hl : ys.length ≤ sizeLine) (r : RVs K w mg ρ S.length H us ys)
    (rx : RV K w mg ρ S.length H x v) : Q x (upd H (ρ n) (.lst us)) :=
  p.setO rs hn h own_lst ⟨hl, us, upd_same, r.mono (Ext.put (u' := .lst us) hn h own_lst).toUp⟩ rx
theorem Post.setD {ys : List (Key × AV)} {us vs : List (Key × V)} {v : AV} {x : V} (p : PostV K w mg ρ S.length H Q E (.ok v (S.set n (.dict ys)))) (rs : RS K w mg ρ H S) (hn : n < S.length) (h : H (ρ n) = some (.dK vs)) (hl : dOk ys) (r : RPs K w mg ρ S.length H us ys)
    (rx : RV K w mg ρ S.length H x v) : Q x (upd H (ρ n) (.dK us)) :=
  p.setO rs hn h own_dK ⟨hl, us, upd_same, r.mono (Ext.put (u' := .dK us) hn h own_dK).toUp⟩ rx
end
/-- the object is a list of the store -/
def lstAt (S : Sto) : AV → Option (Nat × List AV)
  | .ref n => match S[n]? with
    | some (.lst xs) => some (n, xs)
    | _ => none
  | _ => none
theorem lst_rv {K : PySem.W.Frag} {w : World} {mg : Str → Option Value} {ρ : Nat → Addr} {S : Sto} {H : Hp} {x : V} {u : AV} {n : Nat} {xs : List AV} (rs : RS K w mg ρ H S) (r : RV K w mg ρ S.length H x u) (h : lstAt S u = some (n, xs)) :
    x = .ref (ρ n) ∧ n < S.length ∧ xs.length ≤ sizeLine ∧ ∃ vs, H (ρ n) = some (.lst vs) ∧ RVs K w mg ρ S.length H vs xs := by
  unfold lstAt at h
  split at h
  · split at h
    · rename_i es
      cases h
      obtain ⟨h1, h2, vs, h3, h4⟩ := r.obj rs es
      exact ⟨h1, (List.getElem?_eq_some_iff.mp es).1, h2, vs, h3, h4⟩
    · cases h
  · cases h
def dML (do_ : DE) (dl : DL) (f : AV → List AV → M AV) : DE := fun η S => (do_ η S).bind fun o S1 => if (lstAt S1 o).isSome = true then (dl η S1).bind fun as S2 => f o as S2 else .bad
section
variable {X : Cx} {W : WX} {o e : Expr} {es : List Expr} {do_ de : DE} {dl : DL} {id : String} {name : Str} {apos cpos : Pos} {r : V → List V → Hp → VK → Prop} {f : AV → List AV → M AV}
theorem bml_imp (hf : OpM X r f) {σ : L2.St} {H : Hp} {Q : VK} (q : tD X.K X.w X.mg W (dML do_ dl f) σ H Q) : tBM X.K "list" r (tD X.K X.w X.mg W do_) (tDL X.K X.w X.mg W dl) σ H Q := by
  obtain ⟨ρ, S, η, at0, p⟩ := q
  refine (tG.bind at0 p).mono fun x H1 ⟨ρ1, S1, u, _, at1, e1, r1, p1⟩ => ?_
  split at p1
  · rename_i h
    cases h0 : lstAt S1 u with
    | none => rw [h0] at h; cases h
    | some q =>
      obtain ⟨n, xs⟩ := q
      obtain ⟨h1, h2, h3, vs, h4, h5⟩ := lst_rv at1.rs r1 h0
      subst h1
      refine ⟨.inl ⟨rfl, vs, SqL.of h4⟩, (tG.bind at1 p1).mono fun ys H2 ⟨ρ2, S2, us, _, at2, e2, r2, p2⟩ => ?_⟩
      exact hf ρ2 H2 S2 _ u ys us Q _ at2.rs (r1.mono e2.toUp) r2 p2
  · exact p1.elim
theorem se_ml (slot : Slot "list" name id) (hty : typeOf (.builtin id) = pure (.type "method_descriptor")) (hm : MtR X id r) (hf : OpM X r f) (ho : SE X W o do_) (ha : SA X W (e :: es) dl)
    (hbase : attributeBase o name X.env (eval o X.env) = eval o X.env := by rfl)
    (hfew : ((backTo cpos (starEach (e :: es) X.env)).all (fun x => !x.1) && (backToKw cpos (keywordEach [] X.env)).all (fun x => x.1.isSome)
      && decide ((e :: es).length + ([] : List Keyword).length + (if ([] : List Keyword).isEmpty then 0 else 1) < 30)) = true := by rfl)
    (hline : (apos.endLine == cpos.line) = true := by rfl) (hs : starEach (e :: es) X.env = (false, eval e X.env) :: starEach es X.env := by rfl) (hplain : (backTo cpos (starEach es X.env)).any (·.1) = false := by rfl) :
    SE X W (.Call (.Attribute o name apos) (e :: es) [] cpos) (dML do_ dl f) :=
  PE.imp (pe_bm PySem.F.plainAttrs_list slot hty hm ho ha hbase hfew hline hs hplain) fun σ H Q q => bml_imp hf q
theorem se_ml0 (slot : Slot "list" name id) (hty : typeOf (.builtin id) = pure (.type "method_descriptor")) (hm : MtR X id r) (hf : OpM X r f) (ho : SE X W o do_)
    (hbase : attributeBase o name X.env (eval o X.env) = eval o X.env := by rfl) (hline : (apos.endLine == cpos.line) = true := by rfl) :
    SE X W (.Call (.Attribute o name apos) [] [] cpos) (dML do_ dNil f) :=
  PE.imp (pe_bm0 PySem.F.plainAttrs_list slot hty hm ho hbase hline) fun σ H Q q => (bml_imp hf q).mono fun x H1 ⟨h1, h2⟩ => by
    obtain ⟨ρ, S, η, at0, p⟩ := h2
    exact ⟨h1, p ρ [] H1 Ext.refl at0.rs .nil⟩
def aAppend (u : AV) (us : List AV) : M AV := fun S => match us with
  | [v] => match lstAt S u with
    | some (n, xs) => if xs.length < sizeLine then .ok .non (S.set n (.lst (xs ++ [v]))) else .bad
    | none => .bad
  | _ => .bad
theorem append_ok : OpM X rAppend aAppend := by
  intro ρ H S x u xs us Q E rs rx rxs p
  unfold aAppend at p
  split at p
  · cases rxs with
    | cons rv t =>
    cases t
    split at p
    · rename_i e
      split at p
      · rename_i hl
        obtain ⟨rfl, h2, h3, vs, h4, h5⟩ := lst_rv rs rx e
        refine ⟨_, _, _, rfl, rfl, h4, by rw [h5.length]; exact hl, p.setL rs h2 h4 ?_ (h5.append (.cons rv .nil)) .non⟩
        rw [List.length_append]
        exact hl
      · exact p.elim
    · exact p.elim
  · exact p.elim
def aExtend (u : AV) (us : List AV) : M AV := fun S => match us with
  | [v] => match lstAt S u, lstAt S v with
    | some (n, xs), some (_, ys) => if xs.length + ys.length ≤ sizeLine then .ok .non (S.set n (.lst (xs ++ ys))) else .bad
    | _, _ => .bad
  | _ => .bad
theorem extend_ok : OpM X rExtend aExtend := by
  intro ρ H S x u xs us Q E rs rx rxs p
  unfold aExtend at p
  split at p
  · cases rxs with
    | cons rv t =>
    cases t
    split at p
    · rename_i e e'
      split at p
      · rename_i hl
        obtain ⟨rfl, h2, h3, vs, h4, h5⟩ := lst_rv rs rx e
        obtain ⟨rfl, g2, g3, ws, g4, g5⟩ := lst_rv rs rv e'
        refine ⟨_, _, _, _, rfl, rfl, h4, g4, by rw [h5.length, g5.length]; exact hl, p.setL rs h2 h4 ?_ (h5.append g5) .non⟩
        rw [List.length_append]
        exact hl
      · exact p.elim
    · exact p.elim
  · exact p.elim
def aReverse (u : AV) (us : List AV) : M AV := fun S => match us with
  | [] => match lstAt S u with
    | some (n, xs) => .ok .non (S.set n (.lst xs.reverse))
    | none => .bad
  | _ => .bad
theorem reverse_ok : OpM X rReverse aReverse := by
  intro ρ H S x u xs us Q E rs rx rxs p
  unfold aReverse at p
  split at p
  · cases rxs
    split at p
    · rename_i e
      obtain ⟨rfl, h2, h3, vs, h4, h5⟩ := lst_rv rs rx e
      exact ⟨_, _, rfl, rfl, h4, p.setL rs h2 h4 (by rw [List.length_reverse]; exact h3) h5.reverse .non⟩
    · exact p.elim
  · exact p.elim
def aClear (u : AV) (us : List AV) : M AV := fun S => match us with
  | [] => match lstAt S u with
    | some (n, xs) => .ok .non (S.set n (.lst []))
    | none => .bad
  | _ => .bad
theorem clear_ok : OpM X rClear aClear := by
  intro ρ H S x u xs us Q E rs rx rxs p
  unfold aClear at p
  split at p
  · cases rxs
    split at p
    · rename_i e
      obtain ⟨rfl, h2, h3, vs, h4, h5⟩ := lst_rv rs rx e
      exact ⟨_, _, rfl, rfl, h4, p.setL rs h2 h4 (Nat.zero_le _) .nil .non⟩
    · exact p.elim
  · exact p.elim
/-- xs.pop() -/
def aPop0 (u : AV) (us : List AV) : M AV := fun S => match us with
  | [] => match lstAt S u with
    | some (n, xs) => match xs[xs.length - 1]? with
      | some v => .ok v (S.set n (.lst xs.dropLast))
      | none => .bad
    | none => .bad
  | _ => .bad
theorem RVs.dropLast {K : PySem.W.Frag} {w : World} {mg : Str → Option Value} {ρ : Nat → Addr} {N : Nat} {H : Hp} {vs : List V} {xs : List AV} (h : RVs K w mg ρ N H vs xs) : RVs K w mg ρ N H vs.dropLast xs.dropLast := by
  rw [List.dropLast_eq_take, List.dropLast_eq_take, h.length]
  exact h.take _
theorem pop0_ok : OpM X rPop aPop0 := by
  intro ρ H S x u xs us Q E rs rx rxs p
  unfold aPop0 at p
  split at p
  · cases rxs
    split at p
    · rename_i e
      split at p
      · rename_i v ev
        obtain ⟨rfl, h2, h3, vs, h4, h5⟩ := lst_rv rs rx e
        obtain ⟨y, g1, g2⟩ := h5.get ev
        exact ⟨_, _, y, rfl, rfl, h4, by rw [h5.length]; exact g1, p.setL rs h2 h4 (by rw [List.length_dropLast]; omega) h5.dropLast g2⟩
      · exact p.elim
    · exact p.elim
  · exact p.elim
/-- xs.pop(i) -/
def aPopL (u : AV) (us : List AV) : M AV := fun S => match us with
  | [.int i] => match lstAt S u with
    | some (n, xs) => match ixN xs.length i with
      | some k => match xs[k]? with
        | some v => .ok v (S.set n (.lst (xs.eraseIdx k)))
        | none => .bad
      | none => .bad
    | none => .bad
  | _ => .bad
theorem popAt_ok : OpM X rPopAt aPopL := by
  intro ρ H S x u xs us Q E rs rx rxs p
  unfold aPopL at p
  split at p
  · cases rxs with
    | cons rv t =>
    cases t
    cases rv
    split at p
    · rename_i e
      split at p
      · rename_i k ek
        split at p
        · rename_i v ev
          obtain ⟨rfl, h2, h3, vs, h4, h5⟩ := lst_rv rs rx e
          obtain ⟨y, g1, g2⟩ := h5.get ev
          obtain ⟨q1, q2, q3, q4⟩ := ixN_seq ek
          have hz : sizeLine = 16777216 := sizeLine_eq
          refine ⟨_, _, _, k, y, rfl, rfl, h4, by omega, by omega, by rw [h5.length]; exact q1, g1, p.setL rs h2 h4 ?_ (h5.eraseIdx k) g2⟩
          exact Nat.le_trans (len_erase _ _) h3
        · exact p.elim
      · exact p.elim
    · exact p.elim
  · exact p.elim
def aInsert (u : AV) (us : List AV) : M AV := fun S => match us with
  | [.int i, v] => match lstAt S u with
    | some (n, xs) => if xs.length < sizeLine ∧ 0 ≤ i ∧ i < 2 ^ 63 then .ok .non (S.set n (.lst (xs.take i.toNat ++ [v] ++ xs.drop i.toNat))) else .bad
    | none => .bad
  | _ => .bad
theorem insert_ok : OpM X (fun x vs H Q => ∃ (l : Addr) (xs : List V) (i : Int) (y : V), x = .ref l ∧ vs = [.int i, y] ∧ H l = some (.lst xs) ∧ xs.length < sizeLine ∧ 0 ≤ i ∧ i < 2 ^ 63 ∧
    Q .non (upd H l (.lst (xs.take i.toNat ++ [y] ++ xs.drop i.toNat)))) aInsert := by
  intro ρ H S x u xs us Q E rs rx rxs p
  unfold aInsert at p
  split at p
  · cases rxs with
    | cons ri t =>
    cases ri
    cases t with
    | cons rv t =>
    cases t
    split at p
    · rename_i e
      split at p
      · rename_i hl
        obtain ⟨rfl, h2, h3, vs, h4, h5⟩ := lst_rv rs rx e
        refine ⟨_, _, _, _, rfl, rfl, h4, by rw [h5.length]; exact hl.1, hl.2.1, hl.2.2, p.setL rs h2 h4 ?_ (((h5.take _).append (.cons rv .nil)).append (h5.drop _)) .non⟩
        rw [List.length_append, List.length_append, List.length_take, List.length_drop, List.length_singleton]
        omega
      · exact p.elim
    · exact p.elim
  · exact p.elim
/-- the place of the first one that is equal -/
def findD (d : PyData) : List PyData → Nat → Option Nat
  | [], _ => none
  | z :: r, k => if PyData.eqv z d = true then some k else findD d r (k + 1)
theorem findD_at (d : PyData) : ∀ (ds : List PyData) (k j : Nat), findD d ds k = some j → ∃ z, k ≤ j ∧ ds[j - k]? = some z ∧ PyData.eqv z d = true ∧ ∀ (m : Nat) (z' : PyData), m < j - k → ds[m]? = some z' → PyData.eqv z' d = false
  | [], k, j, h => by cases h
  | z :: r, k, j, h => by
    unfold findD at h
    split at h
    · rename_i hz
      cases h
      exact ⟨z, Nat.le_refl _, by rw [Nat.sub_self]; rfl, hz, fun m z' hm => by omega⟩
    · rename_i hz
      obtain ⟨y, h1, h2, h3, h4⟩ := findD_at d r (k + 1) j h
      have e : j - k = (j - (k + 1)) + 1 := by omega
      refine ⟨y, by omega, by rw [e]; exact h2, h3, fun m z' hm hz' => ?_⟩
      cases m with
      | zero =>
        have : z = z' := by simpa using hz'
        subst this
        simpa using hz
      | succ m => exact h4 m z' (by omega) (by simpa using hz')
def aIndex (u : AV) (us : List AV) : M AV := fun S => match us with
  | [v] => match toD S 20 u, toD S 20 v with
    | some (.list ds), some d => match findD d ds 0 with
      | some j => .ok (.int (j : Nat)) S
      | none => .bad
    | _, _ => .bad
  | _ => .bad
theorem index_ok : OpM X (rIndexD X.K) aIndex := by
  intro ρ H S x u xs us Q E rs rx rxs p
  unfold aIndex at p
  split at p
  · cases rxs with
    | cons rv t =>
    cases t
    split at p
    · rename_i ds d e1 e2
      split at p
      · rename_i j ej
        obtain ⟨h1, h2⟩ := toD_ok rs 20 _ _ _ rx e1
        obtain ⟨g1, g2⟩ := toD_ok rs 20 _ _ _ rv e2
        obtain ⟨z, q1, q2, q3, q4⟩ := findD_at d ds 0 j ej
        have hr : ∃ a, x = .ref a := by
          cases rx <;> first | exact ⟨_, rfl⟩ | (cases e1; done)
        obtain ⟨a, rfl⟩ := hr
        exact ⟨a, _, d, ds, j, z, rfl, rfl, h1, g1, shaped_of 20 (by decide) h2, shaped_of 20 (by decide) g2, q2, q3, q4, p.int rs⟩
      · exact p.elim
    · exact p.elim
  · exact p.elim
end
end Sim

set_option Elab.async false
set_option linter.all false
set_option maxRecDepth 100000
set_option maxHeartbeats 4000000
/-! S12: methods of dicts; kinds; sums; all, any; pairs of dicts. -/
namespace Sim
open PySem PySem.Spec PyProof.Rows L2
/-! ### dicts -/
def dGet1 (do_ dk : DE) : DE := fun η S => (do_ η S).bind fun o S1 => if (dictAt S1 o).isSome = true then (dk η S1).bind fun k S2 => match dictAt S2 o with
  | some kvs => match keyA k with
    | some q => .ok ((valA kvs q).getD .non) S2
    | none => .bad
  | none => .bad else .bad
def dGet2 (do_ dk dz : DE) : DE := fun η S => (do_ η S).bind fun o S1 => if (dictAt S1 o).isSome = true then (dk η S1).bind fun k S2 => (dz η S2).bind fun z S3 => match dictAt S3 o with
  | some kvs => match keyA k with
    | some q => .ok ((valA kvs q).getD z) S3
    | none => .bad
  | none => .bad else .bad
/-- the object is a dict of the store that may be written -/
def dctAt (S : Sto) : AV → Option (Nat × List (Key × AV))
  | .ref n => match S[n]? with
    | some (.dict xs) => some (n, xs)
    | _ => none
  | _ => none
theorem dct_rv {K : PySem.W.Frag} {w : World} {mg : Str → Option Value} {ρ : Nat → Addr} {S : Sto} {H : Hp} {x : V} {u : AV} {n : Nat} {xs : List (Key × AV)} (rs : RS K w mg ρ H S) (r : RV K w mg ρ S.length H x u) (h : dctAt S u = some (n, xs)) :
    x = .ref (ρ n) ∧ n < S.length ∧ dOk xs ∧ ∃ vs, H (ρ n) = some (.dK vs) ∧ RPs K w mg ρ S.length H vs xs := by
  unfold dctAt at h
  split at h
  · split at h
    · rename_i es
      cases h
      obtain ⟨h1, h2, vs, h3, h4⟩ := r.obj rs es
      exact ⟨h1, (List.getElem?_eq_some_iff.mp es).1, h2, vs, h3, h4⟩
    · cases h
  · cases h
def dPop1 (do_ dk : DE) : DE := fun η S => (do_ η S).bind fun o S1 => if (dictAt S1 o).isSome = true then (dk η S1).bind fun k S2 => match dctAt S2 o with
  | some (n, kvs) => match keyA k with
    | some q => match valA kvs q with
      | some v => .ok v (S2.set n (.dict (dropA kvs q)))
      | none => .bad
    | none => .bad
  | none => .bad else .bad
def dPop2 (do_ dk dz : DE) : DE := fun η S => (do_ η S).bind fun o S1 => if (dictAt S1 o).isSome = true then (dk η S1).bind fun k S2 => (dz η S2).bind fun z S3 => match dctAt S3 o with
  | some (n, kvs) => match keyA k with
    | some q => match valA kvs q with
      | some v => .ok v (S3.set n (.dict (dropA kvs q)))
      | none => .ok z S3
    | none => .bad
  | none => .bad else .bad
section
variable {X : Cx} {W : WX} {o e f : Expr} {do_ de df : DE} {apos cpos : Pos}
theorem isD_of {K : PySem.W.Frag} {w : World} {mg : Str → Option Value} {ρ : Nat → Addr} {S : Sto} {H : Hp} {x : V} {u : AV} (rs : RS K w mg ρ H S) (r : RV K w mg ρ S.length H x u) (h : (dictAt S u).isSome = true) : ∃ a, x = .ref a ∧ IsD H a := by
  cases e : dictAt S u with
  | none => rw [e] at h; cases h
  | some kvs =>
    obtain ⟨a, us, rfl, h1, _, _⟩ := dict_rd rs r e
    exact ⟨a, rfl, .inl ⟨us, h1⟩⟩
theorem getD_rv {K : PySem.W.Frag} {w : World} {mg : Str → Option Value} {ρ : Nat → Addr} {N : Nat} {H : Hp} {us : List (Key × V)} {kvs : List (Key × AV)} (r : RPs K w mg ρ N H us kvs) (k : Key) {v : V} {x : AV} (rv : RV K w mg ρ N H v x) : RV K w mg ρ N H ((valV us k).getD v) ((valA kvs k).getD x) := by
  rcases r.val k with ⟨h1, h2⟩ | ⟨v, x, h1, h2, h3⟩
  · rw [h1, h2]; exact rv
  · rw [h1, h2]; exact h3
theorem se_get1 (hu : X.A.units + 65 < cLine) (ho : SE X W o do_) (he : SE X W e de) (m : M1 X o "get" apos e cpos) : SE X W (.Call (.Attribute o "get" apos) [e] [] cpos) (dGet1 do_ de) :=
  PE.imp (pe_dget1 (by omega) ho he m) fun σ H Q ⟨ρ, S, η, at0, p⟩ => (tG.bind at0 p).mono fun x H1 ⟨ρ1, S1, u, _, at1, e1, r1, p1⟩ => by
    split at p1
    · rename_i h
      obtain ⟨a, rfl, hd⟩ := isD_of at1.rs r1 h
      refine ⟨a, rfl, hd, (tG.bind at1 p1).mono fun y H2 ⟨ρ2, S2, k, _, at2, e2, r2, p2⟩ => ?_⟩
      split at p2
      · rename_i ed
        split at p2
        · rename_i q ek
          obtain ⟨b, us, h0, h1, h2, _⟩ := dict_rd at2.rs (r1.mono e2.toUp) ed
          cases h0
          obtain rfl := key_rv r2 ek
          exact ⟨_, dget_of h1, p2.fin at2.rs (getD_rv h2 q .non)⟩
        · exact p2.elim
      · exact p2.elim
    · exact p1.elim
theorem se_get2 (hu : X.A.units + 65 < cLine) (ho : SE X W o do_) (he : SE X W e de) (hf : SE X W f df) (m : M2 X o "get" apos e f cpos) : SE X W (.Call (.Attribute o "get" apos) [e, f] [] cpos) (dGet2 do_ de df) :=
  PE.imp (pe_dget2 (by omega) ho he hf m) fun σ H Q ⟨ρ, S, η, at0, p⟩ => (tG.bind at0 p).mono fun x H1 ⟨ρ1, S1, u, _, at1, e1, r1, p1⟩ => by
    split at p1
    · rename_i h
      obtain ⟨a, rfl, hd⟩ := isD_of at1.rs r1 h
      refine ⟨a, rfl, hd, (tG.bind at1 p1).mono fun y H2 ⟨ρ2, S2, k, _, at2, e2, r2, p2⟩ => (tG.bind at2 p2).mono fun z H3 ⟨ρ3, S3, zz, _, at3, e3, r3, p3⟩ => ?_⟩
      split at p3
      · rename_i ed
        split at p3
        · rename_i q ek
          obtain ⟨b, us, h0, h1, h2, _⟩ := dict_rd at3.rs ((r1.mono e2.toUp).mono e3.toUp) ed
          cases h0
          obtain rfl := key_rv (r2.mono e3.toUp) ek
          exact ⟨_, dget_of h1, p3.fin at3.rs (getD_rv h2 q r3)⟩
        · exact p3.elim
      · exact p3.elim
    · exact p1.elim
theorem se_pop1 (ho : SE X W o do_) (he : SE X W e de) (m : M1 X o "pop" apos e cpos) : SE X W (.Call (.Attribute o "pop" apos) [e] [] cpos) (dPop1 do_ de) :=
  PE.imp (pe_dpop1 ho he m) fun σ H Q ⟨ρ, S, η, at0, p⟩ => (tG.bind at0 p).mono fun x H1 ⟨ρ1, S1, u, _, at1, e1, r1, p1⟩ => by
    split at p1
    · rename_i h
      obtain ⟨a, rfl, hd⟩ := isD_of at1.rs r1 h
      refine ⟨a, rfl, hd, (tG.bind at1 p1).mono fun y H2 ⟨ρ2, S2, k, _, at2, e2, r2, p2⟩ => ?_⟩
      split at p2
      · rename_i ed
        split at p2
        · rename_i q ek
          split at p2
          · rename_i v ev
            obtain ⟨h0, h1, h2, us, h3, h4⟩ := dct_rv at2.rs (r1.mono e2.toUp) ed
            cases h0
            obtain rfl := key_rv r2 ek
            rcases h4.val q with ⟨g1, g2⟩ | ⟨v0, x0, g1, g2, g3⟩
            · rw [g2] at ev; cases ev
            · rw [g2] at ev; cases ev
              exact ⟨us, q, v0, h3, rfl, g1, p2.setD at2.rs h1 h3 (h2.drop q) (h4.drop q) g3⟩
          · exact p2.elim
        · exact p2.elim
      · exact p2.elim
    · exact p1.elim
theorem se_pop2 (ho : SE X W o do_) (he : SE X W e de) (hf : SE X W f df) (m : M2 X o "pop" apos e f cpos) : SE X W (.Call (.Attribute o "pop" apos) [e, f] [] cpos) (dPop2 do_ de df) :=
  PE.imp (pe_dpop2 ho he hf m) fun σ H Q ⟨ρ, S, η, at0, p⟩ => (tG.bind at0 p).mono fun x H1 ⟨ρ1, S1, u, _, at1, e1, r1, p1⟩ => by
    split at p1
    · rename_i h
      obtain ⟨a, rfl, hd⟩ := isD_of at1.rs r1 h
      refine ⟨a, rfl, hd, (tG.bind at1 p1).mono fun y H2 ⟨ρ2, S2, k, _, at2, e2, r2, p2⟩ => (tG.bind at2 p2).mono fun z H3 ⟨ρ3, S3, zz, _, at3, e3, r3, p3⟩ => ?_⟩
      split at p3
      · rename_i ed
        split at p3
        · rename_i q ek
          obtain ⟨h0, h1, h2, us, h3, h4⟩ := dct_rv at3.rs ((r1.mono e2.toUp).mono e3.toUp) ed
          cases h0
          obtain rfl := key_rv (r2.mono e3.toUp) ek
          refine ⟨us, q, h3, rfl, fun v0 gv => ?_, fun gn => ?_⟩
          · rcases h4.val q with ⟨g1, g2⟩ | ⟨v1, x0, g1, g2, g3⟩
            · rw [g1] at gv; cases gv
            · rw [g1] at gv; cases gv
              rw [g2] at p3
              exact p3.setD at3.rs h1 h3 (h2.drop q) (h4.drop q) g3
          · rcases h4.val q with ⟨g1, g2⟩ | ⟨v1, x0, g1, g2, g3⟩
            · rw [g2] at p3
              exact p3.fin at3.rs r3
            · rw [g1] at gn; cases gn
        · exact p3.elim
      · exact p3.elim
    · exact p1.elim
/-! ### o.pop(e), a list or a dict -/
def dPopE (do_ de : DE) : DE := fun η S => match do_ η S with
  | .ok o S1 => if (lstAt S1 o).isSome = true then dML do_ (dCons de dNil) aPopL η S else dPop1 do_ de η S
  | .ex c fs S1 => .ex c fs S1
  | .bad => .bad
theorem se_popE (ho : SE X W o do_) (he : SE X W e de) (m : M1 X o "pop" apos e cpos)
    (hfew : ((backTo cpos (starEach [e] X.env)).all (fun x => !x.1) && (backToKw cpos (keywordEach [] X.env)).all (fun x => x.1.isSome)
      && decide (([e] : List Expr).length + ([] : List Keyword).length + (if ([] : List Keyword).isEmpty then 0 else 1) < 30)) = true := by rfl)
    (hs : starEach [e] X.env = (false, eval e X.env) :: starEach [] X.env := by rfl) (hplain : (backTo cpos (starEach [] X.env)).any (·.1) = false := by rfl) : SE X W (.Call (.Attribute o "pop" apos) [e] [] cpos) (dPopE do_ de) := by
  have h1 : SE X W (.Call (.Attribute o "pop" apos) [e] [] cpos) (dML do_ (dCons de dNil) aPopL) := se_ml PySem.F.slot_list_pop PySem.F.type_list_pop mt_popAt popAt_ok ho (sa_cons he sa_nil hs) m.base hfew m.line hs hplain
  refine PE.imp (PE.or h1 (se_pop1 ho he m)) fun σ H Q ⟨ρ, S, η, at0, p⟩ => ?_
  unfold dPopE at p
  cases ev : do_ η S with
  | ok u S1 =>
    rw [ev] at p
    simp only at p
    split at p
    · exact .inl ⟨ρ, S, η, at0, p⟩
    · exact .inr ⟨ρ, S, η, at0, p⟩
  | ex c fs S1 =>
    rw [ev] at p
    refine .inl ⟨ρ, S, η, at0, ?_⟩
    unfold dML
    rw [ev]
    exact p
  | bad => rw [ev] at p; exact p.elim
end
end Sim

set_option Elab.async false
set_option linter.all false
set_option maxRecDepth 100000
set_option maxHeartbeats 4000000
/-! S13: kinds; sums; all, any; what is walked in pairs. -/
namespace Sim
open PySem PySem.Spec PyProof.Rows L2
/-! ### isinstance, one built-in type -/
def kindA (S : Sto) : AV → Option String
  | .non => some "NoneType"
  | .bl _ => some "bool"
  | .int _ => some "int"
  | .str _ => some "str"
  | .tup _ => some "tuple"
  | .rl _ => some "list"
  | .kd _ => some "dict"
  | .ref n => match S[n]? with
    | some (.lst _) => some "list"
    | some (.dict _) => some "dict"
    | some (.lck _) => some "dict"
    | _ => none
  | _ => none
theorem kind_rv {K : PySem.W.Frag} {w : World} {mg : Str → Option Value} {ρ : Nat → Addr} {S : Sto} {H : Hp} {x : V} {u : AV} {T : String} (rs : RS K w mg ρ H S) (r : RV K w mg ρ S.length H x u) (h : kindA S u = some T) : TyX K H x (.type T) := by
  cases r with
  | non => cases h; exact .base .non
  | bl b => cases h; exact .base (.bl b)
  | int b => cases h; exact .base (.int b)
  | str b => cases h; exact .base (.str b)
  | ty n => cases h
  | cls c C hm => cases h
  | tup h1 r1 =>
    cases h
    rcases h1 with (h1 | ⟨o, h1⟩) | ⟨o, its, n, h1, h2, _⟩
    · exact .base (.tup h1)
    · exact .fTuple h1
    · exact .kTuple h1 h2
  | rl h1 f =>
    cases h
    rcases h1 with (h1 | ⟨o, h1⟩) | ⟨o, its, n, h1, h2, _⟩
    · exact .base (.lst h1)
    · exact .base (.frz h1)
    · exact .kList h1 h2
  | kd h1 =>
    cases h
    obtain ⟨es, n, D, _⟩ := h1
    exact .kDict D.at_ rfl
  | ref n hn =>
    unfold kindA at h
    simp only at h
    split at h
    · rename_i es
      cases h
      obtain ⟨_, vs, h1, _⟩ := rs.obj _ _ es
      exact .base (.lst h1)
    · rename_i es
      cases h
      obtain ⟨_, vs, h1, _⟩ := rs.obj _ _ es
      exact .base (.dK h1)
    · rename_i es
      cases h
      obtain ⟨_, ob, vs, h1, _⟩ := rs.obj _ _ es
      exact .fDict h1
    · cases h
def aIsi (us : List AV) : M AV := fun S => match us with
  | [u, .ty T] => match kindA S u with
    | some k => match kitB k T with
      | some b => .ok (.bl b) S
      | none => .bad
    | none => .bad
  | _ => .bad
section
variable {X : Cx}
theorem isi_ok : OpN X (rIsi X.K) aIsi := by
  intro ρ H S xs us Q E rs rx p
  unfold aIsi at p
  split at p
  · cases rx with
    | cons a t =>
    cases t with
    | cons c t =>
    cases t
    cases c
    split at p
    · rename_i k ek
      split at p
      · rename_i b eb
        exact ⟨_, _, _, _, b, rfl, .ty _, kind_rv rs a ek, kit_ty eb, p.bl rs⟩
      · exact p.elim
    · exact p.elim
  · exact p.elim
/-! ### sum, all, any -/
def intsA : List AV → Option (List Int)
  | [] => some []
  | .int z :: xs => (intsA xs).map (z :: ·)
  | _ => none
def blsA : List AV → Option (List Bool)
  | [] => some []
  | .bl z :: xs => (blsA xs).map (z :: ·)
  | _ => none
theorem ints_rv {K : PySem.W.Frag} {w : World} {mg : Str → Option Value} {ρ : Nat → Addr} {N : Nat} {H : Hp} : ∀ {vs : List V} {xs : List AV} {zs : List Int}, RVs K w mg ρ N H vs xs → intsA xs = some zs → vs = zs.map V.int
  | _, _, _, .nil, h => by cases h; rfl
  | _, _, zs, .cons (x := x) (xs := xs) a t, h => by
    cases a with
    | int z =>
      unfold intsA at h
      cases e : intsA xs with
      | none => rw [e] at h; cases h
      | some ys =>
        rw [e] at h
        cases h
        rw [ints_rv t e]
        rfl
    | _ => cases h
theorem bls_rv {K : PySem.W.Frag} {w : World} {mg : Str → Option Value} {ρ : Nat → Addr} {N : Nat} {H : Hp} : ∀ {vs : List V} {xs : List AV} {zs : List Bool}, RVs K w mg ρ N H vs xs → blsA xs = some zs → vs = zs.map V.bl
  | _, _, _, .nil, h => by cases h; rfl
  | _, _, zs, .cons (x := x) (xs := xs) a t, h => by
    cases a with
    | bl z =>
      unfold blsA at h
      cases e : blsA xs with
      | none => rw [e] at h; cases h
      | some ys =>
        rw [e] at h
        cases h
        rw [bls_rv t e]
        rfl
    | _ => cases h
def aSum (us : List AV) : M AV := fun S => match us with
  | [u] => match seqLA S u with
    | some xs => match intsA xs with
      | some zs => .ok (.int zs.sum) S
      | none => .bad
    | none => .bad
  | _ => .bad
theorem sum_ok : OpN X (rSum X.K) aSum := by
  intro ρ H S xs us Q E rs rx p
  unfold aSum at p
  split at p
  · cases rx with
    | cons a t =>
    cases t
    split at p
    · rename_i e
      split at p
      · rename_i e2
        obtain ⟨b, vs, rfl, h1, h2⟩ := seqL_rv rs a e
        obtain rfl := ints_rv h1 e2
        exact ⟨_, _, rfl, h2, p.int rs⟩
      · exact p.elim
    · exact p.elim
  · exact p.elim
def aAnyAll (f : List Bool → Bool) (us : List AV) : M AV := fun S => match us with
  | [u] => match seqLA S u with
    | some xs => match blsA xs with
      | some zs => .ok (.bl (f zs)) S
      | none => .bad
    | none => .bad
  | _ => .bad
def aAll := aAnyAll fun bs => bs.all id
def aAny := aAnyAll fun bs => bs.any id
theorem anyall_ok {f : List Bool → Bool} : OpN X (fun vs H Q => ∃ (a : Addr) (bs : List Bool), vs = [V.ref a] ∧ SqL X.K H a (bs.map V.bl) ∧ Q (.bl (f bs)) H) (aAnyAll f) := by
  intro ρ H S xs us Q E rs rx p
  unfold aAnyAll at p
  split at p
  · cases rx with
    | cons a t =>
    cases t
    split at p
    · rename_i e
      split at p
      · rename_i e2
        obtain ⟨b, vs, rfl, h1, h2⟩ := seqL_rv rs a e
        obtain rfl := bls_rv h1 e2
        exact ⟨_, _, rfl, h2, p.bl rs⟩
      · exact p.elim
    · exact p.elim
  · exact p.elim
theorem all_ok : OpN X (rAll X.K) aAll := anyall_ok
theorem any_ok : OpN X (rAny X.K) aAny := anyall_ok
end
/-! ### enumerate, zip, items -/
def itE (r : Nat) (n : Nat) : AIt := ⟨n, fun i S => match S[r]? with
  | some (.lst xs) => some (xs[i]?.map fun x => .tup [.int (i : Nat), x])
  | _ => none⟩
def aEnum (us : List AV) : M AIt := fun S => match us with
  | [u] => match lstAt S u with
    | some (r, xs) => .ok (itE r xs.length) S
    | none => .bad
  | _ => .bad
section
variable {K : PySem.W.Frag} {w : World} {mg : Str → Option Value} {ρ : Nat → Addr} {N : Nat} {S : Sto} {H : Hp}
theorem itOk_enum {r n : Nat} (h : r < N) : ItOk K w mg ρ N H (Ite K (ρ r)) (itE r n) := by
  intro ρ' H' S' i e rs
  unfold itE
  simp only
  cases es : S'[r]? with
  | none => exact trivial
  | some o =>
    cases o with
    | lst xs =>
      obtain ⟨z, vs, h1, h2⟩ := rs.obj r _ es
      rw [e.eq r h] at h1
      dsimp only
      cases ex : xs[i]? with
      | none =>
        refine ⟨vs, SqL.of h1, ?_⟩
        rw [h2.length]
        exact List.getElem?_eq_none_iff.mp ex
      | some x =>
        obtain ⟨v, g1, g2⟩ := h2.get ex
        refine ⟨⟨vs, v, SqL.of h1, g1⟩, fun y H2 q => ?_⟩
        obtain ⟨T, x', rfl, nT, rfl, q⟩ := q
        have := q vs (SqL.of h1)
        rw [g1] at this
        cases this
        exact ⟨Ext.other nT, rs.other nT, .tup (SqT.of upd_same) (.cons (.int _) (.cons (g2.mono (Up.other nT)) .nil))⟩
    | dict xs => exact trivial
    | lck xs => exact trivial
    | ins c fs => exact trivial
end
section
variable {X : Cx} {W : WX} {e e2 : Expr} {de : DE} {dl : DL} {pos p tpos : Pos} {elts : List Expr} {kk : Nat}
theorem si_enum (hg : Gl X "enumerate") (hm : X.mg "enumerate" = none) (ha : SA X W [e] dl) (hs : starEach [e] X.env = [(false, eval e X.env)] := by rfl) : SI X W (.Tuple elts kk tpos) (.Call (.Name "enumerate" p) [e] [] pos) (bind1 dl aEnum) :=
  PI.imp (pi_enum hg hm ha hs) fun σ H R ⟨ρ, S, η, at0, p⟩ => (tG.bind at0 p).mono fun x H1 ⟨ρ1, S1, u, _, at1, e1, r1, p1⟩ => by
    unfold aEnum at p1
    split at p1
    · cases r1 with
      | cons a t =>
      cases t
      split at p1
      · rename_i el
        obtain ⟨rfl, h2, h3, vs, h4, h5⟩ := lst_rv at1.rs a el
        exact ⟨_, vs, rfl, SqL.of h4, p1 ρ1 _ H1 Ext.refl at1.rs (itOk_enum h2)⟩
      · exact p1.elim
    · exact p1.elim
end
/-- two lists side by side -/
def itZp (r q : Nat) (n : Nat) : AIt := ⟨n, fun i S => match S[r]?, S[q]? with
  | some (.lst xs), some (.lst ys) => some (match xs[i]?, ys[i]? with | some x, some y => some (.tup [x, y]) | _, _ => none)
  | _, _ => none⟩
def aZip (us : List AV) : M AIt := fun S => match us with
  | [u, v] => match lstAt S u, lstAt S v with
    | some (r, xs), some (q, ys) => .ok (itZp r q (min xs.length ys.length)) S
    | _, _ => .bad
  | _ => .bad
theorem itOk_zip {K : PySem.W.Frag} {w : World} {mg : Str → Option Value} {ρ : Nat → Addr} {N : Nat} {H : Hp} {r q n : Nat} (h : r < N) (h' : q < N) : ItOk K w mg ρ N H (Itz K (ρ r) (ρ q)) (itZp r q n) := by
  intro ρ' H' S' i e rs
  unfold itZp
  simp only
  split
  · rename_i o eo
    split at eo
    · rename_i xs ys es1 es2
      obtain ⟨z, vs, h1, h2⟩ := rs.obj r _ es1
      obtain ⟨z', ws, g1, g2⟩ := rs.obj q _ es2
      rw [e.eq r h] at h1
      rw [e.eq q h'] at g1
      have eo' := Option.some.inj eo
      split at eo'
      · cases eo'
      · rename_i hn
        refine ⟨vs, ws, SqL.of h1, SqL.of g1, ?_⟩
        rw [h2.length, g2.length]
        cases ex : xs[i]? with
        | none => exact .inl (List.getElem?_eq_none_iff.mp ex)
        | some x =>
          cases ey : ys[i]? with
          | none => exact .inr (List.getElem?_eq_none_iff.mp ey)
          | some y => exact absurd ey (hn x y ex)
    · cases eo
  · rename_i o v eo
    split at eo
    · rename_i xs ys es1 es2
      obtain ⟨z, vs, h1, h2⟩ := rs.obj r _ es1
      obtain ⟨z', ws, g1, g2⟩ := rs.obj q _ es2
      rw [e.eq r h] at h1
      rw [e.eq q h'] at g1
      have eo' := Option.some.inj eo
      split at eo'
      · rename_i x y ex ey
        cases eo'
        obtain ⟨v1, k1, k2⟩ := h2.get ex
        obtain ⟨v2, l1, l2⟩ := g2.get ey
        refine ⟨⟨vs, ws, v1, v2, SqL.of h1, SqL.of g1, k1, l1⟩, fun y H2 qq => ?_⟩
        obtain ⟨T, x', y', rfl, nT, rfl, q1, q2⟩ := qq
        have := q1 vs (SqL.of h1)
        rw [k1] at this
        cases this
        have := q2 ws (SqL.of g1)
        rw [l1] at this
        cases this
        exact ⟨Ext.other nT, rs.other nT, .tup (SqT.of upd_same) (.cons (k2.mono (Up.other nT)) (.cons (l2.mono (Up.other nT)) .nil))⟩
      · cases eo'
    · cases eo
  · exact trivial
section
variable {X : Cx} {W : WX} {e e2 : Expr} {de : DE} {dl : DL} {pos p tpos : Pos} {elts : List Expr} {kk : Nat}
theorem si_zip (hg : Gl X "zip") (hm : X.mg "zip" = none) (ha : SA X W [e, e2] dl) (hs : starEach [e, e2] X.env = (false, eval e X.env) :: starEach [e2] X.env := by rfl) (hpl : (backTo pos (starEach [e2] X.env)).any (·.1) = false := by rfl) : SI X W (.Tuple elts kk tpos) (.Call (.Name "zip" p) [e, e2] [] pos) (bind1 dl aZip) :=
  PI.imp (pi_zip hg hm ha hs hpl) fun σ H R ⟨ρ, S, η, at0, p⟩ => (tG.bind at0 p).mono fun x H1 ⟨ρ1, S1, u, _, at1, e1, r1, p1⟩ => by
    unfold aZip at p1
    split at p1
    · cases r1 with
      | cons a t =>
      cases t with
      | cons b t =>
      cases t
      split at p1
      · rename_i el el'
        obtain ⟨rfl, h2, h3, vs, h4, h5⟩ := lst_rv at1.rs a el
        obtain ⟨rfl, g2, g3, ws, g4, g5⟩ := lst_rv at1.rs b el'
        exact ⟨_, _, vs, ws, rfl, SqL.of h4, SqL.of g4, p1 ρ1 _ H1 Ext.refl at1.rs (itOk_zip h2 g2)⟩
      · exact p1.elim
    · exact p1.elim
end
end Sim

set_option Elab.async false
set_option linter.all false
set_option maxRecDepth 100000
set_option maxHeartbeats 4000000
/-! S14: pairs of dicts laid in a list; dicts walked. -/
namespace Sim
open PySem PySem.Spec PyProof.Rows L2
section
variable {K : PySem.W.Frag} {w : World} {mg : Str → Option Value} {ρ : Nat → Addr} {N : Nat} {S : Sto} {H H' : Hp}
theorem Ext.kept (k : ∀ b o, H b = some o → H' b = some o) : Ext K ρ N H ρ N H' where
  le := Nat.le_refl _
  eq := fun _ _ => rfl
  tk := fun a xs h => by
    rcases h with (h | ⟨o, h⟩) | h
    · exact .inl (.inl (k _ _ h))
    · exact .inl (.inr ⟨o, k _ _ h⟩)
    · exact .inr h
  fz := fun a o xs h => k _ _ h
  fa := fun a o xs h => k _ _ h
  fresh := fun _ h h' => absurd h' (Nat.not_lt.mpr h)
  keep := fun a o h _ => k a o h
  free := fun a h => by
    cases e : H a with
    | none => rfl
    | some o => rw [k a o e] at h; cases h
theorem RS.kept (r : RS K w mg ρ H S) (k : ∀ b o, H b = some o → H' b = some o) : RS K w mg ρ H' S :=
  r.mono (Ext.kept k) fun n h => by
    obtain ⟨u, e⟩ := (r.obj n _ (List.getElem?_eq_getElem h)).live
    rw [e]
    exact k _ _ e
/-- a list laid among others -/
theorem Post.newIn {Q : VK} {E : XK} {xs : List AV} {vs : List V} {p : Addr} (h : PostV K w mg ρ S.length H Q E (.ok (.ref S.length) (S ++ [.lst xs]))) (rs : RS K w mg ρ H S) (k : ∀ b o, H b = some o → H' b = some o) (n : H p = none) (hp : H' p = some (.lst vs)) (hl : xs.length ≤ sizeLine)
    (r : RVs K w mg ρ S.length H' vs xs) : Q (.ref p) H' := by
  have rs' := rs.kept k
  have ow : ∀ u, H' p = some u → Own u := fun u e => by rw [hp] at e; cases e; exact own_lst
  have eu := upd_self hp
  have hq : ∀ m, m < S.length → ρ m ≠ p := fun m hm => rs.ne_new n hm
  have up := Up.laid (K := K) (ρ := ρ) (N := S.length) (u := .lst vs) ow
  have ro : RO K w mg (rho ρ S.length p) (S.length + 1) (upd H' p (.lst vs)) p (.lst xs) := ⟨hl, vs, upd_same, r.mono up⟩
  have rs2 := rs'.laidAt hq ow ro
  have e2 := (Ext.kept (K := K) (ρ := ρ) (N := S.length) k).laidAt (u := .lst vs) n ow
  rw [eu] at rs2 e2
  have hl2 : (S ++ [AO.lst xs]).length = S.length + 1 := by rw [List.length_append]; rfl
  rw [← hl2] at e2
  refine h _ _ _ e2 rs2 ?_
  have e1 : rho ρ S.length p S.length = p := by unfold rho; rw [if_pos rfl]
  have q := RV.ref (K := K) (w := w) (mg := mg) (ρ := rho ρ S.length p) (N := (S ++ [AO.lst xs]).length) (H := H') S.length (by rw [hl2]; exact Nat.lt_succ_self _)
  rw [e1] at q
  exact q
end
def pairA (p : Key × AV) : AV := .tup [keyV p.1, p.2]
theorem key_rvV {K : PySem.W.Frag} {w : World} {mg : Str → Option Value} {ρ : Nat → Addr} {N : Nat} {H : Hp} {k : Key} (h : okK k = true) : RV K w mg ρ N H (kV k) (keyV k) := by
  cases k with
  | inl i => exact .int i
  | inr z => exact .str z (okS_of h)
/-- list(d.items()) -/
def dLit (do_ : DE) : DE := bind1 do_ fun o S => match dctAt S o with
  | some (_, kvs) => .ok (.ref S.length) (S ++ [.lst (kvs.map pairA)])
  | none => .bad
section
variable {X : Cx} {W : WX} {e : Expr} {de : DE} {p apos cpos pos : Pos}
theorem pairs_rv {K : PySem.W.Frag} {w : World} {mg : Str → Option Value} {ρ : Nat → Addr} {N : Nat} {H' : Hp} {ts : List Addr} {us : List (Key × V)} {kvs : List (Key × AV)} (t : Paired (fun (t : Addr) (q : Key × V) => H' t = some (.tup [kV q.1, q.2])) ts us) (r : RPs K w mg ρ N H' us kvs) (h : ∀ p ∈ kvs, okK p.1 = true) : RVs K w mg ρ N H' (ts.map V.ref) (kvs.map pairA) := by
  unfold RPs at r
  induction t generalizing kvs with
  | nil => cases r; exact .nil
  | @cons a q ts us a t ih =>
    cases r with
    | @cons _ p _ _ b s =>
    have hk := h _ (List.mem_cons_self ..)
    refine .cons (.tup (SqT.of a) (.cons ?_ (.cons b.2 .nil))) (ih s fun p hp => h p (List.mem_cons_of_mem _ hp))
    rw [b.1]
    exact key_rvV hk
theorem se_lit (hc : X.calm = true) (he : SE X W e de) (hg : Gl X "list") (hm : X.mg "list" = none) (hv : bootBuiltins "list" = some (.type "list")) (hbase : attributeBase e "items" X.env (eval e X.env) = eval e X.env := by rfl) (hline : (apos.endLine == cpos.line) = true := by rfl)
    (hs : starEach [.Call (.Attribute e "items" apos) [] [] cpos] X.env = (false, eval (.Call (.Attribute e "items" apos) [] [] cpos) X.env) :: starEach [] X.env := by rfl) :
    SE X W (.Call (.Name "list" p) [.Call (.Attribute e "items" apos) [] [] cpos] [] pos) (dLit de) :=
  PE.imp (LiI.pe_listItems hc he hg hm hv hbase hline hs) fun σ H Q ⟨ρ, S, η, at0, p⟩ => (tG.bind at0 p).mono fun x H1 ⟨ρ1, S1, u, _, at1, e1, r1, p1⟩ => by
    split at p1
    · rename_i ed
      obtain ⟨h0, h1, h2, us, h3, h4⟩ := dct_rv at1.rs r1 ed
      refine ⟨_, us, h0, h3, fun H' q ts k nq nt nm hq pr => ?_⟩
      refine p1.newIn at1.rs k nq hq (by rw [List.length_map]; exact h2.1) ?_
      exact pairs_rv pr (h4.mono (Ext.kept k).toUp) h2.2
    · exact p1.elim
end
end Sim

set_option Elab.async false
set_option linter.all false
set_option maxRecDepth 100000
set_option maxHeartbeats 4000000
/-! S15: dicts walked. -/
namespace Sim
open PySem PySem.Spec PyProof.Rows L2
def itK (kvs : List (Key × AV)) : AIt := ⟨kvs.length, fun i _ => some (kvs[i]?.map fun p => keyV p.1)⟩
def itI (kvs : List (Key × AV)) : AIt := ⟨kvs.length, fun i _ => some (kvs[i]?.map pairA)⟩
def lckAt (S : Sto) : AV → Option (List (Key × AV))
  | .ref n => match S[n]? with
    | some (.lck kvs) => some kvs
    | _ => none
  | _ => none
def aKeys (u : AV) : M AIt := fun S => match lckAt S u with
  | some kvs => .ok (itK kvs) S
  | none => .bad
def aItems (u : AV) : M AIt := fun S => match lckAt S u with
  | some kvs => .ok (itI kvs) S
  | none => .bad
section
variable {K : PySem.W.Frag} {w : World} {mg : Str → Option Value} {ρ : Nat → Addr} {N : Nat} {S : Sto} {H : Hp}
theorem lck_rv {x : V} {u : AV} {xs : List (Key × AV)} (rs : RS K w mg ρ H S) (r : RV K w mg ρ S.length H x u) (h : lckAt S u = some xs) :
    ∃ a ob us, x = .ref a ∧ H a = some (.frz ob (.dK us)) ∧ dOk xs ∧ RPs K w mg ρ S.length H us xs := by
  unfold lckAt at h
  split at h
  · split at h
    · rename_i es
      cases h
      obtain ⟨h1, h2, ob, us, h3, h4⟩ := r.obj rs es
      exact ⟨_, ob, us, h1, h3, h2, h4⟩
    · cases h
  · cases h
theorem RPs.get {us : List (Key × V)} {kvs : List (Key × AV)} (r : RPs K w mg ρ N H us kvs) {i : Nat} {p : Key × AV} (h : kvs[i]? = some p) : ∃ v, us[i]? = some (p.1, v) ∧ RV K w mg ρ N H v p.2 := by
  unfold RPs at r
  induction r generalizing i with
  | nil => simp at h
  | @cons q p' ps qs a t ih =>
    cases i with
    | zero =>
      have : p' = p := by simpa using h
      subst this
      exact ⟨q.2, by rw [← a.1]; rfl, a.2⟩
    | succ i =>
      obtain ⟨v, h1, h2⟩ := ih (by simpa using h)
      exact ⟨v, by simpa using h1, h2⟩
theorem itOk_keys {a : Addr} {ob : Obj} {us : List (Key × V)} {kvs : List (Key × AV)} (h : H a = some (.frz ob (.dK us))) (r : RPs K w mg ρ N H us kvs) (ok : dOk kvs) : ItOk K w mg ρ N H (Itk a ob us) (itK kvs) := by
  intro ρ' H' S' i e rs
  unfold itK
  simp only
  have h' := e.fa _ _ _ h
  have r' := r.mono e.toUp
  cases ex : kvs[i]? with
  | none => exact ⟨h', by rw [r'.length]; exact List.getElem?_eq_none_iff.mp ex⟩
  | some p =>
    obtain ⟨v, g1, g2⟩ := r'.get ex
    refine ⟨⟨h', (List.getElem?_eq_some_iff.mp g1).1⟩, fun y H2 q => ?_⟩
    obtain ⟨rfl, k, v', q1, rfl⟩ := q
    rw [g1] at q1
    cases q1
    exact ⟨Ext.refl, rs, key_rvV (ok.2 _ (List.mem_of_getElem? ex))⟩
theorem itOk_items {a : Addr} {ob : Obj} {us : List (Key × V)} {kvs : List (Key × AV)} (h : H a = some (.frz ob (.dK us))) (r : RPs K w mg ρ N H us kvs) (ok : dOk kvs) : ItOk K w mg ρ N H (Iti a ob us) (itI kvs) := by
  intro ρ' H' S' i e rs
  unfold itI
  simp only
  have h' := e.fa _ _ _ h
  have r' := r.mono e.toUp
  cases ex : kvs[i]? with
  | none => exact ⟨h', by rw [r'.length]; exact List.getElem?_eq_none_iff.mp ex⟩
  | some p =>
    obtain ⟨v, g1, g2⟩ := r'.get ex
    refine ⟨⟨h', (List.getElem?_eq_some_iff.mp g1).1⟩, fun y H2 q => ?_⟩
    obtain ⟨T, k, v', q1, rfl, nT, rfl⟩ := q
    rw [g1] at q1
    cases q1
    exact ⟨Ext.other nT, rs.other nT, .tup (SqT.of upd_same) (.cons (key_rvV (ok.2 _ (List.mem_of_getElem? ex))) (.cons (g2.mono (Up.other nT)) .nil))⟩
end
section
variable {X : Cx} {W : WX} {tg e a b c : Expr} {de da db dc : DE} {dl : DL} {pos p apos cpos : Pos}
theorem si_keys (he : SE X W e de) : SI X W tg e (bind1 de aKeys) :=
  PI.imp (pi_keys he) fun σ H R ⟨ρ, S, η, at0, p⟩ => (tG.bind at0 p).mono fun x H1 ⟨ρ1, S1, u, _, at1, e1, r1, p1⟩ => by
    unfold aKeys at p1
    split at p1
    · rename_i ek
      obtain ⟨a, ob, us, rfl, h1, h2, h3⟩ := lck_rv at1.rs r1 ek
      exact ⟨a, ob, rfl, .inl ⟨us, h1, p1 ρ1 _ H1 Ext.refl at1.rs (itOk_keys h1 h3 h2)⟩⟩
    · exact p1.elim
theorem si_keysM (he : SE X W e de) (hbase : attributeBase e "keys" X.env (eval e X.env) = eval e X.env := by rfl) (hline : (apos.endLine == cpos.line) = true := by rfl) : SI X W tg (.Call (.Attribute e "keys" apos) [] [] cpos) (bind1 de aKeys) :=
  PI.imp (pi_keysM he hbase hline) fun σ H R ⟨ρ, S, η, at0, p⟩ => (tG.bind at0 p).mono fun x H1 ⟨ρ1, S1, u, _, at1, e1, r1, p1⟩ => by
    unfold aKeys at p1
    split at p1
    · rename_i ek
      obtain ⟨a, ob, us, rfl, h1, h2, h3⟩ := lck_rv at1.rs r1 ek
      exact ⟨a, ob, us, rfl, h1, p1 ρ1 _ H1 Ext.refl at1.rs (itOk_keys h1 h3 h2)⟩
    · exact p1.elim
theorem si_items {elts : List Expr} {kk : Nat} {tpos : Pos} (he : SE X W e de) (hbase : attributeBase e "items" X.env (eval e X.env) = eval e X.env := by rfl) (hline : (apos.endLine == cpos.line) = true := by rfl) : SI X W (.Tuple elts kk tpos) (.Call (.Attribute e "items" apos) [] [] cpos) (bind1 de aItems) :=
  PI.imp (pi_items he hbase hline) fun σ H R ⟨ρ, S, η, at0, p⟩ => (tG.bind at0 p).mono fun x H1 ⟨ρ1, S1, u, _, at1, e1, r1, p1⟩ => by
    unfold aItems at p1
    split at p1
    · rename_i ek
      obtain ⟨a, ob, us, rfl, h1, h2, h3⟩ := lck_rv at1.rs r1 ek
      exact ⟨a, ob, us, rfl, h1, p1 ρ1 _ H1 Ext.refl at1.rs (itOk_items h1 h3 h2)⟩
    · exact p1.elim
/-! ### the lock -/
/-- the lock taken off -/
def offR {α : Type} (n : Nat) : R α → R α
  | .ok v S => match S[n]? with
    | some (.lck kvs) => .ok v (S.set n (.dict kvs))
    | _ => .bad
  | .ex c fs S => .ex c fs S
  | .bad => .bad
def offS (n : Nat) : Rt → Rt
  | .nx η S => match S[n]? with | some (.lck kvs) => .nx η (S.set n (.dict kvs)) | _ => .bad
  | .bk η S => match S[n]? with | some (.lck kvs) => .bk η (S.set n (.dict kvs)) | _ => .bad
  | .ct η S => match S[n]? with | some (.lck kvs) => .ct η (S.set n (.dict kvs)) | _ => .bad
  | .rt v S => match S[n]? with | some (.lck kvs) => .rt v (S.set n (.dict kvs)) | _ => .bad
  | .ex c fs S => .ex c fs S
  | .bad => .bad
/-- the dict that an expression tells is locked meanwhile -/
def dLockE (dn d : DE) : DE := fun η S => match dn η S with
  | .ok o _ => match dctAt S o with
    | some (n, kvs) => offR n (d η (S.set n (.lck kvs)))
    | none => d η S
  | _ => d η S
def dLockS (dn : DE) (d : DS) : DS := fun η S => match dn η S with
  | .ok o _ => match dctAt S o with
    | some (n, kvs) => offS n (d η (S.set n (.lck kvs)))
    | none => d η S
  | _ => d η S
end
section
variable {K : PySem.W.Frag} {w : World} {mg : Str → Option Value} {ρ ρ' : Nat → Addr} {S S' : Sto} {H H' : Hp} {n : Nat} {kvs : List (Key × AV)} {us : List (Key × V)} {od : Obj}
/-- the lock put on -/
theorem lock_on (rs : RS K w mg ρ H S) (hn : n < S.length) (h : H (ρ n) = some (.dK us)) (ok : dOk kvs) (r : RPs K w mg ρ S.length H us kvs) (od : Obj) : Ext K ρ S.length H ρ S.length (upd H (ρ n) (.frz od (.dK us))) ∧ RS K w mg ρ (upd H (ρ n) (.frz od (.dK us))) (S.set n (.lck kvs)) := by
  have e := Ext.put (K := K) (u' := .frz od (.dK us)) hn h own_dK
  exact ⟨e, rs.put hn h own_dK ⟨ok, od, us, upd_same, r.mono e.toUp⟩⟩
/-- .. and off -/
theorem lock_off (hn : n < S.length) (h : H (ρ n) = some (.dK us)) (e : Ext K ρ S.length (upd H (ρ n) (.frz od (.dK us))) ρ' S'.length H') (rs' : RS K w mg ρ' H' S') (hl : S'[n]? = some (.lck kvs)) :
    H' (ρ n) = some (.frz od (.dK us)) ∧ Up K ρ' S'.length H' ρ' S'.length (upd H' (ρ n) (.dK us)) ∧ Ext K ρ S.length H ρ' S'.length (upd H' (ρ n) (.dK us)) ∧ RS K w mg ρ' (upd H' (ρ n) (.dK us)) (S'.set n (.dict kvs)) := by
  have hf : H' (ρ n) = some (.frz od (.dK us)) := e.fa _ _ _ upd_same
  have hn' := (List.getElem?_eq_some_iff.mp hl).1
  have er := e.eq n hn
  obtain ⟨ok, ob, us', h1, h2⟩ := rs'.obj n _ hl
  rw [er, hf] at h1
  cases h1
  have tk : ∀ a xs, SqT K H' a xs → SqT K (upd H' (ρ n) (.dK us)) a xs := fun a xs q => by
    rcases q with (q | ⟨o, q⟩) | q
    · have : a ≠ ρ n := fun z => by rw [z, hf] at q; cases q
      exact .inl (.inl (by rw [upd_ne this]; exact q))
    · have : a ≠ ρ n := fun z => by rw [z, hf] at q; cases q
      exact .inl (.inr ⟨o, by rw [upd_ne this]; exact q⟩)
    · exact .inr q
  have up : Up K ρ' S'.length H' ρ' S'.length (upd H' (ρ n) (.dK us)) := ⟨Nat.le_refl _, fun _ _ => rfl, tk, fun a o xs q => by
    have : a ≠ ρ n := fun z => by rw [z, hf] at q; cases q
    rw [upd_ne this]; exact q⟩
  have hne : ∀ {a o}, H a = some o → a ≠ ρ n → upd H (ρ n) (.frz od (.dK us)) a = some o := fun q m => by rw [upd_ne m]; exact q
  refine ⟨hf, up, ?_, ?_⟩
  · exact {
      le := e.le
      eq := e.eq
      tk := fun a xs q => by
        have q1 : SqT K (upd H (ρ n) (.frz od (.dK us))) a xs := tk_upd (fun u hu => by rw [h] at hu; cases hu; exact own_dK) a xs q
        exact tk a xs (e.tk a xs q1)
      fz := fun a o xs q => by
        have m : a ≠ ρ n := fun z => by rw [z, h] at q; cases q
        rw [upd_ne m]
        exact e.fz a o xs (hne q m)
      fa := fun a o xs q => by
        have m : a ≠ ρ n := fun z => by rw [z, h] at q; cases q
        rw [upd_ne m]
        exact e.fa a o xs (hne q m)
      fresh := fun m hm hm' => by
        have q := e.fresh m hm hm'
        by_cases z : ρ' m = ρ n
        · rw [z, upd_same] at q; cases q
        · rw [upd_ne z] at q; exact q
      keep := fun a o q m => by
        have z : a ≠ ρ n := fun z => m n hn z.symm
        rw [upd_ne z]
        exact e.keep a o (hne q z) m
      free := fun a q => by
        by_cases z : a = ρ n
        · rw [z, upd_same] at q; cases q
        · rw [upd_ne z] at q
          have := e.free a q
          rw [upd_ne z] at this
          exact this }
  · refine ⟨fun i j hi hj q => ?_, fun m o hm => ?_⟩
    · rw [List.length_set] at hi hj
      exact rs'.inj i j hi hj q
    · rw [List.length_set]
      by_cases em : m = n
      · subst em
        rw [List.getElem?_set_self hn'] at hm
        have : AO.dict kvs = o := Option.some.inj hm
        subst this
        rw [er]
        exact ⟨ok, us, upd_same, h2.mono up⟩
      · rw [List.getElem?_set_ne (Ne.symm em)] at hm
        have hm' := (List.getElem?_eq_some_iff.mp hm).1
        refine (rs'.obj m o hm).mono up (upd_ne fun z => em ?_)
        exact rs'.inj m n hm' hn' (z.trans er.symm)
end
theorem PS.or {X : Cx} {st : Stmt} {t t' : TS} (p : PS X st t) (p' : PS X st t') : PS X st fun D σ H => t D σ H ∨ t' D σ H := ⟨fun pins s σ H D I q => q.elim (p.run pins s σ H D I) (p'.run pins s σ H D I)⟩
theorem dct_at {S : Sto} {o : AV} {n : Nat} {kvs : List (Key × AV)} (h : dctAt S o = some (n, kvs)) : S[n]? = some (.dict kvs) := by
  unfold dctAt at h
  split at h
  · split at h
    · rename_i e; cases h; exact e
    · cases h
  · cases h
section
variable {X : Cx} {W : WX} {e : Expr} {d : DE}
theorem se_lock (dn : DE) (h : SE X W e d) : SE X W e (dLockE dn d) := by
  refine PE.imp (PE.or h (pe_lock h)) fun σ H Q ⟨ρ, S, η, at0, p⟩ => ?_
  unfold dLockE at p
  split at p
  · split at p
    · rename_i n kvs ed
      have ed := dct_at ed
      have hn := (List.getElem?_eq_some_iff.mp ed).1
      obtain ⟨ok, us, h1, h2⟩ := at0.rs.obj n _ ed
      refine .inr ⟨ρ n, .dK us, h1, trivial, fun od => ?_⟩
      obtain ⟨e1, r1⟩ := lock_on at0.rs hn h1 ok h2 od
      have hl : (S.set n (.lck kvs)).length = S.length := List.length_set
      refine ⟨ρ, S.set n (.lck kvs), η, ⟨r1, by rw [hl]; exact at0.re.mono e1.toUp⟩, ?_⟩
      cases ev : d η (S.set n (.lck kvs)) with
      | ok v S' =>
        rw [ev] at p
        intro ρ' x H' e2 r2 v2
        rw [hl] at e2
        cases hs : S'[n]? with
        | none => unfold offR at p; simp only [hs] at p; exact p.elim
        | some o =>
          cases o with
          | lck kvs' =>
            unfold offR at p
            simp only [hs] at p
            obtain ⟨g1, g2, g3, g4⟩ := lock_off hn h1 e2 r2 hs
            have hl2 : (S'.set n (.dict kvs')).length = S'.length := List.length_set
            exact ⟨g1, p ρ' x _ (by rw [hl2]; exact g3) g4 (by rw [hl2]; exact v2.mono g2)⟩
          | lst _ => unfold offR at p; simp only [hs] at p; exact p.elim
          | dict _ => unfold offR at p; simp only [hs] at p; exact p.elim
          | ins _ _ => unfold offR at p; simp only [hs] at p; exact p.elim
      | ex c fs S' =>
        rw [ev] at p
        intro ρ' cls dd H' e2 r2 v2
        rw [hl] at e2
        exact p ρ' cls dd H' (e1.trans e2) r2 v2
      | bad => rw [ev] at p; exact p.elim
    · exact .inl ⟨ρ, S, η, at0, p⟩
  · exact .inl ⟨ρ, S, η, at0, p⟩
theorem ss_lock {E : XK} {st : Stmt} {d : DS} (dn : DE) (h : SS X E st d) : SS X E st (dLockS dn d) := by
  refine PS.imp (PS.or h (ps_lock h)) fun D σ H ⟨ρ, S, η, at0, p⟩ => ?_
  unfold dLockS at p
  split at p
  · split at p
    · rename_i n kvs ed
      have ed := dct_at ed
      have hn := (List.getElem?_eq_some_iff.mp ed).1
      obtain ⟨ok, us, h1, h2⟩ := at0.rs.obj n _ ed
      refine .inr ⟨ρ n, .dK us, h1, trivial, fun od => ?_⟩
      obtain ⟨e1, r1⟩ := lock_on at0.rs hn h1 ok h2 od
      have hl : (S.set n (.lck kvs)).length = S.length := List.length_set
      refine ⟨ρ, S.set n (.lck kvs), η, ⟨r1, by rw [hl]; exact at0.re.mono e1.toUp⟩, ?_⟩
      cases ev : d η (S.set n (.lck kvs)) with
      | nx η' S' =>
        rw [ev] at p
        intro ρ' σ' H' e2 a2
        rw [hl] at e2
        unfold offS at p
        simp only at p
        split at p
        · rename_i hs
          obtain ⟨g1, g2, g3, g4⟩ := lock_off hn h1 e2 a2.rs hs
          exact ⟨g1, p ρ' σ' _ (by rw [List.length_set]; exact g3) ⟨g4, by rw [List.length_set]; exact a2.re.mono g2⟩⟩
        · exact p.elim
      | bk η' S' =>
        rw [ev] at p
        intro ρ' σ' H' e2 a2
        rw [hl] at e2
        unfold offS at p
        simp only at p
        split at p
        · rename_i hs
          obtain ⟨g1, g2, g3, g4⟩ := lock_off hn h1 e2 a2.rs hs
          exact ⟨g1, p ρ' σ' _ (by rw [List.length_set]; exact g3) ⟨g4, by rw [List.length_set]; exact a2.re.mono g2⟩⟩
        · exact p.elim
      | ct η' S' =>
        rw [ev] at p
        intro ρ' σ' H' e2 a2
        rw [hl] at e2
        unfold offS at p
        simp only at p
        split at p
        · rename_i hs
          obtain ⟨g1, g2, g3, g4⟩ := lock_off hn h1 e2 a2.rs hs
          exact ⟨g1, p ρ' σ' _ (by rw [List.length_set]; exact g3) ⟨g4, by rw [List.length_set]; exact a2.re.mono g2⟩⟩
        · exact p.elim
      | rt v S' =>
        rw [ev] at p
        intro ρ' x H' e2 r2 v2
        rw [hl] at e2
        unfold offS at p
        simp only at p
        split at p
        · rename_i hs
          obtain ⟨g1, g2, g3, g4⟩ := lock_off hn h1 e2 r2 hs
          exact ⟨g1, p ρ' x _ (by rw [List.length_set]; exact g3) g4 (by rw [List.length_set]; exact v2.mono g2)⟩
        · exact p.elim
      | ex c fs S' =>
        rw [ev] at p
        intro ρ' cls dd H' e2 r2 v2
        rw [hl] at e2
        exact p ρ' cls dd H' (e1.trans e2) r2 v2
      | bad => rw [ev] at p; exact p.elim
    · exact .inl ⟨ρ, S, η, at0, p⟩
  · exact .inl ⟨ρ, S, η, at0, p⟩
/-! ### what stands in `for .. in e`, e a name, a field, a call: a list, a tuple, a text, a locked dict -/
def aWalk (u : AV) : M AIt := fun S => match lckAt S u with
  | some kvs => .ok (itK kvs) S
  | none => aIter u S
theorem si_walk {tg : Expr} {de : DE} (he : SE X W e de) : SI X W tg e (bind1 de aWalk) := by
  refine PI.imp (PI.or (si_keys he) (si_val he)) fun σ H R ⟨ρ, S, η, at0, p⟩ => ?_
  unfold bind1 at p
  cases ev : de η S with
  | ok u S1 =>
    rw [ev] at p
    have p : Post X.K X.w X.mg (ItOk X.K X.w X.mg) ρ S.length H R (wx W σ) (aWalk u S1) := p
    unfold aWalk at p
    cases el : lckAt S1 u with
    | some kvs =>
      rw [el] at p
      refine .inl ⟨ρ, S, η, at0, ?_⟩
      unfold bind1
      rw [ev]
      show Post X.K X.w X.mg (ItOk X.K X.w X.mg) ρ S.length H R (wx W σ) (aKeys u S1)
      unfold aKeys
      rw [el]
      exact p
    | none =>
      rw [el] at p
      refine .inr ⟨ρ, S, η, at0, ?_⟩
      unfold bind1
      rw [ev]
      exact p
  | ex c fs S1 =>
    rw [ev] at p
    refine .inl ⟨ρ, S, η, at0, ?_⟩
    unfold bind1
    rw [ev]
    exact p
  | bad => rw [ev] at p; exact p.elim
end
end Sim

set_option Elab.async false
set_option linter.all false
set_option maxRecDepth 100000
set_option maxHeartbeats 4000000
/-! S16: further statements; a def that calls itself. -/
namespace Sim
open PySem PySem.Spec PyProof.Rows L2
def dCt : DS := fun η S => .ct η S
def dRtN : DS := fun _ S => .rt .non S
/-- x op= e, ints -/
def dAug (i : Nat) (g : Int → Int → Int) (de : DE) : DS := fun η S => match η[i]? with
  | some (some (.int a)) => (de η S).thenS fun v S1 => match v with
    | .int b => .nx (η.set i (some (.int (g a b)))) S1
    | _ => .bad
  | _ => .bad
section
variable {X : Cx} {E : XK} {e : Expr} {de : DE} {pos : Pos}
theorem ss_cont : SS X E (.Continue pos) dCt := PS.imp ps_continue fun D σ H ⟨ρ, S, η, at0, p⟩ => p ρ σ H Ext.refl at0
theorem ss_retN : SS X E (.Return none pos) dRtN := PS.imp ps_retN fun D σ H ⟨ρ, S, η, at0, p⟩ => p ρ .non H Ext.refl at0.rs .non
theorem ss_aug {i : Nat} {x : Str} {op : Operator} {pos' : Pos} {g : Int → Int → Int} (hN : X.N.Nodup) (hi : X.N[i]? = some x) (hx : Loc X.env.scope x) (he : SE X (wc E) e de) (ho : PIp X op (ipI g)) (hf : X.fn x = true ∨ X.env.scope.names.lookup x = some .local := by first | exact .inl rfl | exact .inr rfl | assumption) :
    SS X E (.AugAssign (.Name x pos') op e pos) (dAug i g de) :=
  PS.imp (ps_aug hN hi hx he ho hf) fun D σ H ⟨ρ, S, η, at0, p⟩ => by
    unfold dAug at p
    split at p
    · rename_i a ea
      obtain ⟨v, h1, h2⟩ := at0.re.2 i _ ea
      cases h2
      refine ⟨_, h1, (tG.bindS at0 p).mono fun x H1 ⟨ρ1, S1, u, _, at1, e1, r1, p1⟩ => ?_⟩
      split at p1
      · cases r1
        exact ⟨_, _, rfl, rfl, nx_at (at1.set i (.int _)) p1⟩
      · exact p1.elim
    · exact p.elim
end
/-- a def that calls itself, so many times -/
def dRec (n : Nat) (body : (List AV → M AV) → List AV → M AV) : List AV → M AV := match n with
  | 0 => fun _ _ => .bad
  | k + 1 => body (dRec k body)
theorem dRec_succ (k : Nat) (body : (List AV → M AV) → List AV → M AV) : dRec (k + 1) body = body (dRec k body) := rfl
section
variable {P : Program} {w : World} {K : PySem.W.Frag} {mg : Str → Option Value} {base : Heap} {x cls m qual : Str} {st : Stmt} {N ps : List Str} {k : Nat}
theorem Src.bad (S : Src K mg x st ps) (sc : FnScope N ps (defScope st)) : Df P w K mg base x 1 ps (fun _ _ => .bad) := by
  obtain ⟨f, fd, m, kp, b, ok⟩ := (Src.none (P := P) (w := w) (base := base) S sc).ex
  exact ⟨f, fd, m, kp, b, ok.imp fun vs H Q E ⟨ρ, S, as, _, _, p⟩ => p.elim⟩
theorem SrcM.bad (S : SrcM K mg cls m qual st ps) (sc : FnScope N ps (defScope st)) : DfM P w K mg base cls m 1 ps (fun _ _ => .bad) := by
  obtain ⟨C, f, fd, hm, c, mt, b, ok⟩ := (SrcM.none (P := P) (w := w) (base := base) S sc).ex
  exact ⟨C, f, fd, hm, c, mt, b, ok.imp fun vs H Q E ⟨ρ, S, as, _, _, p⟩ => p.elim⟩
theorem Df.mono {j : Nat} {F : List AV → M AV} (D : Df P w K mg base x j ps F) (h : j ≤ k) : Df P w K mg base x k ps F := by
  obtain ⟨f, fd, hm, kp, b, ok⟩ := D.ex
  exact ⟨f, fd, hm, kp, b, ok.mono h⟩
theorem DfM.mono {j : Nat} {F : List AV → M AV} (D : DfM P w K mg base cls m j ps F) (h : j ≤ k) : DfM P w K mg base cls m k ps F := by
  obtain ⟨C, f, fd, hm, c, mt, b, ok⟩ := D.ex
  exact ⟨C, f, fd, hm, c, mt, b, ok.mono h⟩
end
end Sim

set_option Elab.async false
set_option linter.all false
set_option maxRecDepth 100000
set_option maxHeartbeats 4000000
/-! S17: dict displays; short names of rules. -/
namespace Sim
open PySem PySem.Spec PyProof.Rows L2
def dPairs : List (DE × DE) → Nv → M (List (AV × AV))
  | [], _, S => .ok [] S
  | (dk, dv) :: r, η, S => (dk η S).bind fun k S1 => (dv η S1).bind fun v S2 => (dPairs r η S2).bind fun ps S3 => .ok ((k, v) :: ps) S3
def keysOf : List (AV × AV) → Option (List (Key × AV))
  | [] => some []
  | (k, v) :: r => match keyA k, keysOf r with
    | some q, some kvs => some ((q, v) :: kvs)
    | _, _ => none
def mergeA (kvs more : List (Key × AV)) : List (Key × AV) := more.foldl (fun acc kv => putA acc kv.1 kv.2) kvs
def dDisp (ds : List (DE × DE)) : DE := fun η S => (dPairs ds η S).bind fun ps S1 => match keysOf ps with
  | some kvs => if kvs.length ≤ 15 then .ok (.ref S1.length) (S1 ++ [.dict (mergeA [] kvs)]) else .bad
  | none => .bad
section
variable {X : Cx} {W : WX} {pos : Pos}
abbrev trsOf (X : Cx) (W : WX) (ds : List (DE × DE)) : List (TE × TE) := ds.map fun p => (tD X.K X.w X.mg W p.1, tD X.K X.w X.mg W p.2)
def SPs (X : Cx) (W : WX) (pos : Pos) (ks : List (Option Expr)) (vs : List Expr) (ds : List (DE × DE)) : Prop := PPs X pos ks vs (trsOf X W ds)
theorem sps_nil : SPs X W pos [] [] [] := pps_nil
theorem sps_cons {k v : Expr} {ks : List (Option Expr)} {vs : List Expr} {dk dv : DE} {ds : List (DE × DE)} (hk : SE X W k dk) (hv : SE X W v dv) (hr : SPs X W pos ks vs ds) : SPs X W pos (some k :: ks) (v :: vs) ((dk, dv) :: ds) := pps_cons hk hv hr
def RPr (K : PySem.W.Frag) (w : World) (mg : Str → Option Value) (ρ : Nat → Addr) (N : Nat) (H : Hp) : List (V × V) → List (AV × AV) → Prop := Paired fun p q => RV K w mg ρ N H p.1 q.1 ∧ RV K w mg ρ N H p.2 q.2
theorem pairs_imp {K : PySem.W.Frag} {w : World} {mg : Str → Option Value} : ∀ {ds : List (DE × DE)} {ρ : Nat → Addr} {S : Sto} {σ : L2.St} {η : Nv} {H : Hp} {Q : List (V × V) → Hp → Prop} {k : List (AV × AV) → Sto → R AV} {Q2 : VK}, At K w mg ρ S σ η H →
    PostV K w mg ρ S.length H Q2 (wx W σ) ((dPairs ds η S).bind k) →
    (∀ ρ1 S1 H1 ps us, At K w mg ρ1 S1 σ η H1 → Ext K ρ S.length H ρ1 S1.length H1 → RPr K w mg ρ1 S1.length H1 ps us → dPairs ds η S = .ok us S1 → PostV K w mg ρ1 S1.length H1 Q2 (wx W σ) (k us S1) → Q ps H1) →
    tPairs (ds.map fun p => (tD K w mg W p.1, tD K w mg W p.2)) σ H Q
  | [], ρ, S, σ, η, H, Q, k, Q2, a, p, q => q ρ S H [] [] a Ext.refl .nil rfl p
  | (dk, dv) :: r, ρ, S, σ, η, H, Q, k, Q2, a, p, q => by
    have p0 : PostV K w mg ρ S.length H Q2 (wx W σ) ((dk η S).bind fun x S1 => ((dv η S1).bind fun y S2 => (dPairs r η S2).bind fun ps S3 => .ok ((x, y) :: ps) S3).bind k) := by
      have : (dPairs ((dk, dv) :: r) η S).bind k = (dk η S).bind fun x S1 => ((dv η S1).bind fun y S2 => (dPairs r η S2).bind fun ps S3 => .ok ((x, y) :: ps) S3).bind k := by
        show ((dk η S).bind _).bind k = _
        cases dk η S <;> rfl
      rw [← this]
      exact p
    refine (tG.bind a p0).mono fun x H1 ⟨ρ1, S1, u, eu, at1, e1, r1, p1⟩ => ?_
    have p1' : PostV K w mg ρ1 S1.length H1 Q2 (wx W σ) ((dv η S1).bind fun y S2 => ((dPairs r η S2).bind fun ps S3 => .ok ((u, y) :: ps) S3).bind k) := by
      have : ((dv η S1).bind fun y S2 => (dPairs r η S2).bind fun ps S3 => .ok ((u, y) :: ps) S3).bind k = (dv η S1).bind fun y S2 => ((dPairs r η S2).bind fun ps S3 => .ok ((u, y) :: ps) S3).bind k := by
        cases dv η S1 <;> rfl
      rw [← this]
      exact p1
    refine (tG.bind at1 p1').mono fun y H2 ⟨ρ2, S2, v, ev, at2, e2, r2, p2⟩ => ?_
    have p2' : PostV K w mg ρ2 S2.length H2 Q2 (wx W σ) ((dPairs r η S2).bind fun ps S3 => k ((u, v) :: ps) S3) := by
      have : ((dPairs r η S2).bind fun ps S3 => .ok ((u, v) :: ps) S3).bind k = (dPairs r η S2).bind fun ps S3 => k ((u, v) :: ps) S3 := by
        cases dPairs r η S2 <;> rfl
      rw [← this]
      exact p2
    refine pairs_imp at2 p2' fun ρ3 S3 H3 ps us at3 e3 rp ep p3 => ?_
    refine q ρ3 S3 H3 ((x, y) :: ps) ((u, v) :: us) at3 ((e1.trans e2).trans e3) (.cons ⟨(r1.mono e2.toUp).mono e3.toUp, r2.mono e3.toUp⟩ rp) ?_ p3
    show ((dk η S).bind fun x S1 => (dv η S1).bind fun y S2 => (dPairs r η S2).bind fun ps S3 => .ok ((x, y) :: ps) S3) = _
    rw [eu]
    show ((dv η S1).bind fun y S2 => (dPairs r η S2).bind fun ps S3 => .ok ((u, y) :: ps) S3) = _
    rw [ev]
    show ((dPairs r η S2).bind fun ps S3 => .ok ((u, v) :: ps) S3) = _
    rw [ep]
    rfl
theorem keys_rv {K : PySem.W.Frag} {w : World} {mg : Str → Option Value} {ρ : Nat → Addr} {N : Nat} {H : Hp} : ∀ {ps : List (V × V)} {us : List (AV × AV)} {kvs : List (Key × AV)}, RPr K w mg ρ N H ps us → keysOf us = some kvs → ∃ vs : List (Key × V), ps = vs.map (fun kv => (kV kv.1, kv.2)) ∧ RPs K w mg ρ N H vs kvs ∧ ∀ p ∈ kvs, okK p.1 = true := by
  intro ps us kvs r h
  unfold RPr at r
  induction r generalizing kvs with
  | nil => cases h; exact ⟨[], rfl, .nil, fun _ h => by cases h⟩
  | @cons p q ps us a t ih =>
    obtain ⟨k, v⟩ := q
    unfold keysOf at h
    cases ek : keyA k with
    | none => rw [ek] at h; cases h
    | some kk =>
      cases er : keysOf us with
      | none => rw [ek, er] at h; cases h
      | some kvs' =>
        rw [ek, er] at h
        cases h
        obtain ⟨vs, h1, h2, h3⟩ := ih er
        obtain ⟨p1, p2⟩ := p
        obtain ⟨a1, a2⟩ := a
        have e1 : p1 = kV kk := key_rv a1 ek
        have e2 := key_ok a1 ek
        subst e1
        refine ⟨(kk, p2) :: vs, by rw [h1]; rfl, .cons ⟨rfl, a2⟩ h2, fun p hp => ?_⟩
        rcases List.mem_cons.mp hp with rfl | hp
        · exact e2
        · exact h3 p hp
theorem merge_rv {K : PySem.W.Frag} {w : World} {mg : Str → Option Value} {ρ : Nat → Addr} {N : Nat} {H : Hp} : ∀ {us : List (Key × V)} {kvs : List (Key × AV)}, RPs K w mg ρ N H us kvs → ∀ {us0 : List (Key × V)} {kvs0 : List (Key × AV)}, RPs K w mg ρ N H us0 kvs0 → RPs K w mg ρ N H (mergeK us0 us) (mergeA kvs0 kvs) := by
  intro us kvs r
  unfold RPs at r
  induction r with
  | nil => exact fun q => q
  | @cons p q ps qs a t ih =>
    intro us0 kvs0 q0
    obtain ⟨p1, p2⟩ := p
    obtain ⟨q1, q2⟩ := q
    have a1 : p1 = q1 := a.1
    subst a1
    exact ih (q0.put p1 a.2)
theorem merge_ok : ∀ (kvs kvs0 : List (Key × AV)), dOk kvs0 → (∀ p ∈ kvs, okK p.1 = true) → kvs0.length + kvs.length ≤ sizeLine → dOk (mergeA kvs0 kvs)
  | [], kvs0, h, _, _ => h
  | p :: r, kvs0, h, hk, hl => by
    rw [List.length_cons] at hl
    have h1 : dOk (putA kvs0 p.1 p.2) := dOk.put h (hk p (List.mem_cons_self ..)) p.2 (by omega)
    have h2 := putA_len kvs0 p.1 p.2
    exact merge_ok r _ h1 (fun q hq => hk q (List.mem_cons_of_mem _ hq)) (by show (putA kvs0 p.1 p.2).length + r.length ≤ sizeLine; omega)
theorem se_disp {keys : List (Option Expr)} {values : List Expr} {ds : List (DE × DE)} (h : SPs X W pos keys values ds) (hall : keys.all (·.isSome) = true := by rfl) (hl : keys.length = values.length := by rfl) (h0 : keys ≠ [] := by exact fun z => by cases z) (h15 : keys.length ≤ 15 := by decide) : SE X W (.Dict keys values pos) (dDisp ds) :=
  PE.imp (pe_disp h hall hl h0 h15) fun σ H Q ⟨ρ, S, η, at0, p⟩ pp np => by
    have at1 : At X.K X.w X.mg ρ S σ η (upd H pp (.dK [])) := ⟨at0.rs.other np, at0.re.mono (Up.other np)⟩
    have p1 := p.step (Ext.other (K := X.K) (ρ := ρ) (N := S.length) (o := .dK []) np)
    refine pairs_imp at1 p1 fun ρ1 S1 H1 ps us at2 e1 rp ep _ => ?_
    have nim : ∀ n, n < S.length → ρ n ≠ pp := fun n hn => at0.rs.ne_new np hn
    have hp : H1 pp = some (.dK []) := e1.keep _ _ upd_same nim
    refine ⟨hp, ?_⟩
    unfold dDisp at p
    rw [ep] at p
    have p2 : PostV X.K X.w X.mg ρ S.length H Q (wx W σ) (match keysOf us with
      | some kvs => if kvs.length ≤ 15 then .ok (.ref S1.length) (S1 ++ [.dict (mergeA [] kvs)]) else .bad
      | none => .bad) := p
    split at p2
    · rename_i kvs ek
      split at p2
      · rename_i h15
        obtain ⟨vs, h1, h2, h3⟩ := keys_rv rp ek
        have hlen : vs.length = kvs.length := h2.length
        refine ⟨vs, h1, by rw [hlen]; exact h15, ?_⟩
        have nim1 : ∀ n, n < S1.length → ρ1 n ≠ pp := fun n hn z => by
          by_cases hh : n < S.length
          · exact nim n hh ((e1.eq n hh).symm.trans z)
          · have := e1.fresh n (Nat.not_lt.mp hh) hn
            rw [z, upd_same] at this
            cases this
        have ow : ∀ u, H1 pp = some u → Own u := fun u hu => by rw [hp] at hu; cases hu; exact own_dK
        have ok : dOk (mergeA [] kvs) := merge_ok kvs [] ⟨Nat.zero_le _, fun _ h => by cases h⟩ h3 (by have : sizeLine = 16777216 := sizeLine_eq; rw [List.length_nil]; omega)
        have up := Up.laid (K := X.K) (ρ := ρ1) (N := S1.length) (u := .dK (mergeK [] vs)) ow
        have rs2 := at2.rs.laidAt nim1 ow (o := .dict (mergeA [] kvs)) (u := .dK (mergeK [] vs)) ⟨ok, _, upd_same, (merge_rv h2 (us0 := []) (kvs0 := []) .nil).mono up⟩
        have e2 := ((Ext.other (K := X.K) (ρ := ρ) (N := S.length) (o := .dK []) np).trans e1).laidAt (u := .dK (mergeK [] vs)) np ow
        have hl2 : (S1 ++ [AO.dict (mergeA [] kvs)]).length = S1.length + 1 := by rw [List.length_append]; rfl
        rw [← hl2] at e2
        have eq1 : rho ρ1 S1.length pp S1.length = pp := by unfold rho; rw [if_pos rfl]
        have q := RV.ref (K := X.K) (w := X.w) (mg := X.mg) (ρ := rho ρ1 S1.length pp) (N := (S1 ++ [AO.dict (mergeA [] kvs)]).length) (H := upd H1 pp (.dK (mergeK [] vs))) S1.length (by rw [hl2]; exact Nat.lt_succ_self _)
        rw [eq1] at q
        exact p2 _ _ _ e2 rs2 q
      · exact p2.elim
    · exact p2.elim
end
theorem u65 {k : Nat} {A : Around} (r : Room k A) : A.units + 65 < cLine := by have := r.un; omega
section
variable {X : Cx} {W : WX} {a b c : Expr} {da db dc : DE} {pos : Pos} {k : Nat}
theorem e_add (ha : SE X W a da) (hb : SE X W b db) : SE X W (.BinOp a .Add b pos) (bind2 da db aAdd) := se_op op_add4 add4_ok ha hb
theorem e_sub (ha : SE X W a da) (hb : SE X W b db) : SE X W (.BinOp a .Sub b pos) (bind2 da db aSub) := se_op op_subC sub_ok ha hb
theorem e_mul (ha : SE X W a da) (hb : SE X W b db) : SE X W (.BinOp a .Mult b pos) (bind2 da db aMul) := se_op op_mul2 mul_ok ha hb
theorem e_mod (ha : SE X W a da) (hb : SE X W b db) : SE X W (.BinOp a .Mod b pos) (bind2 da db aMod) := se_op op_modN mod_ok ha hb
theorem e_fdiv (ha : SE X W a da) (hb : SE X W b db) : SE X W (.BinOp a .FloorDiv b pos) (bind2 da db aFdiv) := se_op op_fdivB fdiv_ok ha hb
theorem e_pow (ha : SE X W a da) (hb : SE X W b db) : SE X W (.BinOp a .Pow b pos) (bind2 da db aPow) := se_op op_pow pow_ok ha hb
theorem e_neg (ha : SE X W a da) : SE X W (.UnaryOp .USub a pos) (bind1 da aNeg) := se_un un_neg neg_ok ha
theorem e_lt (ha : SE X W a da) (hb : SE X W b db) : SE X W (.Compare a [.Lt] [b] pos) (bind2 da db aLt) := se_cmp op_lt cmp_ok ha hb (nomark _)
theorem e_le (ha : SE X W a da) (hb : SE X W b db) : SE X W (.Compare a [.LtE] [b] pos) (bind2 da db aLe) := se_cmp op_le cmp_ok ha hb (nomark _)
theorem e_gt (ha : SE X W a da) (hb : SE X W b db) : SE X W (.Compare a [.Gt] [b] pos) (bind2 da db aGt) := se_cmp op_gt cmp_ok ha hb (nomark _)
theorem e_ge (ha : SE X W a da) (hb : SE X W b db) : SE X W (.Compare a [.GtE] [b] pos) (bind2 da db aGe) := se_cmp op_ge cmp_ok ha hb (nomark _)
theorem e_is (ha : SE X W a da) (hb : SE X W b db) : SE X W (.Compare a [.Is] [b] pos) (bind2 da db aIsN) := se_cmp op_isN isN_ok ha hb (nomark _)
theorem e_isnot (ha : SE X W a da) (hb : SE X W b db) : SE X W (.Compare a [.IsNot] [b] pos) (bind2 da db aNotN) := se_cmp op_notN notN_ok ha hb (nomark _)
theorem e_eq (r : Room k X.A) (ha : SE X W a da) (hb : SE X W b db) : SE X W (.Compare a [.Eq] [b] pos) (bind2 da db aEq) := se_cmp (((op_eqD r.units).or (op_dq r.units0)).or (op_tr r.units)) eq_ok ha hb (nomark _)
theorem e_ne (r : Room k X.A) (ha : SE X W a da) (hb : SE X W b db) : SE X W (.Compare a [.NotEq] [b] pos) (bind2 da db aNe) := se_cmp (((op_neD r.units).or (op_dn r.units0)).or (op_tn r.units)) ne_ok ha hb (nomark _)
theorem e_in (r : Room k X.A) (ha : SE X W a da) (hb : SE X W b db) (hm : behindInMarks .In b = false := by rfl) : SE X W (.Compare a [.In] [b] pos) (bind2 da db aIn) := se_in (u65 r) ha hb hm
theorem e_notin (r : Room k X.A) (ha : SE X W a da) (hb : SE X W b db) (hm : behindInMarks .NotIn b = false := by rfl) : SE X W (.Compare a [.NotIn] [b] pos) (bind2 da db aNotIn) := se_notIn (u65 r) ha hb hm
theorem t_lt (ha : SE X W a da) (hb : SE X W b db) : ST X W (.Compare a [.Lt] [b] pos) (bind1 (bind2 da db aLt) asB) := st_cmp op_lt cmp_ok ha hb (nomark _)
theorem t_le (ha : SE X W a da) (hb : SE X W b db) : ST X W (.Compare a [.LtE] [b] pos) (bind1 (bind2 da db aLe) asB) := st_cmp op_le cmp_ok ha hb (nomark _)
theorem t_gt (ha : SE X W a da) (hb : SE X W b db) : ST X W (.Compare a [.Gt] [b] pos) (bind1 (bind2 da db aGt) asB) := st_cmp op_gt cmp_ok ha hb (nomark _)
theorem t_ge (ha : SE X W a da) (hb : SE X W b db) : ST X W (.Compare a [.GtE] [b] pos) (bind1 (bind2 da db aGe) asB) := st_cmp op_ge cmp_ok ha hb (nomark _)
theorem t_is (ha : SE X W a da) (hb : SE X W b db) : ST X W (.Compare a [.Is] [b] pos) (bind1 (bind2 da db aIsN) asB) := st_cmp op_isN isN_ok ha hb (nomark _)
theorem t_isnot (ha : SE X W a da) (hb : SE X W b db) : ST X W (.Compare a [.IsNot] [b] pos) (bind1 (bind2 da db aNotN) asB) := st_cmp op_notN notN_ok ha hb (nomark _)
theorem t_eq (r : Room k X.A) (ha : SE X W a da) (hb : SE X W b db) : ST X W (.Compare a [.Eq] [b] pos) (bind1 (bind2 da db aEq) asB) := st_cmp (((op_eqD r.units).or (op_dq r.units0)).or (op_tr r.units)) eq_ok ha hb (nomark _)
theorem t_ne (r : Room k X.A) (ha : SE X W a da) (hb : SE X W b db) : ST X W (.Compare a [.NotEq] [b] pos) (bind1 (bind2 da db aNe) asB) := st_cmp (((op_neD r.units).or (op_dn r.units0)).or (op_tn r.units)) ne_ok ha hb (nomark _)
theorem t_in (r : Room k X.A) (ha : SE X W a da) (hb : SE X W b db) (hm : behindInMarks .In b = false := by rfl) : ST X W (.Compare a [.In] [b] pos) (bind1 (bind2 da db aIn) asB) := st_in (u65 r) ha hb hm
theorem t_notin (r : Room k X.A) (ha : SE X W a da) (hb : SE X W b db) (hm : behindInMarks .NotIn b = false := by rfl) : ST X W (.Compare a [.NotIn] [b] pos) (bind1 (bind2 da db aNotIn) asB) := st_notIn (u65 r) ha hb hm
/-- a le b le c -/
theorem e_chle (ha : SE X W a da) (hb : SE X W b db) (hc : SE X W c dc) (hm : lastMarks [.LtE, .LtE] [b, c] = false := by with_unfolding_all rfl) : SE X W (.Compare a [.LtE, .LtE] [b, c] pos) (dChain aLe aLe da db dc) := se_chain op_le cmp_ok op_le cmp_ok ha hb hc hm
theorem t_chle (ha : SE X W a da) (hb : SE X W b db) (hc : SE X W c dc) (hm : lastMarks [.LtE, .LtE] [b, c] = false := by with_unfolding_all rfl) : ST X W (.Compare a [.LtE, .LtE] [b, c] pos) (bind1 (dChain aLe aLe da db dc) asB) := st_chain op_le cmp_ok op_le cmp_ok ha hb hc hm
end
/-! ### try, where nothing is raised -/
def dThru (d : DS) : DS := fun η S => match d η S with
  | .ex _ _ _ => .bad
  | r => r
def E0 : XK := fun _ _ _ => False
theorem ss_thru {X : Cx} {E : XK} {body : List Stmt} {h₀ : ExceptHandler} {hs : List ExceptHandler} {d : DS} {pos : Pos} (hb : SSs X.nox E0 body d) : SS X E (.Try body (h₀ :: hs) [] [] pos) (dThru d) :=
  PS.imp (ps_try_thru0 hb) fun D σ H ⟨ρ, S, η, at0, p⟩ => by
    refine ⟨ρ, S, η, at0, ?_⟩
    unfold dThru at p
    cases e : d η S with
    | nx _ _ => rw [e] at p; exact p
    | bk _ _ => rw [e] at p; exact p
    | ct _ _ => rw [e] at p; exact p
    | rt _ _ => rw [e] at p; exact p
    | ex _ _ _ => rw [e] at p; exact p.elim
    | bad => rw [e] at p; exact p.elim
/-! ### what the text has written -/
theorem hasF_nil {K : PySem.W.Frag} {mg : Str → Option Value} {f : Str} : HasF K mg [] f := ⟨fun _ h => by cases h⟩
theorem hasF_in {K : PySem.W.Frag} {mg : Str → Option Value} {f c : Str} {cs : List Str} {C : Addr} (hm : mg c = some (.ref C)) (h : Cls K C) (n : NoAttr K C f) (r : HasF K mg cs f) : HasF K mg (c :: cs) f := ⟨fun d hd D hD => by
  rcases List.mem_cons.mp hd with rfl | hd
  · rw [hm] at hD
    cases hD
    exact ⟨h, n⟩
  · exact r.at_ d hd D hD⟩
theorem hasF_out {K : PySem.W.Frag} {mg : Str → Option Value} {f c : Str} {cs : List Str} (hm : mg c = none) (r : HasF K mg cs f) : HasF K mg (c :: cs) f := ⟨fun d hd D hD => by
  rcases List.mem_cons.mp hd with rfl | hd
  · rw [hm] at hD
    cases hD
  · exact r.at_ d hd D hD⟩
def KdL (K : PySem.W.Frag) (a : Addr) : List (Str × Option Int) → Prop
  | [] => True
  | (z, some i) :: r => (∃ t, PySem.W.nsIn K a z = some (some (.int i t))) ∧ KdL K a r
  | (z, none) :: r => PySem.W.nsIn K a z = some none ∧ KdL K a r
theorem kdAt_of {K : PySem.W.Frag} {w : World} {a : Addr} {es : Array DictEntry} {n : Nat} {kvs : List (Str × Option Int)} (D : KDict K w a es n) (h : KdL K a kvs) : KdAt K w a kvs := by
  refine ⟨es, n, D, fun z => ?_⟩
  induction kvs with
  | nil => trivial
  | cons p r ih =>
    obtain ⟨y, o⟩ := p
    rw [List.lookup_cons]
    cases hb : z == y with
    | true =>
      have : z = y := by simpa using hb
      subst this
      cases o with
      | some i => exact h.1
      | none => exact h.1
    | false =>
      cases o with
      | some i => exact ih h.2
      | none => exact ih h.2
/-- the law's promise, by its plain function -/
def spLaw (K : PySem.W.Frag) : Sp := fun vs H Q _ => ∃ (a : Addr) (ns : List Int), vs = [.ref a] ∧ SqL K H a (ns.map V.int) ∧ Only H ∧ ns.length ≤ 63 ∧ ∀ H', Q (.bl true) H'
theorem law_imp {K : PySem.W.Frag} {w : World} {mg : Str → Option Value} {F : List AV → M AV} (h : ∀ ns : List Int, ns.length ≤ 63 → ∃ S', F [.rl ns] [] = .ok (.bl true) S') {vs : List V} {H : Hp} {Q : VK} {E : XK} (q : spLaw K vs H Q E) : spD K w mg F vs H Q E := by
  obtain ⟨a, ns, rfl, hs, ho, hl, q⟩ := q
  obtain ⟨S', e⟩ := h ns hl
  have f : (∀ H', SqL K H' a (ns.map V.int)) ∨ ∃ o, H a = some (.frz o (.lst (ns.map V.int))) := by
    rcases hs with (h1 | ⟨o, h1⟩) | h1
    · rcases ho a with h2 | ⟨o, xs, h2⟩
      · rw [h2] at h1; cases h1
      · rw [h2] at h1; cases h1
    · exact .inr ⟨o, h1⟩
    · exact .inl fun H' => .inr h1
  refine ⟨fun _ => a, [], [.rl ns], ⟨fun i j hi _ _ => absurd hi (Nat.not_lt_zero i), fun n o h => by cases h⟩, .cons (.rl hs f) .nil, ?_⟩
  rw [e]
  intro ρ' x H' _ _ r
  cases r
  exact q _
theorem fn_den {P : Program} {w : World} {K : PySem.W.Frag} {mg : Str → Option Value} {base : Heap} {x qual : Str} {st : Stmt} {N ps : List Str} {k : Nat} {d : DS} {f : Addr} {fd : FuncData} (F : Fun K x qual st f fd) (sc : FnScope N ps (defScope st)) (hb : Bd P w K mg base N qual st k d)
    {sp : Sp} (h : ∀ vs H Q E, sp vs H Q E → spD K w mg (dDef ps.length N.length d) vs H Q E) : FnOk P w K mg base (L2.CX P w) (k + 1) f fd ps sp :=
  (F.okX sc (fun vs H Q E h => spD_len (dDef_ar _ _ _) h) fun cdv A outer s H vs Q E hr h => ⟨_, hb f cdv A outer s H E hr, body_ok (scope_le sc) h⟩).imp h
end Sim

set_option Elab.async false
set_option linter.all false
set_option maxRecDepth 100000
set_option maxHeartbeats 4000000
/-! S18: defs with defaults, called by place. -/
namespace Sim
open PySem PySem.Spec PyProof.Rows L2
/-- a def with defaults, as the text has it -/
structure SrcD (K : PySem.W.Frag) (mg : Str → Option Value) (x : Str) (st : Stmt) (ps : List Str) (dvs : List V) : Prop where
  ex : ∃ f fd, mg x = some (.ref f) ∧ FunD K x x (defArgs st) (defBody st) (defScope st) dvs [] f fd ∧ ∀ j, j ≤ dvs.length → ∃ ds, Vals (dvs.drop j) ds ∧ Binds K fd ps ds
structure DfD (P : Program) (w : World) (K : PySem.W.Frag) (mg : Str → Option Value) (base : Heap) (x : Str) (k : Nat) (ps : List Str) (dvs : List V) (F : List AV → M AV) : Prop where
  ex : ∃ f fd ds, mg x = some (.ref f) ∧ PySem.W.keepIn K (.ref f) = true ∧ Vals dvs ds ∧ Binds K fd ps ds ∧ FnOk P w K mg base (L2.CX P w) k f fd ps (spD K w mg F)
section
variable {P : Program} {w : World} {K : PySem.W.Frag} {mg : Str → Option Value} {base : Heap} {x : Str} {st : Stmt} {N ps : List Str} {k : Nat} {d : DS} {dvs : List V}
theorem SrcD.ok (S : SrcD K mg x st ps dvs) (sc : FnScope N ps (defScope st)) (hb : Bd P w K mg base N x st k d) (j : Nat) (hj : j ≤ dvs.length := by decide) : DfD P w K mg base x (k + 1) ps (dvs.drop j) (dDef ps.length N.length d) := by
  obtain ⟨f, fd, m, F, b⟩ := S.ex
  obtain ⟨ds, hv, hb2⟩ := b j hj
  exact ⟨f, fd, ds, m, F.kp, hv, hb2, F.ok sc (fun vs H Q E h => spD_len (dDef_ar _ _ _) h) fun cdv A outer s H vs Q E hr h => ⟨_, hb f cdv A outer s H E hr, body_ok (scope_le sc) h⟩⟩
end
section
variable {X : Cx} {W : WX} {E : XK} {x : Str} {k : Nat} {ps : List Str} {F : List AV → M AV} {e : Expr} {es : List Expr} {dl : DL} {p pos : Pos} {dvs : List V} {avs : List AV}
/-- plain constants -/
structure CV (K : PySem.W.Frag) (w : World) (mg : Str → Option Value) (dvs : List V) (avs : List AV) : Prop where
  at_ : ∀ ρ N H, RVs K w mg ρ N H dvs avs
theorem CV.nil {K : PySem.W.Frag} {w : World} {mg : Str → Option Value} : CV K w mg [] [] := ⟨fun _ _ _ => .nil⟩
theorem CV.int {K : PySem.W.Frag} {w : World} {mg : Str → Option Value} (i : Int) (h : CV K w mg dvs avs) : CV K w mg (.int i :: dvs) (.int i :: avs) := ⟨fun _ _ _ => .cons (.int i) (h.at_ _ _ _)⟩
theorem CV.bl {K : PySem.W.Frag} {w : World} {mg : Str → Option Value} (i : Bool) (h : CV K w mg dvs avs) : CV K w mg (.bl i :: dvs) (.bl i :: avs) := ⟨fun _ _ _ => .cons (.bl i) (h.at_ _ _ _)⟩
theorem CV.non {K : PySem.W.Frag} {w : World} {mg : Str → Option Value} (h : CV K w mg dvs avs) : CV K w mg (.non :: dvs) (.non :: avs) := ⟨fun _ _ _ => .cons .non (h.at_ _ _ _)⟩
def plus (F : List AV → M AV) (avs : List AV) : List AV → M AV := fun as => F (as ++ avs)
theorem se_callD (D : DfD X.prog X.w X.K X.mg X.base x k ps dvs F) (hc : CV X.K X.w X.mg dvs avs) (hr : Room k X.A) (tk : Takes X W) (hg : Gl X x) (ha : SA X W (e :: es) dl) (hdb : (x == ("__debug__" : Str)) = false := by decide)
    (he : starEach (e :: es) X.env = (false, eval e X.env) :: starEach es X.env := by rfl) (hpl : (backTo pos (starEach es X.env)).any (·.1) = false := by rfl) : SE X W (.Call (.Name x p) (e :: es) [] pos) (bind1 dl (plus F avs)) := by
  obtain ⟨f, fd, ds, hm, kp, hv, b, ok⟩ := D.ex
  refine PE.imp (pe_callSD ok hr hg hm kp b hv (fun σ => passAt tk σ) ha hdb he hpl) fun σ H Q q => ?_
  exact (args_imp q).mono fun vs H1 ⟨ρ, S, as, rs, r, p⟩ => ⟨ρ, S, as ++ avs, rs, r.append (hc.at_ _ _ _), p⟩
end
end Sim
namespace Sim
open PySem PySem.Spec PyProof.Rows L2
theorem DfD.full {P : Program} {w : World} {K : PySem.W.Frag} {mg : Str → Option Value} {base : Heap} {x : Str} {k : Nat} {ps : List Str} {F : List AV → M AV} (D : DfD P w K mg base x k ps [] F) : Df P w K mg base x k ps F := by
  obtain ⟨f, fd, ds, hm, kp, hv, b, ok⟩ := D.ex
  cases hv
  exact ⟨f, fd, hm, kp, b, ok⟩
end Sim

set_option Elab.async false
set_option linter.all false
set_option maxRecDepth 100000
set_option maxHeartbeats 4000000
/-! S19: sorted(set(..)) of texts. -/
namespace Sim
open PySem PySem.Spec PyProof.Rows L2
/-- an entry's text -/
def kyS (e : Int × Value) : Str := match e.2 with
  | .str z _ => z
  | _ => Str.empty
structure EntS (P : Program) (w : World) (e : Int × Value) : Prop where
  ex : ∃ z u, e.2 = Value.str z u ∧ e.1 = (PySem.strKind P w).hash z
/-- entries of texts, each once -/
structure EntsS (P : Program) (w : World) (S : Str → Bool) (l : List (Int × Value)) : Prop where
  all : ∀ e ∈ l, EntS P w e
  once : (l.map kyS).Nodup
  mem : ∀ z, S z = true ↔ z ∈ l.map kyS
/-- a set of texts that can be walked -/
structure TSet (P : Program) (w : World) (h : Heap) (a : Addr) (S : Str → Bool) (n : Nat) : Prop where
  ex : ∃ o es ep t, h.get? a = some o ∧ o.ExactSet ∧ o.data = .set es ep t ∧ EntsS P w S es.toList ∧ es.size < scanBound ∧ t.fits es.size = true ∧ es.size = n ∧ Ris t.place.toList ∧ (w.params.followText "set-order" = true ∨ t.led = true)
section
variable {P : Program} {w : World} {h h' : Heap} {a : Addr} {S S' : Str → Bool} {n : Nat} {l l' : List (Int × Value)}
theorem EntsS.perm (r : EntsS P w S l) (p : l'.Perm l) : EntsS P w S l' := ⟨fun e he => r.all e (p.mem_iff.mp he), ((p.map kyS).nodup_iff).mpr r.once, fun z => (r.mem z).trans ((p.map kyS).mem_iff).symm⟩
theorem EntsS.elems (r : EntsS P w S l) : ElemsOf (PySem.strKind P w) l := fun e he => by
  obtain ⟨z, u, h1, h2⟩ := (r.all e he).ex
  exact ⟨⟨z, by rw [h1]; exact strKind_is P w z u, h2⟩, by rw [h1]; rfl⟩
theorem EntS.is_iff {e : Int × Value} (g : EntS P w e) (z : Str) : (PySem.strKind P w).is z e.2 = true ↔ kyS e = z := by
  obtain ⟨y, u, h1, _⟩ := g.ex
  have h3 : (PySem.strKind P w).is y e.2 = true := by rw [h1]; exact strKind_is P w y u
  have h4 : kyS e = y := by unfold kyS; rw [h1]
  rw [h4]
  exact ⟨fun q => (PySem.strKind P w).inj _ _ _ h3 q, fun q => by rw [← q]; exact h3⟩
theorem EntsS.has (r : EntsS P w S l) (z : Str) : z ∈ l.map kyS ↔ ∃ e ∈ l, (PySem.strKind P w).is z e.2 = true := by
  rw [List.mem_map]
  exact ⟨fun ⟨e, he, q⟩ => ⟨e, he, ((r.all e he).is_iff z).mpr q⟩, fun ⟨e, he, q⟩ => ⟨e, he, ((r.all e he).is_iff z).mp q⟩⟩
theorem EntsS.more (r : EntsS P w S l) {z : Str} {u : Tok} (hz : z ∉ l.map kyS) (p : l'.Perm (((PySem.strKind P w).hash z, Value.str z u) :: l)) : EntsS P w (fun y => S y || decide (y = z)) l' := by
  have r2 : EntsS P w (fun y => S y || decide (y = z)) (((PySem.strKind P w).hash z, Value.str z u) :: l) := by
    refine ⟨fun e he => ?_, ?_, fun y => ?_⟩
    · rcases List.mem_cons.mp he with q | q
      · exact ⟨z, u, by rw [q], by rw [q]⟩
      · exact r.all e q
    · exact List.nodup_cons.mpr ⟨hz, r.once⟩
    · rw [Bool.or_eq_true, decide_eq_true_eq, r.mem y, List.map_cons, List.mem_cons]
      exact Or.comm
  exact r2.perm p
theorem TSet.keep (r : TSet P w h a S n) (k : ∀ o, h.get? a = some o → h'.get? a = some o) : TSet P w h' a S n := by
  obtain ⟨o, es, ep, t, ho, q⟩ := r.ex
  exact ⟨o, es, ep, t, k o ho, q⟩
theorem TSet.same (r : TSet P w h a S n) (e : ∀ z, S' z = S z) : TSet P w h a S' n := (show S' = S from funext e) ▸ r
theorem TSet.new (ho : h.get? a = some { cls := .type "set", dict := none, data := .set #[] 0 (.fresh 0 0 (!w.params.followText "set-order")) }) : TSet P w h a (fun _ => false) 0 := by
  refine ⟨_, #[], 0, _, ho, ⟨rfl, rfl, rfl⟩, rfl, ⟨fun e he => by simp at he, by simp, fun z => by simp⟩, by decide, by rfl, rfl, List.Pairwise.nil, ?_⟩
  show _ ∨ (!w.params.followText "set-order") = true
  cases w.params.followText "set-order" <;> simp
end
section
variable {P : Program} {w : World} {A : Around} {E : Value → Shared → Prop} {s : Shared} {a : Addr} {S : Str → Bool} {n : Nat}
theorem pass_rule {m : String} (b : Bool) {s1 : Shared} {Q : Unit → Shared → Prop} (q : Q () s1) : wpAny (model P w) A (match b with | true => rule m | false => pure ()) Q E s1 := by
  cases b
  · exact wpAny_pure q
  · exact wpAny_rule q
/-- what stands behind an entry laid -/
theorem laid_tail {o : Obj} {es es1 : Array (Int × Value)} {ep : Nat} {t t1 : SetTable} {S' : Str → Bool} {wd : Bool} {g : Bool → Sem Unit} {R : Option Bool → Shared → Prop} (hg : ∀ (b : Bool) (s1 : Shared) (Q' : Unit → Shared → Prop), Q' () s1 → wpAny (model P w) A (g b) Q' E s1)
    (ho : s.heap.get? a = some o) (hex : o.ExactSet) (hd : o.data = .set es ep t) (r : EntsS P w S' es1.toList) (hb : es1.size < scanBound) (hf : t1.fits es1.size = true) (hr : Ris t1.place.toList) (hl : w.params.followText "set-order" = true ∨ t1.led = true)
    (hR : ∀ h', Heap.SameBut a s.heap h' → TSet P w h' a S' es1.size → R (some true) { s with heap := h' }) :
    wpAny (model P w) A (do
      storeSet a es1 t1
      if (!wd && t1.tooFull) = true then do
        g (relayAll t1 es1 (SetTable.grown es1.size)).2.2
        storeSet a (relayAll t1 es1 (SetTable.grown es1.size)).1 (relayAll t1 es1 (SetTable.grown es1.size)).2.1
        pure (some true)
      else pure (some true)) R E s := by
  have o1 := store_at (es' := es1) (t' := t1) ho hd
  have b1 := Heap.SameBut.update s.heap a (Obj.putSet es1 t1)
  refine wpAny_bind (wpAny_storeSet_of ho hd ?_ (fits_of_scanBound hb))
  by_cases hc : (!wd && t1.tooFull) = true
  · rw [if_pos hc]
    have p := relayAll_perm t1 es1 (SetTable.grown es1.size)
    have f2 := relayAll_fits t1 es1 (SetTable.grown es1.size)
    have r2 := relayAll_ris t1 es1 (SetTable.grown es1.size)
    have l2 := relayAll_led t1 es1 (SetTable.grown es1.size)
    rcases hZ : relayAll t1 es1 (SetTable.grown es1.size) with ⟨es2, t2, gv⟩
    rw [hZ] at p f2 r2 l2
    have sz : es2.size = es1.size := by rw [← Array.length_toList, p.length_eq, Array.length_toList]
    have hb2 : es2.size < scanBound := sz ▸ hb
    refine wpAny_bind (hg _ _ _ (wpAny_bind (wpAny_storeSet_of o1 rfl (wpAny_pure (hR _ (b1.trans (Heap.SameBut.update _ a _)) ?_)) (fits_of_scanBound hb2))))
    exact ⟨_, es2, _, t2, store_at (es' := es2) (t' := t2) o1 rfl, hex, rfl, r.perm p, hb2, f2, sz, r2, hl.imp id fun z => l2.trans z⟩
  · rw [if_neg hc]
    exact wpAny_pure (hR _ b1 ⟨_, es1, _, t1, o1, hex, rfl, r, hb, hf, rfl, hr, hl⟩)
/-- a text added -/
theorem tset_add {z : Str} {u : Tok} {Q : Bool → Shared → Prop} (R : TSet P w s.heap a S n) (room : n + 1 < scanBound)
    (hQ : ∀ h', Heap.SameBut a s.heap h' → TSet P w h' a (fun y => S y || decide (y = z)) (if S z = true then n else n + 1) → Q (!S z) { s with heap := h' }) :
    wpAny (model P w) A (setAddHashed a (.str z u) ((PySem.strKind P w).hash z)) Q E s := by
  obtain ⟨o, es, ep, t, ho, hex, hd, g, hb, hf, hn, hr, hl⟩ := R.ex
  have hz : (PySem.strKind P w).is z (.str z u) = true := strKind_is P w z u
  have sc : (Value.str z u).scannable = true := rfl
  have el := g.elems
  unfold setAddHashed setAddHashedIn
  refine wpAny_holding (wpAny_bind (wpAny_setState_of ho hd hf ?_))
  dsimp only
  rw [byScan_of sc hb el, if_pos rfl]
  unfold setAddByScan
  refine wpAny_bind (wpAny_bind (wpAny_rule (wpAny_bind (wpAny_setScan_of hz ho hd hf el ?_))))
  rcases hj : List.findIdx? (fun e => (PySem.strKind P w).is z e.2) es.toList with _ | j
  · have no : z ∉ es.toList.map kyS := fun q => by
      obtain ⟨e, he, c⟩ := (g.has z).mp q
      have := List.findIdx?_eq_none_iff.mp hj e he
      rw [c] at this
      cases this
    have Sz : S z = false := by
      cases q : S z
      · rfl
      · exact absurd ((g.mem z).mp q) no
    rw [hj]
    dsimp only
    have p := layNew_perm t es ((PySem.strKind P w).hash z) (.str z u)
    have f1 := layNew_fits t es ((PySem.strKind P w).hash z) (.str z u)
    have r1 := layNew_ris t es ((PySem.strKind P w).hash z) (.str z u) hr
    have l1 := layNew_led t es ((PySem.strKind P w).hash z) (.str z u)
    rcases hZ : layNew t es ((PySem.strKind P w).hash z) (.str z u) with ⟨es1, t1, wd, gv⟩
    rw [hZ] at p f1 r1 l1
    dsimp only at p f1 r1 l1 ⊢
    rw [Array.toList_push] at p
    have p2 : es1.toList.Perm (((PySem.strKind P w).hash z, Value.str z u) :: es.toList) := p.trans (List.perm_append_singleton _ _)
    have g1 := g.more no p2
    have sz : es1.size = n + 1 := by rw [← Array.length_toList, p2.length_eq, List.length_cons, Array.length_toList, hn]
    have hb1 : es1.size < scanBound := sz ▸ room
    have hl1 : w.params.followText "set-order" = true ∨ t1.led = true := hl.imp id fun q => l1.trans q
    have fin : ∀ h', Heap.SameBut a s.heap h' → TSet P w h' a (fun y => S y || decide (y = z)) es1.size → Q true { s with heap := h' } := fun h' b r => by
      have q := hQ h' b
      rw [Sz, ← sz] at q
      exact q r
    refine wpAny_bind (pass_rule gv ?_)
    split
    · refine wpAny_bind ?_
      rw [hashByValue_scannable 8 sc]
      refine wpAny_pure (laid_tail (fun b s1 Q' q => pass_rule b q) ho hex hd g1 hb1 ?_ ?_ ?_ fun h' b r => ?_)
      · first | exact f1 | (split <;> first | exact f1 | exact SetTable.fits_plain_off f1)
      · first | exact r1 | (split <;> exact r1)
      · first | exact hl1 | (split <;> exact hl1)
      · exact wpAny_pure (fin h' b r)
    · refine wpAny_bind (wpAny_pure ?_)
      rw [if_pos rfl]
      exact laid_tail (fun b s1 Q' q => pass_rule b q) ho hex hd g1 hb1 f1 r1 hl1 fun h' b r => wpAny_pure (fin h' b r)
  · obtain ⟨hlt, pj, _⟩ := List.findIdx?_eq_some_iff_getElem.mp hj
    have Sz : S z = true := (g.mem z).mpr ((g.has z).mpr ⟨es.toList[j], List.getElem_mem hlt, pj⟩)
    rw [hj]
    dsimp only
    have q := hQ s.heap (Heap.SameBut.refl a s.heap)
    rw [Sz, if_pos rfl] at q
    refine wpAny_pure (wpAny_pure (q ((TSet.mk ⟨o, es, ep, t, ho, hex, hd, g, hb, hf, hn, hr, hl⟩ : TSet P w s.heap a S n).same fun y => ?_)))
    by_cases e : y = z
    · subst e; rw [Sz]; rfl
    · rw [decide_eq_false e, Bool.or_false]
end
end Sim

set_option Elab.async false
set_option linter.all false
set_option maxRecDepth 100000
set_option maxHeartbeats 4000000
/-! S20: set(..) of a list of texts, and sorted of it. -/
namespace Sim
open PySem PySem.Spec PyProof.Rows L2
abbrev bareSet (w : World) : Obj := { cls := .type "set", dict := none, data := .set #[] 0 (.fresh 0 0 (!w.params.followText "set-order")) }
def inS_ (zs : List Str) (z : Str) : Bool := decide (z ∈ zs)
theorem strs_get {us : List Value} {zs : List Str} (h : StrsAre us zs) : ∀ (i : Nat) (v : Value), us[i]? = some v → ∃ z u, zs[i]? = some z ∧ v = .str z u := by
  induction h with
  | nil => intro i v q; simp at q
  | cons z u _ ih =>
    intro i v q
    cases i with
    | zero => simp at q; exact ⟨z, u, rfl, q.symm⟩
    | succ i => exact ih i v (by simpa using q)
section
variable {P : Program} {w : World} {A : Around} {E : Value → Shared → Prop} {s : Shared}
theorem tset_loop {I : Addr} {fp wr : List Addr} {G : Array GenState → Array GenState → Prop} {n : Nat} {Pv : Nat → Value → Prop} {St : Nat → Shared → Prop} {R : Result → Shared → Prop}
    (W : WalksS P w A.in1 I fp wr G n Pv St) (T : Addr) (hT : T ∉ fp) (zs : List Str) (hn : n = zs.length) (hb : zs.length + 1 < scanBound) (hv : ∀ i v, Pv i v → ∃ z u, zs[i]? = some z ∧ v = .str z u) :
    ∀ (k i : Nat) (s : Shared), n - i = k → i ≤ n → St i s → (∃ c, c ≤ i ∧ TSet P w s.heap T (inS_ (zs.take i)) c) →
      (∀ s' c, Moved (T :: wr) G s s' → c ≤ n → TSet P w s'.heap T (inS_ zs) c → R (.ok (.ret .none)) s') → codeAny (model P w) A (.builtin "set.update.loop" ⟨[.ref T, .ref I], []⟩) R s := by
  have nw : T ∉ wr := fun h => hT (W.sub _ h)
  have up : ∀ b ∈ wr, b ∈ T :: wr := fun b h => List.mem_cons_of_mem _ h
  intro k
  induction k with
  | zero =>
    intro i s e hi st ⟨c, hc, hs⟩ hR
    obtain rfl : i = n := by omega
    refine codeAny_builtin F.entry_set_update_loop ?_
    rw [Around.under_plainId F.plain_set_update_loop _]
    refine wpAny_bind (W.done s _ _ st fun s' m => wpAny_pure (hR s' c (m.mono up) hc ?_))
    rw [List.take_of_length_le (Nat.le_of_eq hn.symm)] at hs
    exact hs.keep fun o q => m.heap T o nw q
  | succ k ih =>
    intro i s e hi st ⟨c, hc, hs⟩ hR
    have hlt : i < n := by omega
    refine codeAny_builtin F.entry_set_update_loop ?_
    rw [Around.under_plainId F.plain_set_update_loop _]
    refine wpAny_bind (W.item i s _ _ hlt st fun v s1 pv st1 m => ?_)
    obtain ⟨z, u, hz, rfl⟩ := hv i v pv
    have hs1 : TSet P w s1.heap T (inS_ (zs.take i)) c := hs.keep fun o q => m.heap T o nw q
    refine wpAny_bind (wpAny_holding ?_)
    unfold setAdd
    refine wpAny_holding (wpAny_bind ((PySem.strKind P w).pyHash (k := z) (strKind_is P w z u) ?_))
    refine tset_add (s := { s1 with toks := s1.toks + 1 }) hs1 (by omega) fun h' sb hs2 => ?_
    have hs3 : TSet P w h' T (inS_ (zs.take (i + 1))) (if inS_ (zs.take i) z = true then c else c + 1) := hs2.same fun y => by
      unfold inS_
      rw [List.take_add_one, hz, ← Bool.decide_or]
      simp [List.mem_append]
    have hc3 : (if inS_ (zs.take i) z = true then c else c + 1) ≤ i + 1 := by split <;> omega
    refine wpAny_pure ⟨plainId_quiet F.plain_set_update_loop _, ih (i + 1) _ (by omega) hlt (W.frame _ s1 _ _ st1 (Nat.le_succ _) fun b hb o q => ?_) ⟨_, hc3, hs3⟩ fun s2 c2 m2 hc2 hs4 => hR s2 c2 (Moved.trans W.gtrans ((m.mono up).then_heap (Nat.le_succ _) fun b o hb q => ?_) m2) hc2 hs4⟩
    · exact (sb.2 b (fun z => hT (z ▸ hb))).trans q
    · exact (sb.2 b (fun z => hb (z ▸ List.mem_cons_self))).trans q
set_option maxHeartbeats 16000000 in
/-- set(xs) -/
theorem call_tset {l : Addr} {items : Array Value} {zs : List Str} {Q : Value → Shared → Prop} (hh : A.handled = none) (hl : s.heap.IsList l items) (hi : StrsAre items.toList zs) (hb : zs.length + 1 < scanBound)
    (hQ : ∀ (h' : Heap) (k c : Nat), TSet P w h' s.heap.objs.size (inS_ zs) c → c ≤ zs.length → (∀ b o, s.heap.get? b = some o → h'.get? b = some o) → Q (.ref s.heap.objs.size) { s with heap := h', toks := k }) :
    wpAny (model P w) A (call (.type "set") [.ref l]) Q E s := by
  have isz : items.size = zs.length := by rw [← StrsAre.len_eq hi, Array.length_toList]
  obtain ⟨mc, mtl, hmro⟩ := F.called_set.mro
  have f1 := F.called_set.made
  have f2 := F.called_set.sub
  refine wpAny_call (codeAny_of_tree (wpAny_pure (a := _) ⟨Code.quiet_builtin _ (by decide +kernel), codeAny_builtin F.entry_type_call ?_⟩))
  rw [Around.under_plain (weight_type_call_type "set" [.ref l] []) rfl]
  have f3 := F.called_set.notType
  have f4 := F.called_set.canCreate
  have f5 := F.typeCall_set_1 (.ref l)
  repeat (any_goals (first | assumption | wp_step))
  refine codeAny_mono (code_set_led1 (P := P) (.ref l) (E := E) (Q₁ := fun ob s1 => ob = .ref s.heap.objs.size ∧ s1 = { s with heap := s.heap.push (bareSet w) }) ⟨rfl, rfl⟩) fun r s1 hr => ?_
  cases r with
  | error e => exact hr
  | ok fl =>
    cases fl with
    | ret ob =>
      obtain ⟨rfl, rfl⟩ := hr
      have at0 : (s.heap.push (bareSet w)).get? s.heap.objs.size = some (bareSet w) := Heap.get?_push_size _ rfl
      have ty0 : Shared.TypeIs { s with heap := s.heap.push (bareSet w) } (.ref s.heap.objs.size) "set" := ⟨_, at0, rfl⟩
      have f6 := F.called_set.init.lookup
      have f7 := F.called_set.init.bind (.ref s.heap.objs.size)
      repeat (any_goals (first | assumption | wp_step))
      refine codeAny_mono (codeAny_call_builtin (R := wants (fun r s2 => r = .none ∧ ∃ h' k c, s2 = { s with heap := h', toks := k } ∧ TSet P w h' s.heap.objs.size (inS_ zs) c ∧ c ≤ zs.length ∧ ∀ b o, s.heap.get? b = some o → h'.get? b = some o) E) F.called_set.init.plain F.entry_set_init (check_set_init_1 ty0 ?_)) fun r2 s2 hr2 => ?_
      · obtain ⟨ol, hol, hcl, nl, hdl⟩ := hl
        obtain ⟨oc, od, odt, osl⟩ := ol
        simp only at hcl hdl
        subst hcl; subst hdl
        have hol1 : (s.heap.push (bareSet w)).get? l = some { cls := .type "list", dict := od, data := .seq items nl, slots := osl } := Heap.get?_push_of_some _ hol
        have g1 := F.sub_list_set
        have g2 := F.sub_list_frozenset
        have g3 : (Value.type "list" == Value.type "dict") = false := by decide
        have hl1 : (s.heap.push (bareSet w)).IsList l items := ⟨_, hol1, rfl, nl, rfl⟩
        unfold Builtin.«set.__init__» noKeywords Builtin.Frozenset.updateFrom
        generalize hPI : pyIter = PI
        wp_walk
        subst hPI
        refine wpAny_pyIter_list hl1 (wpAny_bind (wpAny_runValue ?_))
        have lS : l < s.heap.objs.size := Heap.lt_size hol
        have hh3 : A.in1.in1.in1.handled = none := by simp [hh]
        have lI : l ≠ (s.heap.push (bareSet w)).objs.size := by rw [Heap.size_push]; exact Nat.ne_of_lt (Nat.lt_succ_of_lt lS)
        have nS : s.heap.objs.size ∉ [(s.heap.push (bareSet w)).objs.size, l] := by
          rw [Heap.size_push]
          simp only [List.mem_cons, List.not_mem_nil, or_false, not_or]
          exact ⟨Nat.ne_of_lt (Nat.lt_succ_self _), Nat.ne_of_gt lS⟩
        have hv : ∀ (i : Nat) (v : Value), items[i]? = some v → ∃ z u, zs[i]? = some z ∧ v = .str z u := fun i v q => strs_get hi i v (by rw [Array.getElem?_toList]; exact q)
        refine tset_loop ((Walks.list hh3 _ l lI items).toS) s.heap.objs.size nS zs isz hb hv (items.size - 0) 0 _ rfl (Nat.zero_le _) ⟨⟨_, Heap.get?_push_size _ rfl, rfl, rfl⟩, hl1.push _⟩ ?first ?last
        case first => exact ⟨0, Nat.le_refl 0, TSet.new (Heap.get?_push_of_some _ at0)⟩
        case last =>
          intro s' c' m hc' hs'
          obtain ⟨h', gn, dr, tk, osx⟩ := s'
          obtain rfl : gn = s.gens := m.gens
          obtain rfl : dr = s.drawn := m.drawn
          obtain rfl : osx = s.os := m.os
          refine wpAny_pure (wpAny_pure (a := _) ⟨rfl, h', tk, c', rfl, hs', isz ▸ hc', fun b o q => ?_⟩)
          have b0 : b < s.heap.objs.size := Heap.lt_size q
          have b2 : b ≠ (s.heap.push (bareSet w)).objs.size := by rw [Heap.size_push]; exact Nat.ne_of_lt (Nat.lt_succ_of_lt b0)
          refine m.heap b o ?_ (Heap.get?_push_of_some _ (Heap.get?_push_of_some _ q))
          simp only [List.mem_cons, List.not_mem_nil, or_false, not_or]
          exact ⟨Nat.ne_of_lt b0, b2⟩
      · cases r2 with
        | error e => exact hr2
        | ok fl2 =>
          cases fl2 with
          | ret r =>
            obtain ⟨rfl, h', k, c', rfl, hs', hc', hk'⟩ := hr2
            repeat (any_goals (first | assumption | wp_step))
            exact hQ _ _ _ hs' hc' hk'
          | _ => exact hr2.elim
    | _ => exact hr.elim
end
end Sim

set_option Elab.async false
set_option linter.all false
set_option maxRecDepth 100000
set_option maxHeartbeats 4000000
/-! S21: sorted(set(xs)) as one rule. -/
namespace Sim
open PySem PySem.Spec PyProof.Rows L2
/-- each once -/
def ddS : List Str → List Str
  | [] => []
  | z :: r => if z ∈ r then ddS r else z :: ddS r
theorem mem_dd {z : Str} : ∀ {l : List Str}, z ∈ ddS l ↔ z ∈ l
  | [] => Iff.rfl
  | y :: r => by
    have ih := mem_dd (z := z) (l := r)
    unfold ddS
    split
    · rename_i h
      rw [ih, List.mem_cons]
      exact ⟨.inr, fun q => q.elim (fun e => e ▸ h) id⟩
    · rw [List.mem_cons, List.mem_cons, ih]
theorem dd_nodup : ∀ l : List Str, (ddS l).Nodup
  | [] => List.nodup_nil
  | y :: r => by
    unfold ddS
    split
    · exact dd_nodup r
    · rename_i h
      exact List.nodup_cons.mpr ⟨fun q => h (mem_dd.mp q), dd_nodup r⟩
theorem dd_len : ∀ l : List Str, (ddS l).length ≤ l.length
  | [] => Nat.le_refl _
  | y :: r => by
    have := dd_len r
    unfold ddS
    split
    · rw [List.length_cons]; omega
    · rw [List.length_cons, List.length_cons]; omega
theorem perm_of_mem {l l' : List Str} (h : l.Nodup) (h' : l'.Nodup) (e : ∀ z, z ∈ l ↔ z ∈ l') : l.Perm l' := (List.perm_ext_iff_of_nodup h h').mpr e
theorem dd_self {l : List Str} (h : l.Nodup) : (ddS l).Perm l := perm_of_mem (dd_nodup l) h fun _ => mem_dd
section
variable {P : Program} {w : World} {A : Around} {E : Value → Shared → Prop} {s : Shared} {a : Addr} {S : Str → Bool} {n : Nat}
theorem strs_of_ents {l : List Value} (h : ∀ v ∈ l, ∃ z u, v = Value.str z u) : StrsAre l (l.map fun v => kyS (0, v)) := by
  induction l with
  | nil => exact .nil
  | cons v l ih =>
    obtain ⟨z, u, rfl⟩ := h v List.mem_cons_self
    exact .cons z u (ih fun y hy => h y (List.mem_cons_of_mem _ hy))
theorem sorted_tset {Q : Value → Shared → Prop} (R : TSet P w s.heap a S n) (hh : A.handled = none) (h64 : n < 1000)
    (hQ : ∀ s' p (out : Array Value) (c : Nat) (zs : List Str), (∀ b o, s.heap.get? b = some o → s'.heap.get? b = some o) → s'.gens = s.gens → s'.os = s.os → s.heap.objs.size ≤ p →
      s'.heap.get? p = some (seqObj "list" out c) → StrsAre out.toList zs → sortedS zs = true → zs.Nodup → (∀ z, z ∈ zs ↔ S z = true) → zs.length = n → Q (.ref p) s') :
    wpAny (model P w) A (call (.builtin "sorted") [.ref a]) Q E s := by
  obtain ⟨o, es, ep, t, ho, hex, hd, g, hb, hf, hn, hr, hl⟩ := R.ex
  refine Calls.call_function_entry kind_sorted plain_sorted entry_sorted (args_sorted1 _) ?_
  unfold Builtin.«sorted»
  refine wpAny_bind (m := checkCount "sorted" 1 1 _) (wpAny_pure (wpAny_bind (collect_set (A := A.in1) hh ⟨o, ho, hex.1, hd⟩ hf hb hr hl fun s1 vs k1 hz g1 o1 pm => ?_)))
  have lv : vs.length = n := by rw [pm.length_eq, List.length_map, Array.length_toList]; exact hn
  have av : ∀ v ∈ vs, ∃ z u, v = Value.str z u := fun v hv => by
    obtain ⟨e, he, q⟩ := List.mem_map.mp (pm.mem_iff.mp hv)
    obtain ⟨z, u, h1, _⟩ := (g.all e he).ex
    exact ⟨z, u, q ▸ h1⟩
  have hS := strs_of_ents av
  have pk : (vs.map fun v => kyS (0, v)).Perm (es.toList.map kyS) := by
    have q := pm.map fun v => kyS (0, v)
    rw [List.map_map] at q
    exact q
  refine wpAny_bind (wpAny_newList ?_ (by rw [lv, sizeLine_eq]; omega))
  have hoL : (s1.heap.push (seqObj "list" vs.toArray 0)).get? s1.heap.objs.size = some (seqObj "list" vs.toArray 0) := Heap.get?_push_size _ rfl
  refine wpAny_bind (wpAny_holding (wpAny_call_entry slot_list_sort ⟨_, hoL, rfl⟩ entry_list_sort (list_sort_treeKAny (κ := PyProof.Rows.strKind) strKind_oneLt hoL hS.keysOf (fun v1 v2 rest e => keyKind_strs (by rw [← e]; exact hS)) (by rw [lv]; exact small1000 h64) fun st hp hs => ⟨_, rfl, ?_⟩) (args_list_sort _)))
  obtain ⟨zs, h1, h2, h3⟩ := sorted_out_str hS hp hs
  obtain ⟨c, hc⟩ := sortedHeap_at (vs := vs) (out := (arrOf st).map (·.2)) hoL
  have pn : zs.Perm (es.toList.map kyS) := h2.trans pk
  refine wpAny_pure ⟨_, rfl, hQ _ s1.heap.objs.size _ c zs (fun b u e => ?_) g1 o1 hz hc h1 h3 (pn.nodup_iff.mpr g.once) (fun z => by rw [pn.mem_iff, ← g.mem z]) ?_⟩
  · have q := k1 b u e
    have hlt := Heap.lt_size q
    refine (sortedHeap_old (Nat.ne_of_lt hlt) (by rw [size_push']; exact Nat.lt_succ_of_lt hlt)).trans ?_
    exact Heap.get?_push_of_some _ q
  · rw [pn.length_eq, List.length_map, Array.length_toList]; exact hn
end
/-! ### the rules -/
def TSetO (P : Program) (w : World) (a : Addr) (zs : List Str) (n : Nat) : HO := .ext fun h => TSet P w h a (inS_ zs) n
section
variable {X : Cx}
theorem tsetO_new {P : Program} {w : World} {H : Hp} {h : Heap} {a : Addr} {zs : List Str} {n : Nat} (R : TSet P w h a (inS_ zs) n) : ObjOk P w H h a (TSetO P w a zs n) := by
  have R0 := R
  obtain ⟨o, _, _, _, ho, _⟩ := R.ex
  exact ⟨R0, ⟨o, ho⟩, fun h1 h2 p k => p.keep k⟩
theorem tsetO_get {pins : List (Addr × Obj)} {σ : L2.St} {H : Hp} {s : Shared} {a : Addr} {zs : List Str} {n : Nat} (I : Inv X pins σ H s) (ha : H a = some (TSetO X.prog X.w a zs n)) : TSet X.prog X.w s.heap a (inS_ zs) n := (I.hok a _ ha).1
def rTSet (K : PySem.W.Frag) (P : Program) (w : World) : List V → Hp → VK → Prop := fun vs H Q => ∃ (l : Addr) (zs : List Str), vs = [.ref l] ∧ SqL K H l (zs.map V.str) ∧ zs.length + 1 < scanBound ∧
  ∀ p c, H p = none → c ≤ zs.length → Q (.ref p) (upd H p (TSetO P w p zs c))
theorem cr_tset (hc : X.calm = true) : CallR X (.type "set") (rTSet X.K X.prog X.w) := by
  intro pins s σ H xs us Q I r h
  obtain ⟨l, zs, rfl, hl, hb, q⟩ := h
  rw [Vals.ref1 r]
  obtain ⟨its, rv, pl, hz⟩ := I.list hl
  have hn : H s.heap.objs.size = none := I.hok.fresh (Nat.le_refl _)
  refine call_tset (P := X.prog) (w := X.w) (zs := zs) (I.ok.hd hc) pl.isList (by simpa using rv.strs) hb fun h' tk c R hc' k => ?_
  exact ⟨.ref s.heap.objs.size, upd H s.heap.objs.size (TSetO X.prog X.w s.heap.objs.size zs c), I.laid (t' := tk) k (Nat.le_refl _) (tsetO_new R), rfl, q _ c hn hc'⟩
def rSortTS (P : Program) (w : World) : List V → Hp → VK → Prop := fun vs H Q => ∃ (a : Addr) (zs : List Str) (n : Nat), vs = [V.ref a] ∧ H a = some (TSetO P w a zs n) ∧ n < 1000 ∧
  ∀ (ys : List Str) (p : Addr), sortedS ys = true → ys.Nodup → (∀ z, z ∈ ys ↔ z ∈ zs) → H p = none → Q (.ref p) (upd H p (.lst (ys.map V.str)))
theorem cr_sortTS (hc : X.calm = true) : CallR X (.builtin "sorted") (rSortTS X.prog X.w) := by
  intro pins s σ H vs us Q I r h
  obtain ⟨a, zs, n, rfl, ha, h64, q⟩ := h
  have R := tsetO_get I ha
  rw [Vals.ref1 r]
  refine sorted_tset R (I.ok.hd hc) h64 fun s' p out c ys k g o hp hg hi hs hd hm hl => ?_
  have hlen : (ys.map V.str).length ≤ sizeLine := by rw [List.length_map, hl, sizeLine_eq]; omega
  have hn : H p = none := I.hok.fresh hp
  have J : Inv X pins σ (upd H p (.lst (ys.map V.str))) { s with heap := s'.heap, gens := s'.gens, drawn := s'.drawn, toks := s'.toks } :=
    I.call (ch := []) (Un.laid k hp hn) (I.hok.laid k hp ⟨hlen, out.toList, c, vals_of_strs hi, hg⟩) (by rw [g]; exact I.bare) (fun _ z => nomatch z)
  obtain ⟨h2, g2, d2, t2, o2⟩ := s'
  obtain rfl : o2 = s.os := o
  exact ⟨.ref p, _, J, rfl, q ys p hs hd (fun z => (hm z).trans (by unfold inS_; rw [decide_eq_true_eq])) hn⟩
/-- sorted(set(u)) -/
def aSortSet (u : AV) : M AV := fun S => match seqLA S u with
  | some xs => match strsA xs with
    | some zs => if zs.length < 1000 then .ok (.ref S.length) (S ++ [.lst ((sortS (ddS zs)).map .str)]) else .bad
    | none => .bad
  | none => .bad
variable {W : WX} {e : Expr} {d : DE} {p1 p2 q1 q2 : Pos}
theorem se_sortset (hc : X.calm = true) (hg : Gl X "sorted") (hm : X.mg "sorted" = none) (hg2 : Gl X "set") (hm2 : X.mg "set" = none) (he : SE X W e d)
    (hs : starEach [e] X.env = (false, eval e X.env) :: starEach [] X.env := by rfl) (hpl : (backTo q2 (starEach [] X.env)).any (·.1) = false := by rfl)
    (hs1 : starEach [Expr.Call (.Name "set" p2) [e] [] q2] X.env = (false, eval (.Call (.Name "set" p2) [e] [] q2) X.env) :: starEach [] X.env := by rfl) (hpl1 : (backTo q1 (starEach [] X.env)).any (·.1) = false := by rfl) :
    SE X W (.Call (.Name "sorted" p1) [.Call (.Name "set" p2) [e] [] q2] [] q1) (bind1 d aSortSet) := by
  have h1 : PE X (.Call (.Name "set" p2) [e] [] q2) (tCB (rTSet X.K X.prog X.w) (tCons (tD X.K X.w X.mg W d) tNil)) :=
    pe_callTy (cr_tset hc) hg2 hm2 (by rfl) (pa_cons he pa_nil hs) (by decide) (by decide) hs hpl
  refine PE.imp (pe_callB (cr_sortTS hc) hg hm (by rfl) (pa_cons h1 pa_nil hs1) (by decide) (by decide) hs1 hpl1) fun σ H Q ⟨ρ, S, η, at0, p⟩ => ?_
  refine (tG.bind at0 p).mono fun x H1 ⟨ρ1, S1, u, _, at1, e1, r1, p1⟩ => ?_
  unfold aSortSet at p1
  split at p1
  · rename_i xs ex
    split at p1
    · rename_i zs ez
      split at p1
      · rename_i hl
        obtain ⟨b, vs, rfl, g1, g2⟩ := seqL_rv at1.rs r1 ex
        obtain ⟨g3, g4⟩ := strs_rv g1 ez
        subst g3
        refine ⟨b, zs, rfl, g2, by unfold scanBound; omega, fun q c hq hcz => ⟨q, zs, c, rfl, upd_same, Nat.lt_of_le_of_lt hcz hl, fun ys r hsd hnd hmm hr => ?_⟩⟩
        have rs2 := at1.rs.other (o := TSetO X.prog X.w q zs c) hq
        have p2 := p1.step (Ext.other (o := TSetO X.prog X.w q zs c) hq)
        have pm : ys.Perm (ddS zs) := perm_of_mem hnd (dd_nodup zs) fun z => (hmm z).trans mem_dd.symm
        obtain rfl := sort_uniq pm (pairwise_of_sortedS ys hsd)
        exact p2.newL rs2 hr (by rw [List.length_map, pm.length_eq]; exact small1000 (Nat.lt_of_le_of_lt (dd_len zs) hl)) (rvs_strs' fun z hz => g4 z ((hmm z).mp hz))
      · exact p1.elim
    · exact p1.elim
  · exact p1.elim
end
end Sim

set_option Elab.async false
set_option linter.all false
set_option maxRecDepth 100000
set_option maxHeartbeats 4000000
/-! S22: dict(..) of a list of pairs. -/
namespace Sim
open PySem PySem.Spec PyProof.Rows L2
def pairsO : List AV → Option (List (Key × AV))
  | [] => some []
  | .tup [k, v] :: r => match keyA k, pairsO r with
    | some q, some kvs => some ((q, v) :: kvs)
    | _, _ => none
  | _ => none
def aDictP (us : List AV) : M AV := fun S => match us with
  | [u] => match seqLA S u with
    | some xs => match pairsO xs with
      | some kvs => if kvs.length ≤ 1000 then .ok (.ref S.length) (S ++ [.dict (mergeA [] kvs)]) else .bad
      | none => .bad
    | none => .bad
  | _ => .bad
theorem pairsO_rv {K : PySem.W.Frag} {w : World} {mg : Str → Option Value} {ρ : Nat → Addr} {N : Nat} {H : Hp} : ∀ {xs : List AV} {vs : List V} {kvs : List (Key × AV)}, RVs K w mg ρ N H vs xs → pairsO xs = some kvs →
    ∃ (ps : List Addr) (us : List (Key × V)), vs = ps.map V.ref ∧ Paired (fun p kv => SqT K H p [kV kv.1, kv.2]) ps us ∧ RPs K w mg ρ N H us kvs ∧ ∀ p ∈ kvs, okK p.1 = true
  | [], vs, kvs, r, h => by
    cases r
    cases h
    exact ⟨[], [], rfl, .nil, .nil, fun _ h => by cases h⟩
  | x :: xs, vs, kvs, r, h => by
    unfold pairsO at h
    split at h
    · rename_i e; cases e
    · rename_i k v r2 e
      cases e
      split at h
      · rename_i q kvs2 ek er
        cases h
        cases r with
        | cons a t =>
        obtain ⟨ps, us, e1, e2, e3, e4⟩ := pairsO_rv t er
        subst e1
        cases a with
        | tup h1 r1 =>
        cases r1 with
        | cons b1 r1 =>
        cases r1 with
        | cons b2 r1 =>
        cases r1
        have k1 := key_rv b1 ek
        have k2 := key_ok b1 ek
        subst k1
        refine ⟨_ :: ps, (q, _) :: us, rfl, .cons h1 e2, .cons ⟨rfl, b2⟩ e3, fun p hp => ?_⟩
        rcases List.mem_cons.mp hp with rfl | hp
        · exact k2
        · exact e4 p hp
      · cases h
    · cases h
theorem dictP_ok {X : Cx} : OpN X (fun xs H Q => ∃ (a : Addr) (ps : List Addr) (kvs : List (Key × V)), xs = [.ref a] ∧ SqL X.K H a (ps.map V.ref) ∧ Paired (fun p kv => SqT X.K H p [kV kv.1, kv.2]) ps kvs ∧ ∀ p, H p = none → Q (.ref p) (upd H p (.dK (mergeK [] kvs)))) aDictP := by
  intro ρ H S xs us Q E rs rx p
  unfold aDictP at p
  split at p
  · cases rx with
    | cons a t =>
    cases t
    split at p
    · rename_i ys e
      split at p
      · rename_i kvs ek
        split at p
        · rename_i hl
          obtain ⟨b, vs, rfl, h1, h2⟩ := seqL_rv rs a e
          obtain ⟨ps, us, e1, e2, e3, e4⟩ := pairsO_rv h1 ek
          subst e1
          refine ⟨b, ps, us, rfl, h2, e2, fun q hq => p.newD rs hq ?_ (merge_rv e3 .nil)⟩
          exact merge_ok kvs [] ⟨Nat.zero_le _, fun _ h => by cases h⟩ e4 (by have : sizeLine = 16777216 := sizeLine_eq; rw [List.length_nil]; omega)
        · exact p.elim
      · exact p.elim
    · exact p.elim
  · exact p.elim
/-! ### tuples again and again -/
def aMulT (u v : AV) : M AV := fun S => match u, v with
  | .tup xs, .int k => if xs ≠ [] ∧ 2 ≤ k ∧ k ≤ 1000 ∧ xs.length ≤ 1000 then .ok (.tup (List.replicate k.toNat xs).flatten) S else .bad
  | _, _ => .bad
theorem mulT_ok {X : Cx} : Op2 X (rRepT X.K) aMulT := by
  intro ρ H S x y u v Q E rs rx ry p
  unfold aMulT at p
  split at p
  · split at p
    · rename_i xs k hc
      cases ry
      cases rx with
      | tup h1 r1 =>
        refine ⟨_, k, _, rfl, rfl, h1, fun e => ?_, hc.2.1, hc.2.2.1, by rw [r1.length]; exact hc.2.2.2, fun q hq => Post.tup p rs hq (r1.rep k.toNat)⟩
        subst e
        cases r1
        exact hc.1 rfl
    · exact p.elim
  · exact p.elim
theorem e_mulT {X : Cx} {W : WX} {a b : Expr} {da db : DE} {pos : Pos} (ha : SE X W a da) (hb : SE X W b db) : SE X W (.BinOp a .Mult b pos) (bind2 da db aMulT) := se_op op_repT mulT_ok ha hb
end Sim

set_option Elab.async false
set_option linter.all false
set_option maxRecDepth 100000
set_option maxHeartbeats 4000000
/-! S23: list(d.keys()), tuple(range(n)). -/
namespace Sim
open PySem PySem.Spec PyProof.Rows L2
def tListKeys (te : TE) : TE := fun σ H Q => te σ H fun x H1 => ∃ (d : Addr) (kvs : List (Key × V)), x = .ref d ∧ H1 d = some (.dK kvs) ∧ ∀ p, H1 p = none → Q (.ref p) (upd H1 p (.lst (kvs.map fun kv => kV kv.1)))
section
variable {X : Cx} {W : WX} {e : Expr} {de : DE} {te : TE} {p apos cpos pos : Pos}
theorem pe_listKeys (hc : X.calm = true) (he : PE X e te) (hg : Gl X "list") (hm : X.mg "list" = none) (hv : bootBuiltins "list" = some (.type "list")) (hbase : attributeBase e "keys" X.env (eval e X.env) = eval e X.env := by rfl) (hline : (apos.endLine == cpos.line) = true := by rfl)
    (hs : starEach [.Call (.Attribute e "keys" apos) [] [] cpos] X.env = (false, eval (.Call (.Attribute e "keys" apos) [] [] cpos) X.env) :: starEach [] X.env := by rfl) :
    PE X (.Call (.Name "list" p) [.Call (.Attribute e "keys" apos) [] [] cpos] [] pos) (tListKeys te) := by
  refine ⟨fun pins s σ H Q I hq => ?_⟩
  refine wpAny_Call_Name_kw (ld_blt I hg hm hv ?_)
  refine PyProof.Rows.callWith_type1 ?_ hs rfl
  rw [hs]
  show wpAny _ _ (spliced ((false, eval (.Call (.Attribute e "keys" apos) [] [] cpos) X.env) :: backTo pos (starEach [] X.env))) _ _ s
  refine Calls.spliced_cons ?_
  refine wpAny_Call_method (T := "dict") (id := "dict.keys") hbase rfl hline F.plainAttrs_dict F.slot_dict_keys F.type_dict_keys (thn (he.run pins s σ H _ I hq) fun u s1 ⟨x, H1, I1, rx, d, kvs, ex, hd, q⟩ => ?_)
  subst ex
  obtain rfl : u = Value.ref d := rx
  obtain ⟨hz, hs0, vs, kv, hdo⟩ := I1.hok d _ hd
  obtain ⟨ep, hat⟩ := hdo.dictAt
  have lk : kvs.length = vs.length := Paired.length kv
  have I2 : Inv X pins σ H1 { s1 with heap := s1.heap.push { cls := .type "dict_keys", data := .fields #[.ref d] } } := I1.kept (t' := s1.toks) fun b ob q => Heap.get?_push_of_some _ q
  refine ⟨hdo.typeIs, hdo.mapOf.noDict, ?_⟩
  show wpAny _ _ (callWith cpos (.builtin "dict.keys") [.ref d] [] []) _ X.xe s1
  refine method_meetsIn F.slot_dict_keys F.entry_dict_keys rfl (PySem.evalArgs_none ⟨rfl, hdo.typeIs, F.args_dict_keys_1 _, _, PySem.W.kdl_meets_keys (mixKind X.prog X.w) d hs0, ⟨vs, hdo⟩, ?_⟩)
  refine Calls.spliced_nil ?_
  refine PySem.W.kdl_call (PySem.W.kdl_keys (knd := mixKind X.prog X.w) (d := d) (kvs := vs) (ep := ep)) (I1.ok.hd hc) ⟨⟨_, Heap.get?_push_size _ rfl, rfl, rfl⟩, hat.push _⟩ (by omega) fun h' tk acc' c' hkeep hS hacc => ?_
  have nw := I2.hok.fresh (Nat.le_refl _)
  refine ⟨.ref _, _, I2.laid hkeep (Nat.le_refl _) (show ObjOk X.prog X.w _ _ _ (.lst (kvs.map fun kv => kV kv.1)) from ⟨?_, acc'.toList, c', ?_, ?_⟩), rfl, q _ nw⟩
  · rw [List.length_map]; exact hz
  · have el : acc'.toList.length = acc'.size := by simp
    refine vals_of_at (by rw [List.length_map, el, hacc.1, lk]) fun j x w h1 h2 => ?_
    obtain ⟨k, y, hky, hi⟩ := hacc.2 j w (by rw [← Array.getElem?_toList]; exact h2)
    have e1 : (kvs.map (·.1))[j]? = some k := by
      rw [KV.keys kv, List.getElem?_map, hky] <;> rfl
    have e2 : (kvs.map fun kv => kV kv.1)[j]? = some (kV k) := by
      have e3 : (kvs.map fun kv => kV kv.1) = (kvs.map (·.1)).map kV := by rw [List.map_map] <;> rfl
      rw [e3, List.getElem?_map, e1] <;> rfl
    rw [e2] at h1
    cases h1
    exact keyIs_rel hi
  · rw [Array.toArray_toList]; exact hS
/-- list(d.keys()) -/
def dKl (do_ : DE) : DE := bind1 do_ fun o S => match dctAt S o with
  | some (_, kvs) => .ok (.ref S.length) (S ++ [.lst (kvs.map fun p => keyV p.1)])
  | none => .bad
theorem keys_rvs {K : PySem.W.Frag} {w : World} {mg : Str → Option Value} {ρ : Nat → Addr} {N : Nat} {H : Hp} : ∀ {us : List (Key × V)} {kvs : List (Key × AV)}, RPs K w mg ρ N H us kvs → (∀ p ∈ kvs, okK p.1 = true) → RVs K w mg ρ N H (us.map fun kv => kV kv.1) (kvs.map fun p => keyV p.1)
  | _, _, .nil, _ => .nil
  | u :: us, p :: kvs, .cons a t, h => by
    rw [List.map_cons, List.map_cons, a.1]
    exact .cons (key_rvV (h p List.mem_cons_self)) (keys_rvs t fun q hq => h q (List.mem_cons_of_mem _ hq))
theorem se_lkeys (hc : X.calm = true) (he : SE X W e de) (hg : Gl X "list") (hm : X.mg "list" = none) (hv : bootBuiltins "list" = some (.type "list")) (hbase : attributeBase e "keys" X.env (eval e X.env) = eval e X.env := by rfl) (hline : (apos.endLine == cpos.line) = true := by rfl)
    (hs : starEach [.Call (.Attribute e "keys" apos) [] [] cpos] X.env = (false, eval (.Call (.Attribute e "keys" apos) [] [] cpos) X.env) :: starEach [] X.env := by rfl) :
    SE X W (.Call (.Name "list" p) [.Call (.Attribute e "keys" apos) [] [] cpos] [] pos) (dKl de) :=
  PE.imp (pe_listKeys hc he hg hm hv hbase hline hs) fun σ H Q ⟨ρ, S, η, at0, p⟩ => (tG.bind at0 p).mono fun x H1 ⟨ρ1, S1, u, _, at1, e1, r1, p1⟩ => by
    split at p1
    · rename_i ed
      obtain ⟨h0, h1, h2, us, h3, h4⟩ := dct_rv at1.rs r1 ed
      refine ⟨_, us, h0, h3, fun q nq => ?_⟩
      exact p1.newL at1.rs nq (by rw [List.length_map]; exact h2.1) (keys_rvs h4 h2.2)
    · exact p1.elim
/-- tuple(range(n)) -/
def dTupR (de : DE) : DE := bind1 de fun x S => match x with
  | .int n => if 0 ≤ n ∧ n ≤ 1000 then .ok (.tup ((List.range n.toNat).map fun i => .int (i : Nat))) S else .bad
  | _ => .bad
theorem ints_rvs {K : PySem.W.Frag} {w : World} {mg : Str → Option Value} {ρ : Nat → Addr} {N : Nat} {H : Hp} : ∀ l : List Nat, RVs K w mg ρ N H (l.map fun i => V.int (0 + (i : Nat))) (l.map fun i => AV.int (i : Nat))
  | [] => .nil
  | i :: l => by
    rw [List.map_cons, List.map_cons, Int.zero_add]
    exact .cons (.int _) (ints_rvs l)
theorem se_tuprng {a : Expr} {da : DE} {p2 pos2 : Pos} (hc : X.calm = true) (hg : Gl X "tuple") (hm : X.mg "tuple" = none) (hg2 : Gl X "range") (hm2 : X.mg "range" = none) (ha : SE X W a da)
    (na2 : starEach [a] X.env = (false, eval a X.env) :: starEach [] X.env := by rfl)
    (na : starEach [.Call (.Name "range" p2) [a] [] pos2] X.env = (false, eval (.Call (.Name "range" p2) [a] [] pos2) X.env) :: starEach [] X.env := by rfl) :
    SE X W (.Call (.Name "tuple" p) [.Call (.Name "range" p2) [a] [] pos2] [] pos) (dTupR da) :=
  PE.imp (pe_tupRg hc hg hm (prg_1 hg2 hm2 ha na2) na) fun σ H Q ⟨ρ, S, η, at0, p⟩ => (tG.bind at0 p).mono fun x H1 ⟨ρ1, S1, u, _, at1, e1, r1, p1⟩ => by
    split at p1
    · rename_i n _
      split at p1
      · rename_i hn
        cases r1
        refine ⟨n, rfl, .of_le (by omega) (by omega) (by omega) (by omega), fun q nq => ?_⟩
        refine p1.tup at1.rs nq ?_
        unfold rgV
        rw [Int.sub_zero]
        exact ints_rvs _
      · exact p1.elim
    · exact p1.elim
end
end Sim

set_option Elab.async false
set_option linter.all false
set_option maxRecDepth 100000
set_option maxHeartbeats 4000000
/-! P0: plain functions run: what comes of them. -/
namespace Sim
open PySem PySem.Spec PyProof.Rows L2
/-- it ends well -/
def Ok {α : Type} (r : R α) (P : α → Sto → Prop) : Prop := match r with
  | .ok a S => P a S
  | _ => False
/-- a statement's end: on, told, broken off, gone on -/
def Go (r : Rt) (N : Nv → Sto → Prop) (T : AV → Sto → Prop) (B C : Nv → Sto → Prop) : Prop := match r with
  | .nx η S => N η S
  | .rt v S => T v S
  | .bk η S => B η S
  | .ct η S => C η S
  | _ => False
section
variable {α β : Type} {P Q : α → Sto → Prop} {r : R α} {η : Nv} {S : Sto}
theorem Ok.imp (h : Ok r P) (k : ∀ a S, P a S → Q a S) : Ok r Q := by
  cases r with
  | ok a S => exact k a S h
  | ex c fs S => exact h
  | bad => exact h
theorem Ok.get (h : Ok r P) : ∃ a S, r = .ok a S ∧ P a S := by
  cases r with
  | ok a S => exact ⟨a, S, rfl, h⟩
  | ex c fs S => exact h.elim
  | bad => exact h.elim
theorem Go.imp {r : Rt} {N N' : Nv → Sto → Prop} {T T' : AV → Sto → Prop} {B B' C C' : Nv → Sto → Prop} (h : Go r N T B C) (h1 : ∀ η S, N η S → N' η S) (h2 : ∀ v S, T v S → T' v S) (h3 : ∀ η S, B η S → B' η S) (h4 : ∀ η S, C η S → C' η S) : Go r N' T' B' C' := by
  cases r with
  | nx η S => exact h1 _ _ h
  | rt η S => exact h2 _ _ h
  | bk η S => exact h3 _ _ h
  | ct η S => exact h4 _ _ h
  | ex c fs S => exact h
  | bad => exact h
theorem Ok_ok (a : α) (S : Sto) : Ok (.ok a S) P = P a S := rfl
theorem Ok_bad : Ok (.bad : R α) P = False := rfl
theorem Ok_bind (r : R β) (k : β → Sto → R α) : Ok (r.bind k) P = Ok r fun a S => Ok (k a S) P := by cases r <;> rfl
theorem Ok_ite {c : Prop} [Decidable c] (a b : R α) : Ok (if c then a else b) P = if c then Ok a P else Ok b P := by split <;> rfl
theorem Ok_congr {r r' : R α} (h : r = r') (P : α → Sto → Prop) : Ok r P = Ok r' P := by rw [h]
variable {N T : Type} {No B C : Nv → Sto → Prop} {Te : AV → Sto → Prop}
theorem Go_congr {r r' : Rt} (h : r = r') : Go r No Te B C = Go r' No Te B C := by rw [h]
theorem Go_thenS (r : R β) (k : β → Sto → Rt) : Go (r.thenS k) No Te B C = Ok r fun a S => Go (k a S) No Te B C := by cases r <;> rfl
theorem Go_ite {c : Prop} [Decidable c] (a b : Rt) : Go (if c then a else b) No Te B C = if c then Go a No Te B C else Go b No Te B C := by split <;> rfl
theorem Go_nx : Go (.nx η S) No Te B C = No η S := rfl
theorem Go_rt (v : AV) : Go (.rt v S) No Te B C = Te v S := rfl
theorem Go_bk : Go (.bk η S) No Te B C = B η S := rfl
theorem Go_ct : Go (.ct η S) No Te B C = C η S := rfl
theorem Go_bad : Go .bad No Te B C = False := rfl
theorem Go_seq (d u : DS) : Go (dSeq d u η S) No Te B C = Go (d η S) (fun η1 S1 => Go (u η1 S1) No Te B C) Te B C := by
  unfold dSeq
  cases d η S <;> rfl
theorem Go_if (t : DB) (d u : DS) : Go (dIfS t d u η S) No Te B C = Ok (t η S) fun c S1 => if c = true then Go (d η S1) No Te B C else Go (u η S1) No Te B C := by
  unfold dIfS
  rw [Go_thenS]
  congr 1
  funext c S1
  exact Go_ite _ _
theorem Go_set (i : Nat) (d : DE) : Go (dSet i d η S) No Te B C = Ok (d η S) fun v S1 => No (η.set i (some v)) S1 := by
  unfold dSet
  rw [Go_thenS]
  rfl
theorem Go_rtE (d : DE) : Go (dRt d η S) No Te B C = Ok (d η S) Te := by
  unfold dRt
  rw [Go_thenS]
  rfl
theorem Go_ex (d : DE) : Go (dEx d η S) No Te B C = Ok (d η S) fun _ S1 => No η S1 := by
  unfold dEx
  rw [Go_thenS]
  rfl
theorem Go_dnx : Go (dNx η S) No Te B C = No η S := rfl
theorem Go_dbk : Go (dBk η S) No Te B C = B η S := rfl
theorem Go_dct : Go (dCt η S) No Te B C = C η S := rfl
theorem Go_drtn : Go (dRtN η S) No Te B C = Te .non S := rfl
theorem Go_thru (d : DS) : Go (dThru d η S) No Te B C = Go (d η S) No Te B C := by
  unfold dThru
  cases d η S <;> rfl
def putS (o i v : AV) (S : Sto) (P : Sto → Prop) : Prop := match aSet o i v S with
  | some S' => P S'
  | none => False
theorem Go_put (dv do_ di : DE) : Go (dPut dv do_ di η S) No Te B C = Ok (dv η S) fun v S1 => Ok (do_ η S1) fun o S2 => Ok (di η S2) fun i S3 => putS o i v S3 fun S4 => No η S4 := by
  unfold dPut
  rw [Go_thenS]
  congr 1; funext v S1
  rw [Go_thenS]
  congr 1; funext o S2
  rw [Go_thenS]
  congr 1; funext i S3
  unfold putS
  cases aSet o i v S3 <;> rfl
theorem putS_lst {n : Nat} {i : Int} {v : AV} {xs : List AV} {k : Nat} {P : Sto → Prop} (h : S[n]? = some (.lst xs)) (hk : ixN xs.length i = some k) : putS (.ref n) (.int i) v S P = P (S.set n (.lst (xs.set k v))) := by
  unfold putS aSet
  simp only [h, hk, Option.map_some]
theorem putS_dct {n : Nat} {i v : AV} {kvs : List (Key × AV)} {k : Key} {P : Sto → Prop} (h : S[n]? = some (.dict kvs)) (hk : keyA i = some k) (hl : kvs.length < sizeLine) : putS (.ref n) i v S P = P (S.set n (.dict (putA kvs k v))) := by
  unfold putS aSet
  simp only [h, hk, if_pos hl]
def fldS (cs : List Str) (f : Str) (o v : AV) (S : Sto) (P : Sto → Prop) : Prop := match setFld cs f o v S with
  | some S' => P S'
  | none => False
theorem Go_fld (cs : List Str) (f : Str) (do_ dv : DE) : Go (dFldPut cs f do_ dv η S) No Te B C = Ok (dv η S) fun v S1 => Ok (do_ η S1) fun o S2 => fldS cs f o v S2 fun S3 => No η S3 := by
  unfold dFldPut
  rw [Go_thenS]
  congr 1; funext v S1
  rw [Go_thenS]
  congr 1; funext o S2
  unfold fldS
  cases setFld cs f o v S2 <;> rfl
theorem Go_par (i j : Nat) (dl : DL) : Go (dPar i j dl η S) No Te B C = Ok (dl η S) fun vs S1 => match vs with | [v, u] => No ((η.set i (some v)).set j (some u)) S1 | _ => False := by
  unfold dPar
  rw [Go_thenS]
  congr 1; funext vs S1
  rcases vs with _ | ⟨a, _ | ⟨b, _ | ⟨c, r⟩⟩⟩ <;> rfl
/-- a value put to its names -/
def tgS (g : DT) (v : AV) (η : Nv) (S : Sto) (P : Nv → Sto → Prop) : Prop := match g v η S with
  | .nx η' S' => P η' S'
  | _ => False
theorem Go_asg (d : DE) (g : DT) : Go (dAsg d g η S) No Te B C = Ok (d η S) fun v S1 => tgS g v η S1 No := by
  unfold dAsg
  rw [Go_thenS]
  congr 1; funext v S1
  unfold tgS
  cases g v η S1 <;> rfl
theorem tgS_nm (i : Nat) (v : AV) {P : Nv → Sto → Prop} : tgS (gNm i) v η S P = P (η.set i (some v)) S := rfl
theorem tgS_tp2 {i j : Nat} {a b : AV} {P : Nv → Sto → Prop} : tgS (gTp 2 (gsCons (gNm i) (gsCons (gNm j) gsNil))) (.tup [a, b]) η S P = P ((η.set i (some a)).set j (some b)) S := rfl
theorem tgS_tp3 {i j k : Nat} {a b c : AV} {P : Nv → Sto → Prop} : tgS (gTp 3 (gsCons (gNm i) (gsCons (gNm j) (gsCons (gNm k) gsNil)))) (.tup [a, b, c]) η S P = P (((η.set i (some a)).set j (some b)).set k (some c)) S := rfl
theorem tgS_tp4 {i j k l : Nat} {a b c d : AV} {P : Nv → Sto → Prop} : tgS (gTp 4 (gsCons (gNm i) (gsCons (gNm j) (gsCons (gNm k) (gsCons (gNm l) gsNil))))) (.tup [a, b, c, d]) η S P = P ((((η.set i (some a)).set j (some b)).set k (some c)).set l (some d)) S := rfl
/-! ### expressions -/
theorem Ok_V (i : Nat) {P : AV → Sto → Prop} : Ok (dV i η S) P = match η[i]? with | some (some v) => P v S | _ => False := by
  unfold dV
  rcases h : η[i]? with _ | _ | v <;> rfl
theorem Ok_C (v : AV) {P : AV → Sto → Prop} : Ok (dC v η S) P = P v S := rfl
theorem Ok_b1 (d : Nv → M β) (f : β → M α) : Ok (bind1 d f η S) P = Ok (d η S) fun u S1 => Ok (f u S1) P := Ok_bind _ _
theorem Ok_b2 {γ : Type} (d : Nv → M β) (e : Nv → M γ) (f : β → γ → M α) : Ok (bind2 d e f η S) P = Ok (d η S) fun u S1 => Ok (e η S1) fun v S2 => Ok (f u v S2) P := by
  unfold bind2
  rw [Ok_bind]
  congr 1; funext u S1
  rw [Ok_bind]
theorem Ok_b3 (d : DE) (e f : DO) (g : AV → Option Int → Option Int → M AV) {P : AV → Sto → Prop} : Ok (bind3 d e f g η S) P = Ok (d η S) fun u S1 => Ok (e η S1) fun a S2 => Ok (f η S2) fun b S3 => Ok (g u a b S3) P := by
  unfold bind3
  rw [Ok_bind]
  congr 1; funext u S1
  rw [Ok_bind]
  congr 1; funext v S2
  rw [Ok_bind]
theorem Ok_nil {P : List AV → Sto → Prop} : Ok (dNil η S) P = P [] S := rfl
theorem Ok_cons (d : DE) (dl : DL) {P : List AV → Sto → Prop} : Ok (dCons d dl η S) P = Ok (d η S) fun x S1 => Ok (dl η S1) fun xs S2 => P (x :: xs) S2 := by
  unfold dCons
  rw [Ok_bind]
  congr 1; funext u S1
  rw [Ok_bind]
  rfl
theorem Ok_star (d : DE) (dl : DL) {P : List AV → Sto → Prop} : Ok (dStar d dl η S) P = Ok (d η S) fun x S1 => match itemsS S1 x with | some ys => Ok (dl η S1) fun xs S2 => P (ys ++ xs) S2 | none => False := by
  unfold dStar
  rw [Ok_bind]
  congr 1; funext u S1
  cases itemsS S1 u with
  | none => rfl
  | some ys => exact Ok_bind _ _
theorem Ok_ifE (t : DB) (a b : DE) {P : AV → Sto → Prop} : Ok (dIfE t a b η S) P = Ok (t η S) fun c S1 => if c = true then Ok (a η S1) P else Ok (b η S1) P := by
  unfold dIfE
  rw [Ok_bind]
  congr 1; funext c S1
  exact Ok_ite _ _
theorem Ok_and (a b : DE) {P : AV → Sto → Prop} : Ok (dAnd a b η S) P = Ok (a η S) fun x S1 => Ok (aTru x S1) fun c S2 => if c = true then Ok (b η S2) P else P x S2 := by
  unfold dAnd
  rw [Ok_bind]
  congr 1; funext x S1
  rw [Ok_bind]
  congr 1; funext c S2
  exact Ok_ite _ _
theorem Ok_or (a b : DE) {P : AV → Sto → Prop} : Ok (dOr a b η S) P = Ok (a η S) fun x S1 => Ok (aTru x S1) fun c S2 => if c = true then P x S2 else Ok (b η S2) P := by
  unfold dOr
  rw [Ok_bind]
  congr 1; funext x S1
  rw [Ok_bind]
  congr 1; funext c S2
  exact Ok_ite _ _
theorem Ok_andB (a b : DB) {P : Bool → Sto → Prop} : Ok (dAndB a b η S) P = Ok (a η S) fun c S1 => if c = true then Ok (b η S1) P else P false S1 := by
  unfold dAndB
  rw [Ok_bind]
  congr 1; funext c S2
  exact Ok_ite _ _
theorem Ok_orB (a b : DB) {P : Bool → Sto → Prop} : Ok (dOrB a b η S) P = Ok (a η S) fun c S1 => if c = true then P true S1 else Ok (b η S1) P := by
  unfold dOrB
  rw [Ok_bind]
  congr 1; funext c S2
  exact Ok_ite _ _
theorem Ok_notB (a : DB) {P : Bool → Sto → Prop} : Ok (dNotB a η S) P = Ok (a η S) fun c S1 => P (!c) S1 := by
  unfold dNotB
  rw [Ok_bind]
  rfl
theorem Ok_asB (b : Bool) {P : Bool → Sto → Prop} : Ok (asB (.bl b) S) P = P b S := rfl
theorem Ok_asI (i : Int) {P : Option Int → Sto → Prop} : Ok (asI (.int i) S) P = P (some i) S := rfl
theorem Ok_no {P : Option Int → Sto → Prop} : Ok (dNo η S) P = P none S := rfl
theorem Ok_dnew {P : AV → Sto → Prop} : Ok (dDnew η S) P = P (.ref S.length) (S ++ [.dict []]) := rfl
theorem Ok_def {n m : Nat} {d : DS} {as : List AV} {P : AV → Sto → Prop} (h : as.length = n) : Ok (dDef n m d as S) P = Go (d (as.map some ++ List.replicate (m - n) none) S) (fun _ S' => P .non S') P (fun _ _ => False) (fun _ _ => False) := by
  unfold dDef
  rw [if_pos h]
  cases d (as.map some ++ List.replicate (m - n) none) S <;> rfl
/-- `enter`: a def's body begins -/
theorem Ok_chain (f g : AV → AV → M AV) (a b c : DE) {P : AV → Sto → Prop} : Ok (dChain f g a b c η S) P = Ok (a η S) fun x S1 => Ok (b η S1) fun y S2 => Ok (f x y S2) fun z S3 => Ok (asB z S3) fun q S4 => if q = true then Ok (c η S4) fun v S5 => Ok (g y v S5) P else P (.bl false) S4 := by
  unfold dChain
  rw [Ok_bind]
  congr 1; funext x S1
  rw [Ok_bind]
  congr 1; funext y S2
  rw [Ok_bind]
  congr 1; funext z S3
  rw [Ok_bind]
  congr 1; funext q S4
  rw [Ok_ite]
  split
  · rw [Ok_bind]
  · rfl
/-! ### operations -/
variable {P : AV → Sto → Prop} {i j : Int} {x y : Str} {xs ys : List AV}
theorem Ok_add : Ok (aAdd (.int i) (.int j) S) P = P (.int (i + j)) S := rfl
theorem Ok_addS (h : x.length + y.length ≤ sizeLine) : Ok (aAdd (.str x) (.str y) S) P = P (.str (x ++ y)) S := by
  unfold aAdd; simp only [if_pos h]; rfl
theorem Ok_addT (h : xs.length + ys.length ≤ sizeLine) : Ok (aAdd (.tup xs) (.tup ys) S) P = P (.tup (xs ++ ys)) S := by
  unfold aAdd; simp only [if_pos h]; rfl
theorem Ok_addL {m n : Nat} (h1 : S[m]? = some (.lst xs)) (h2 : S[n]? = some (.lst ys)) (h : xs.length + ys.length ≤ sizeLine) : Ok (aAdd (.ref m) (.ref n) S) P = P (.ref S.length) (S ++ [.lst (xs ++ ys)]) := by
  unfold aAdd; simp only [h1, h2, if_pos h]; rfl
theorem Ok_sub : Ok (aSub (.int i) (.int j) S) P = P (.int (i - j)) S := rfl
theorem Ok_mul (h : CMulB i j) : Ok (aMul (.int i) (.int j) S) P = P (.int (i * j)) S := by
  unfold aMul; simp only [if_pos h]; rfl
theorem Ok_mod (h : j ≠ 0) : Ok (aMod (.int i) (.int j) S) P = P (.int (i.fmod j)) S := by
  unfold aMod aI; simp only [if_pos (show CModB i j from h)]; rfl
theorem Ok_fdiv (h : CDivB i j) : Ok (aFdiv (.int i) (.int j) S) P = P (.int (i.fdiv j)) S := by
  unfold aFdiv aI; simp only [if_pos h]; rfl
theorem Ok_pow (h : CPowB i j) : Ok (aPow (.int i) (.int j) S) P = P (.int (i ^ j.toNat)) S := by
  unfold aPow aI; simp only [if_pos h]; rfl
theorem Ok_neg : Ok (aNeg (.int i) S) P = P (.int (-i)) S := rfl
theorem Ok_lt : Ok (aLt (.int i) (.int j) S) P = P (.bl (decide (i < j))) S := rfl
theorem Ok_le : Ok (aLe (.int i) (.int j) S) P = P (.bl (decide (i ≤ j))) S := rfl
theorem Ok_gt : Ok (aGt (.int i) (.int j) S) P = P (.bl (decide (j < i))) S := rfl
theorem Ok_ge : Ok (aGe (.int i) (.int j) S) P = P (.bl (decide (j ≤ i))) S := rfl
theorem Ok_isN {u : AV} : Ok (aIsN u .non S) P = P (.bl (isNon u)) S := rfl
theorem Ok_notN {u : AV} : Ok (aNotN u .non S) P = P (.bl (!isNon u)) S := rfl
theorem Ok_tup (h : xs.length ≤ 1000) : Ok (aTup xs S) P = P (.tup xs) S := by
  unfold aTup
  rw [if_pos (show xs.length ≤ sizeLine by have : sizeLine = 16777216 := sizeLine_eq; omega)]
  rfl
theorem Ok_lst (h : xs.length ≤ 1000) : Ok (aLst xs S) P = P (.ref S.length) (S ++ [.lst xs]) := by
  unfold aLst
  rw [if_pos (show xs.length ≤ sizeLine by have : sizeLine = 16777216 := sizeLine_eq; omega)]
  rfl
theorem Ok_lstN : Ok (aLstN xs S) P = P (.ref S.length) (S ++ [.lst xs]) := rfl
theorem Ok_ixT {v : AV} (h : atI xs i = some v) : Ok (aIx (.tup xs) (.int i) S) P = P v S := by
  unfold aIx dictAt; simp only [h]; rfl
theorem Ok_ixL {n : Nat} {v : AV} (h1 : S[n]? = some (.lst xs)) (h : atI xs i = some v) : Ok (aIx (.ref n) (.int i) S) P = P v S := by
  unfold aIx dictAt; simp only [h1, h]; rfl
theorem Ok_ixR {zs : List Int} {v : Int} (h : atI zs i = some v) : Ok (aIx (.rl zs) (.int i) S) P = P (.int v) S := by
  unfold aIx dictAt; simp only [h]; rfl
theorem Ok_ixS {c : Nat} (h : atI x.cps.toList i = some c) : Ok (aIx (.str x) (.int i) S) P = P (.str ⟨#[c]⟩) S := by
  unfold aIx dictAt; simp only [h]; rfl
theorem Ok_ixD {u v : AV} {kvs : List (Key × AV)} {k : Key} {w : AV} (h1 : dictAt S u = some kvs) (h2 : keyA v = some k) (h3 : valA kvs k = some w) : Ok (aIx u v S) P = P w S := by
  unfold aIx; simp only [h1, h2, h3]; rfl
theorem Ok_ixK {kvs : List (Str × Option Int)} {v : Int} (h : kvs.lookup x = some (some v)) : Ok (aIx (.kd kvs) (.str x) S) P = P (.int v) S := by
  unfold aIx dictAt; simp only [h]; rfl
theorem Ok_eq {u v : AV} {b : Bool} (h : eqS S u v = some b) : Ok (aEq u v S) P = P (.bl b) S := by
  unfold aEq; simp only [h]; rfl
theorem Ok_ne {u v : AV} {b : Bool} (h : eqS S u v = some b) : Ok (aNe u v S) P = P (.bl (!b)) S := by
  unfold aNe; simp only [h]; rfl
theorem Ok_in {u v : AV} {b : Bool} (h : inS S u v = some b) : Ok (aIn u v S) P = P (.bl b) S := by
  unfold aIn; simp only [h]; rfl
theorem Ok_notin {u v : AV} {b : Bool} (h : inS S u v = some b) : Ok (aNotIn u v S) P = P (.bl (!b)) S := by
  unfold aNotIn; simp only [h]; rfl
theorem Ok_tru {u : AV} {b : Bool} {P : Bool → Sto → Prop} (h : truS S u = some b) : Ok (aTru u S) P = P b S := by
  unfold aTru; simp only [h]; rfl
theorem Ok_truB {b : Bool} {P : Bool → Sto → Prop} : Ok (aTru (.bl b) S) P = P b S := rfl
theorem Ok_not {u : AV} {b : Bool} (h : truS S u = some b) : Ok (aNot u S) P = P (.bl (!b)) S := by
  unfold aNot; rw [Ok_bind, Ok_tru h]; rfl
theorem Ok_notBl {b : Bool} : Ok (aNot (.bl b) S) P = P (.bl (!b)) S := rfl
theorem Ok_abs : Ok (aAbs [.int i] S) P = P (.int (if i < 0 then -i else i)) S := rfl
theorem Ok_max : Ok (aMax [.int i, .int j] S) P = P (.int (if j > i then j else i)) S := rfl
theorem Ok_min : Ok (aMin [.int i, .int j] S) P = P (.int (if j < i then j else i)) S := rfl
theorem Ok_lenS : Ok (aLen [.str x] S) P = P (.int x.length) S := rfl
theorem Ok_lenT : Ok (aLen [.tup xs] S) P = P (.int xs.length) S := rfl
theorem Ok_lenR {zs : List Int} : Ok (aLen [.rl zs] S) P = P (.int zs.length) S := rfl
theorem Ok_lenL {n : Nat} (h : S[n]? = some (.lst xs)) : Ok (aLen [.ref n] S) P = P (.int xs.length) S := by
  unfold aLen; simp only [h]; rfl
theorem Ok_lenD {n : Nat} {kvs : List (Key × AV)} (h : S[n]? = some (.dict kvs)) : Ok (aLen [.ref n] S) P = P (.int kvs.length) S := by
  unfold aLen; simp only [h]; rfl
theorem Ok_intI : Ok (aInt [.int i] S) P = P (.int i) S := rfl
theorem Ok_intB {b : Bool} : Ok (aInt [.bl b] S) P = P (.int (if b then 1 else 0)) S := rfl
theorem Ok_strS : Ok (aStr [.str x] S) P = P (.str x) S := rfl
theorem Ok_isi {u : AV} {k T : String} {b : Bool} (h1 : kindA S u = some k) (h2 : kitB k T = some b) : Ok (aIsi [u, .ty T] S) P = P (.bl b) S := by
  unfold aIsi; simp only [h1, h2]; rfl
theorem Ok_M0 (d : DE) (f : AV → List AV → M AV) : Ok (dM0 d f η S) P = Ok (d η S) fun o S1 => if isStr o = true then Ok (f o [] S1) P else False := by
  unfold dM0; rw [Ok_bind]; congr 1; funext o S1; rw [Ok_ite]; rfl
theorem Ok_M1 (d a : DE) (f : AV → List AV → M AV) : Ok (dM1 d a f η S) P = Ok (d η S) fun o S1 => if isStr o = true then Ok (a η S1) fun v S2 => Ok (f o [v] S2) P else False := by
  unfold dM1; rw [Ok_bind]; congr 1; funext o S1; rw [Ok_ite]
  split
  · rw [Ok_bind]
  · rfl
theorem Ok_ML (d : DE) (dl : DL) (f : AV → List AV → M AV) : Ok (dML d dl f η S) P = Ok (d η S) fun o S1 => if (lstAt S1 o).isSome = true then Ok (dl η S1) fun v S2 => Ok (f o v S2) P else False := by
  unfold dML; rw [Ok_bind]; congr 1; funext o S1; rw [Ok_ite]
  split
  · rw [Ok_bind]
  · rfl
theorem lstAt_of {n : Nat} (h : S[n]? = some (.lst xs)) : lstAt S (.ref n) = some (n, xs) := by unfold lstAt; simp only [h]
theorem Ok_append {n : Nat} {v : AV} (h : S[n]? = some (.lst xs)) (hl : xs.length < sizeLine) : Ok (aAppend (.ref n) [v] S) P = P .non (S.set n (.lst (xs ++ [v]))) := by
  unfold aAppend; simp only [lstAt_of h, if_pos hl]; rfl
theorem Ok_extend {n m : Nat} (h : S[n]? = some (.lst xs)) (h' : S[m]? = some (.lst ys)) (hl : xs.length + ys.length ≤ sizeLine) : Ok (aExtend (.ref n) [.ref m] S) P = P .non (S.set n (.lst (xs ++ ys))) := by
  unfold aExtend; simp only [lstAt_of h, lstAt_of h', if_pos hl]; rfl
theorem Ok_tuple {u : AV} (h : seqA S u = some xs) : Ok (aTuple [u] S) P = P (.tup xs) S := by
  unfold aTuple
  split
  · rename_i e; cases e; cases h; rfl
  · rename_i e; cases e; simp only [h]; rfl
  · rename_i e; exact absurd rfl (e _)
theorem Ok_dict {u : AV} {kvs : List (Key × AV)} (h : dictAt S u = some kvs) : Ok (aDict [u] S) P = P (.ref S.length) (S ++ [.dict kvs]) := by
  unfold aDict; simp only [h]; rfl
theorem Ok_fld (cs : List Str) (f : Str) (d : DE) : Ok (dFld cs f d η S) P = Ok (d η S) fun o S1 => Ok (aFld cs f o S1) P := Ok_b1 _ _
theorem Ok_aFld {cs : List Str} {f c : Str} {n : Nat} {fs : List (Str × AV)} {v : AV} (h : S[n]? = some (.ins c fs)) (hf : fs.lookup f = some v) (hc : c ∈ cs) : Ok (aFld cs f (.ref n) S) P = P v S := by
  unfold aFld; simp only [h, if_pos hc, hf]; rfl
theorem Ok_meth {c m : Str} {d : DE} {dl : DL} {F : List AV → M AV} : Ok (dMeth c m d dl F η S) P = Ok (d η S) fun o S1 => if insB S1 c m o = true then Ok (dl η S1) fun as S2 => Ok (F (o :: as) S2) P else False := by
  unfold dMeth; rw [Ok_bind]; congr 1; funext o S1; rw [Ok_ite]
  split
  · rw [Ok_bind]
  · rfl
theorem insB_of {c m : Str} {n : Nat} {fs : List (Str × AV)} (h : S[n]? = some (.ins c fs)) (hf : fs.lookup m = none) : insB S c m (.ref n) = true := by
  unfold insB; simp only [h, hf]; simp
theorem Ok_make {c : Str} {dl : DL} {F : List AV → M AV} : Ok (dMake c dl F η S) P = Ok (dl η S) fun as S1 => Ok (F (.ref S1.length :: as) (S1 ++ [.ins c []])) fun r S2 => match r with | .non => P (.ref S1.length) S2 | _ => False := by
  unfold dMake; rw [Ok_bind]; congr 1; funext as S1
  rw [Ok_bind]; congr 1; funext r S2
  cases r <;> rfl
end
end Sim

set_option Elab.async false
set_option linter.all false
set_option maxRecDepth 100000
set_option maxHeartbeats 4000000
/-! P1: running by rewriting; the store's frame. -/
namespace Sim
open PySem PySem.Spec PyProof.Rows L2
-- (no congr)
def someM (o : Option AV) (P : AV → Sto → Prop) (S : Sto) : Prop := match o with
  | some v => P v S
  | none => False
def someB (o : Option Bool) (P : AV → Sto → Prop) (S : Sto) : Prop := match o with
  | some v => P (.bl v) S
  | none => False
def someT (o : Option Bool) (P : Bool → Sto → Prop) (S : Sto) : Prop := match o with
  | some v => P v S
  | none => False
section
variable {S : Sto} {P : AV → Sto → Prop} {i j : Int} {x y : Str} {xs ys : List AV} {η : Nv}
theorem someM_some (v : AV) : someM (some v) P S = P v S := rfl
theorem someB_some (v : Bool) : someB (some v) P S = P (.bl v) S := rfl
theorem someT_some (v : Bool) {P : Bool → Sto → Prop} : someT (some v) P S = P v S := rfl
theorem someM_congr {o o' : Option AV} (h : o = o') : someM o P S = someM o' P S := by rw [h]
theorem someB_congr {o o' : Option Bool} (h : o = o') : someB o P S = someB o' P S := by rw [h]
theorem someT_congr {o o' : Option Bool} (h : o = o') {P : Bool → Sto → Prop} : someT o P S = someT o' P S := by rw [h]
-- (no congr)
theorem truS_bl {b : Bool} : truS S (.bl b) = some b := rfl
theorem truS_int {i : Int} : truS S (.int i) = some (i != 0) := rfl
theorem ev_ixT : Ok (aIx (.tup xs) (.int i) S) P = someM (atI xs i) P S := by
  cases e : atI xs i with
  | some v => exact Ok_ixT e
  | none => unfold aIx dictAt; simp only [e]; rfl
theorem ev_eq {u v : AV} : Ok (aEq u v S) P = someB (eqS S u v) P S := by
  unfold aEq someB; cases eqS S u v <;> rfl
theorem ev_ne {u v : AV} : Ok (aNe u v S) P = someB ((eqS S u v).map not) P S := by
  unfold aNe someB; cases eqS S u v <;> rfl
theorem ev_in {u v : AV} : Ok (aIn u v S) P = someB (inS S u v) P S := by
  unfold aIn someB; cases inS S u v <;> rfl
theorem ev_notin {u v : AV} : Ok (aNotIn u v S) P = someB ((inS S u v).map not) P S := by
  unfold aNotIn someB; cases inS S u v <;> rfl
theorem ev_tru {u : AV} {P : Bool → Sto → Prop} : Ok (aTru u S) P = someT (truS S u) P S := by
  unfold aTru someT; cases truS S u <;> rfl
def someV (o : Option AV) (P : AV → Sto → Prop) (S : Sto) : Prop := match o with
  | some v => P v S
  | none => False
theorem ev_V (i : Nat) : Ok (dV i η S) P = match η[i]? with | some (some v) => P v S | _ => False := Ok_V i
/-! places in short lists -/
theorem atI_0 {α : Type} {a : α} {r : List α} : atI (a :: r) 0 = some a := by simp [atI, ixN]
theorem atI_1 {α : Type} {a b : α} {r : List α} : atI (a :: b :: r) 1 = some b := by
  unfold atI ixN
  rw [if_pos (by decide), if_pos (by simp only [List.length_cons]; omega)]
  rfl
theorem atI_2 {α : Type} {a b c : α} {r : List α} : atI (a :: b :: c :: r) 2 = some c := by
  unfold atI ixN
  rw [if_pos (by decide), if_pos (by simp only [List.length_cons]; omega)]
  rfl
theorem atI_3 {α : Type} {a b c d : α} {r : List α} : atI (a :: b :: c :: d :: r) 3 = some d := by
  unfold atI ixN
  rw [if_pos (by decide), if_pos (by simp only [List.length_cons]; omega)]
  rfl
theorem atI_m1 {α : Type} (r : List α) (a : α) : atI (r ++ [a]) (-1) = some a := atI_last r a
theorem eqS_int : eqS S (.int i) (.int j) = some (i == j) := rfl
theorem eqS_str : eqS S (.str x) (.str y) = some (x == y) := rfl
theorem eqS_bl {a b : Bool} : eqS S (.bl a) (.bl b) = some (a == b) := rfl
end
theorem ev_tup0 {S : Sto} {P : AV → Sto → Prop} : Ok (aTup [] S) P = P (.tup []) S := Ok_tup (by decide)
theorem ev_tup1 {S : Sto} {P : AV → Sto → Prop} {a : AV} : Ok (aTup [a] S) P = P (.tup [a]) S := Ok_tup (by simp)
theorem ev_tup2 {S : Sto} {P : AV → Sto → Prop} {a b : AV} : Ok (aTup [a, b] S) P = P (.tup [a, b]) S := Ok_tup (by simp)
theorem ev_tup3 {S : Sto} {P : AV → Sto → Prop} {a b c : AV} : Ok (aTup [a, b, c] S) P = P (.tup [a, b, c]) S := Ok_tup (by simp)
theorem ev_tup4 {S : Sto} {P : AV → Sto → Prop} {a b c d : AV} : Ok (aTup [a, b, c, d] S) P = P (.tup [a, b, c, d]) S := Ok_tup (by simp)
theorem ev_tup5 {S : Sto} {P : AV → Sto → Prop} {a b c d e : AV} : Ok (aTup [a, b, c, d, e] S) P = P (.tup [a, b, c, d, e]) S := Ok_tup (by simp)
local macro_rules
  | `(tactic| simp_arith [$ts,*]) => `(tactic| try simp only [Ok_ok, Ok_bad, Ok_b1, Ok_b2, Ok_b3, Ok_nil, Ok_cons, Ok_star, Ok_ifE, Ok_and, Ok_or, Ok_andB, Ok_orB, Ok_notB, Ok_asB, Ok_asI, Ok_no, Ok_dnew, Ok_chain, Ok_V, Ok_C, Ok_add, Ok_sub, Ok_neg, Ok_lt, Ok_le, Ok_gt, Ok_ge, Ok_isN, Ok_notN, Ok_truB, Ok_notBl, Ok_abs, Ok_max, Ok_min, Ok_lenS, Ok_lenT, Ok_lenR, Ok_intI, Ok_intB, Ok_strS, Ok_M0, Ok_M1, Ok_ML, Ok_fld, Ok_meth, Ok_make, Ok_lstN,
      Go_nx, Go_rt, Go_bk, Go_ct, Go_bad, Go_seq, Go_if, Go_set, Go_rtE, Go_ex, Go_dnx, Go_dbk, Go_dct, Go_drtn, Go_thru, Go_put, Go_fld, Go_par, Go_asg, tgS_nm, tgS_tp2, tgS_tp3, tgS_tp4,
      ev_tup0, ev_tup1, ev_tup2, ev_tup3, ev_tup4, ev_tup5, ev_ixT, ev_eq, ev_ne, ev_in, ev_notin, ev_tru, someM_some, someB_some, someT_some, atI_0, atI_1, atI_2, atI_3, truS_bl, truS_int, eqS_int, eqS_str, eqS_bl, Option.map_some, isNon, isStr,
      List.getElem?_cons_zero, List.getElem?_cons_succ, List.set_cons_zero, List.set_cons_succ, List.map_cons, List.map_nil, List.nil_append, List.cons_append, List.length_cons, List.length_nil, List.replicate, Nat.reduceSub, Nat.reduceAdd, if_true, ite_true, ite_false, if_false, reduceIte, Bool.false_eq_true, $ts,*])
theorem def_ok {n m : Nat} {d : DS} {as : List AV} {S : Sto} {P : AV → Sto → Prop} (h : as.length = n) (g : Go (d (as.map some ++ List.replicate (m - n) none) S) (fun _ S' => P .non S') P (fun _ _ => False) (fun _ _ => False)) : Ok (dDef n m d as S) P := (Ok_def h).symm ▸ g
/-! ### the store's frame -/
/-- what stood stands, but for what is named -/
structure Fr (W : List Nat) (S S' : Sto) : Prop where
  le : S.length ≤ S'.length
  at_ : ∀ n, n < S.length → n ∉ W → S'[n]? = S[n]?
section
variable {W W' : List Nat} {S S1 S2 : Sto} {n : Nat} {o u : AO}
theorem lt_of {S : Sto} {n : Nat} {o : AO} (h : S[n]? = some o) : n < S.length := (List.getElem?_eq_some_iff.mp h).1
theorem Fr.refl : Fr W S S := ⟨Nat.le_refl _, fun _ _ _ => rfl⟩
theorem Fr.trans (a : Fr W S S1) (b : Fr W S1 S2) : Fr W S S2 := ⟨Nat.le_trans a.le b.le, fun n h hn => (b.at_ n (Nat.lt_of_lt_of_le h a.le) hn).trans (a.at_ n h hn)⟩
theorem Fr.mono (a : Fr W S S1) (h : ∀ n ∈ W, n < S.length → n ∈ W') : Fr W' S S1 := ⟨a.le, fun n hl hn => a.at_ n hl fun z => hn (h n z hl)⟩
theorem Fr.get (a : Fr W S S1) (h : S[n]? = some o) (hn : n ∉ W) : S1[n]? = some o := (a.at_ n (lt_of h) hn).trans h
theorem Fr.set (n : Nat) (o : AO) : Fr [n] S (S.set n o) := ⟨by rw [List.length_set]; exact Nat.le_refl _, fun m _ hm => List.getElem?_set_ne fun e => hm (by rw [e]; exact List.mem_singleton.mpr rfl)⟩
theorem Fr.app (o : AO) : Fr W S (S ++ [o]) := ⟨by rw [List.length_append]; exact Nat.le_add_right _ _, fun n h _ => List.getElem?_append_left h⟩
theorem Fr.nil (a : Fr [] S S1) : Fr W S S1 := a.mono fun _ h => by cases h
theorem app_new : (S ++ [o])[S.length]? = some o := List.getElem?_concat_length ..
theorem app_get (h : S[n]? = some u) : (S ++ [o])[n]? = some u := (List.getElem?_append_left (lt_of h)).trans h
theorem set_same (h : n < S.length) : (S.set n o)[n]? = some o := List.getElem?_set_self h
theorem set_other {m : Nat} (h : S[m]? = some u) (hn : m ≠ n) : (S.set n o)[m]? = some u := (List.getElem?_set_ne (Ne.symm hn)).trans h
theorem app_len : (S ++ [o]).length = S.length + 1 := by rw [List.length_append]; rfl
end

set_option Elab.async false
set_option linter.all false
set_option maxRecDepth 100000
set_option maxHeartbeats 4000000
/-! P2: loops and comprehensions. -/
open PySem PySem.Spec PyProof.Rows L2
section
variable {S : Sto} {η : Nv} {N B C : Nv → Sto → Prop} {T : AV → Sto → Prop}
theorem Go_for (di : DI) (g : DT) (body : DS) : Go (dFor di g body η S) N T B C = Ok (di η S) fun it S1 => Go (loopF it g body it.n 0 η S1) N T B C := by
  unfold dFor
  rw [Go_thenS]
theorem loop_go {it : AIt} {g : DT} {body : DS} {n : Nat} (I : Nat → Nv → Sto → Prop)
    (step : ∀ k η S, k < n → I k η S → ∃ v, it.at_ k S = some (some v) ∧ tgS g v η S fun η1 S1 => Go (body η1 S1) (I (k + 1)) T N (I (k + 1)))
    (fin : ∀ η S, I n η S → it.at_ n S = some none ∧ N η S) : ∀ (m k : Nat) (η : Nv) (S : Sto), k + m = n → I k η S → Go (loopF it g body m k η S) N T B C := by
  intro m
  induction m with
  | zero =>
    intro k η S hk h
    obtain rfl : k = n := by omega
    obtain ⟨h1, h2⟩ := fin η S h
    unfold loopF
    rw [h1]
    exact h2
  | succ m ih =>
    intro k η S hk h
    obtain ⟨v, h1, h2⟩ := step k η S (by omega) h
    unfold loopF
    rw [h1]
    unfold tgS at h2
    cases eg : g v η S with
    | nx η1 S1 =>
      rw [eg] at h2
      simp only [eg]
      cases eb : body η1 S1 with
      | nx η2 S2 =>
        simp only at h2 ⊢
        rw [eb] at h2
        exact ih (k + 1) η2 S2 (by omega) h2
      | ct η2 S2 =>
        simp only at h2 ⊢
        rw [eb] at h2
        exact ih (k + 1) η2 S2 (by omega) h2
      | bk η2 S2 => simp only at h2 ⊢; rw [eb] at h2; exact h2
      | rt v S2 => simp only at h2 ⊢; rw [eb] at h2; exact h2
      | ex c fs S2 => simp only at h2 ⊢; rw [eb] at h2; exact h2
      | bad => simp only at h2 ⊢; rw [eb] at h2; exact h2
    | bk _ _ => rw [eg] at h2; exact h2.elim
    | ct _ _ => rw [eg] at h2; exact h2.elim
    | rt _ _ => rw [eg] at h2; exact h2.elim
    | ex _ _ _ => rw [eg] at h2; exact h2.elim
    | bad => rw [eg] at h2; exact h2.elim
/-- a loop, by what stands ahead of its k-th turn -/
theorem loop_ok {it : AIt} {g : DT} {body : DS} {n : Nat} (I : Nat → Nv → Sto → Prop) (hn : it.n = n) (h0 : I 0 η S)
    (step : ∀ k η S, k < n → I k η S → ∃ v, it.at_ k S = some (some v) ∧ tgS g v η S fun η1 S1 => Go (body η1 S1) (I (k + 1)) T N (I (k + 1)))
    (fin : ∀ η S, I n η S → it.at_ n S = some none ∧ N η S) : Go (loopF it g body it.n 0 η S) N T B C := by
  rw [hn]
  exact loop_go I step fin n 0 η S (by omega) h0
/-- a loop over a tuple -/
theorem loopT_ok {xs : List AV} {g : DT} {body : DS} (I : Nat → Nv → Sto → Prop) (h0 : I 0 η S)
    (step : ∀ k x η S, xs[k]? = some x → I k η S → tgS g x η S fun η1 S1 => Go (body η1 S1) (I (k + 1)) T N (I (k + 1)))
    (fin : ∀ η S, I xs.length η S → N η S) : Go (loopF (itT xs) g body (itT xs).n 0 η S) N T B C := by
  refine loop_ok (n := xs.length) I rfl h0 (fun k η S hk h => ?_) fun η S h => ⟨?_, fin η S h⟩
  · exact ⟨xs[k], by show some xs[k]? = _; rw [List.getElem?_eq_getElem hk], step k _ η S (List.getElem?_eq_getElem hk) h⟩
  · show some xs[xs.length]? = _
    rw [List.getElem?_eq_none (Nat.le_refl _)]
/-- a loop over a list that stays -/
theorem loopL_ok {r : Nat} {xs : List AV} {g : DT} {body : DS} (I : Nat → Nv → Sto → Prop) (hr : ∀ k η S, I k η S → S[r]? = some (.lst xs)) (h0 : I 0 η S)
    (step : ∀ k x η S, xs[k]? = some x → I k η S → tgS g x η S fun η1 S1 => Go (body η1 S1) (I (k + 1)) T N (I (k + 1)))
    (fin : ∀ η S, I xs.length η S → N η S) : Go (loopF (itL r xs.length) g body (itL r xs.length).n 0 η S) N T B C := by
  refine loop_ok (n := xs.length) I rfl h0 (fun k η S hk h => ?_) fun η S h => ⟨?_, fin η S h⟩
  · refine ⟨xs[k], ?_, step k _ η S (List.getElem?_eq_getElem hk) h⟩
    unfold itL
    simp only [hr k η S h, List.getElem?_eq_getElem hk]
  · unfold itL
    simp only [hr _ η S h, List.getElem?_eq_none (Nat.le_refl xs.length)]
/-- a loop over 0 .. n - 1 -/
theorem loopR_ok {n : Nat} {g : DT} {body : DS} (I : Nat → Nv → Sto → Prop) (h0 : I 0 η S)
    (step : ∀ k η S, k < n → I k η S → tgS g (.int k) η S fun η1 S1 => Go (body η1 S1) (I (k + 1)) T N (I (k + 1)))
    (fin : ∀ η S, I n η S → N η S) : Go (loopF (itR 0 1 n) g body (itR 0 1 n).n 0 η S) N T B C := by
  refine loop_ok (n := n) I rfl h0 (fun k η S hk h => ?_) fun η S h => ⟨?_, fin η S h⟩
  · refine ⟨.int k, ?_, step k η S hk h⟩
    unfold itR
    simp only [if_pos hk, Int.zero_add, Int.mul_one]
  · unfold itR
    simp only [Nat.lt_irrefl, if_false]
theorem Ok_rng1 {j : Int} {n : Nat} {P : AIt → Sto → Prop} (h : j = n) (hn : n < 2 ^ 61) : Ok (aRng1 [.int j] S) P = P (itR 0 1 n) S := by
  subst h
  unfold aRng1
  simp only [Int.natAbs_natCast, if_pos hn, Int.toNat_natCast]
  rfl
theorem Ok_walkT {xs : List AV} {P : AIt → Sto → Prop} : Ok (aWalk (.tup xs) S) P = P (itT xs) S := rfl
theorem Ok_walkR {xs : List Int} {P : AIt → Sto → Prop} : Ok (aWalk (.rl xs) S) P = P (itT (xs.map .int)) S := rfl
theorem Ok_walkS {z : Str} {P : AIt → Sto → Prop} : Ok (aWalk (.str z) S) P = P (itZ z) S := rfl
theorem Ok_walkL {r : Nat} {xs : List AV} {P : AIt → Sto → Prop} (h : S[r]? = some (.lst xs)) : Ok (aWalk (.ref r) S) P = P (itL r xs.length) S := by
  unfold aWalk lckAt aIter
  simp only [h]
  rfl
theorem Ok_enum {r : Nat} {xs : List AV} {P : AIt → Sto → Prop} (h : S[r]? = some (.lst xs)) : Ok (aEnum [.ref r] S) P = P (itE r xs.length) S := by
  unfold aEnum
  simp only [lstAt_of h]
  rfl
theorem loopE_ok {r : Nat} {xs : List AV} {g : DT} {body : DS} (I : Nat → Nv → Sto → Prop) (hr : ∀ k η S, I k η S → S[r]? = some (.lst xs)) (h0 : I 0 η S)
    (step : ∀ k x η S, xs[k]? = some x → I k η S → tgS g (.tup [.int (k : Nat), x]) η S fun η1 S1 => Go (body η1 S1) (I (k + 1)) T N (I (k + 1)))
    (fin : ∀ η S, I xs.length η S → N η S) : Go (loopF (itE r xs.length) g body (itE r xs.length).n 0 η S) N T B C := by
  refine loop_ok (n := xs.length) I rfl h0 (fun k η S hk h => ?_) fun η S h => ⟨?_, fin η S h⟩
  · refine ⟨.tup [.int (k : Nat), xs[k]], ?_, step k _ η S (List.getElem?_eq_getElem hk) h⟩
    unfold itE
    simp only [hr k η S h, List.getElem?_eq_getElem hk, Option.map_some]
  · unfold itE
    simp only [hr _ η S h, List.getElem?_eq_none (Nat.le_refl xs.length), Option.map_none]
/-! ### comprehensions -/
theorem Ok_lc {di : DI} {t : Tg} {dt : DB} {de : DE} {P : AV → Sto → Prop} : Ok (dLc di t dt de η S) P = Ok (di η S) fun it S1 => Ok (collF it t dt de (wipeA η t.own) it.n 0 [] S1) fun ys S2 => P (.ref S2.length) (S2 ++ [.lst ys]) := by
  unfold dLc
  rw [Ok_bind]
  congr 1; funext it S1
  rw [Ok_bind]
  rfl
theorem coll_go {it : AIt} {t : Tg} {dt : DB} {de : DE} {η0 : Nv} {n : Nat} {P : List AV → Sto → Prop} (I : Nat → List AV → Sto → Prop)
    (step : ∀ k acc S, k < n → I k acc S → ∃ v η1, it.at_ k S = some (some v) ∧ t.put v η0 = some η1 ∧ Ok (dt η1 S) fun c S1 => if c = true then Ok (de η1 S1) fun y S2 => acc.length < sizeLine ∧ I (k + 1) (acc ++ [y]) S2 else I (k + 1) acc S1)
    (fin : ∀ acc S, I n acc S → it.at_ n S = some none ∧ P acc S) : ∀ (m k : Nat) (acc : List AV) (S : Sto), k + m = n → I k acc S → Ok (collF it t dt de η0 m k acc S) P := by
  intro m
  induction m with
  | zero =>
    intro k acc S hk h
    obtain rfl : k = n := by omega
    obtain ⟨h1, h2⟩ := fin acc S h
    unfold collF
    rw [h1]
    exact h2
  | succ m ih =>
    intro k acc S hk h
    obtain ⟨v, η1, h1, h2, h3⟩ := step k acc S (by omega) h
    obtain ⟨c, S1, e1, h3⟩ := h3.get
    unfold collF
    simp only [h1, h2, e1]
    cases c with
    | false =>
      rw [if_neg Bool.false_ne_true] at h3
      exact ih (k + 1) acc S1 (by omega) h3
    | true =>
      rw [if_pos rfl] at h3
      obtain ⟨y, S2, e2, h4, h5⟩ := h3.get
      simp only [e2, if_pos h4]
      exact ih (k + 1) _ S2 (by omega) h5
theorem coll_ok {it : AIt} {t : Tg} {dt : DB} {de : DE} {η0 : Nv} {n : Nat} {P : List AV → Sto → Prop} (I : Nat → List AV → Sto → Prop) (hn : it.n = n) (h0 : I 0 [] S)
    (step : ∀ k acc S, k < n → I k acc S → ∃ v η1, it.at_ k S = some (some v) ∧ t.put v η0 = some η1 ∧ Ok (dt η1 S) fun c S1 => if c = true then Ok (de η1 S1) fun y S2 => acc.length < sizeLine ∧ I (k + 1) (acc ++ [y]) S2 else I (k + 1) acc S1)
    (fin : ∀ acc S, I n acc S → it.at_ n S = some none ∧ P acc S) : Ok (collF it t dt de η0 it.n 0 [] S) P := by
  rw [hn]
  exact coll_go I step fin n 0 [] S (by omega) h0
/-- each item by its own; nothing that stood is changed but W -/
theorem collT_ok {xs : List AV} {t : Tg} {de : DE} {η0 : Nv} {W : List Nat} {P : List AV → Sto → Prop} (R : Sto → Prop) (F : AV → AV → Prop) (h0 : R S) (hz : xs.length < sizeLine)
    (step : ∀ x S1, x ∈ xs → R S1 → Fr W S S1 → ∃ η1, t.put x η0 = some η1 ∧ Ok (de η1 S1) fun y S2 => F x y ∧ R S2 ∧ Fr W S1 S2)
    (fin : ∀ ys S1, Paired F xs ys → R S1 → Fr W S S1 → P ys S1) : Ok (collF (itT xs) t dYes de η0 (itT xs).n 0 [] S) P := by
  refine coll_ok (n := xs.length) (fun k acc S1 => R S1 ∧ Fr W S S1 ∧ Paired F (xs.take k) acc) rfl ⟨h0, Fr.refl, .nil⟩ (fun k acc S1 hk ⟨h1, h2, h3⟩ => ?_) fun acc S1 ⟨h1, h2, h3⟩ => ⟨?_, fin acc S1 ?_ h1 h2⟩
  · obtain ⟨η1, e1, h4⟩ := step xs[k] S1 (List.getElem_mem hk) h1 h2
    refine ⟨xs[k], η1, by show some xs[k]? = _; rw [List.getElem?_eq_getElem hk], e1, ?_⟩
    rw [show dYes η1 S1 = .ok true S1 from rfl, Ok_ok, if_pos rfl]
    refine h4.imp fun y S2 ⟨h5, h6, h7⟩ => ⟨?_, h6, h2.trans h7, ?_⟩
    · have := Paired.length h3
      rw [List.length_take] at this
      omega
    · rw [List.take_add_one, List.getElem?_eq_getElem hk]
      have : ∀ {as : List AV} {bs : List AV}, Paired F as bs → Paired F (as ++ [xs[k]]) (bs ++ [y]) := by
        intro as bs p
        induction p with
        | nil => exact .cons h5 .nil
        | cons a t ih => exact .cons a ih
      exact this h3
  · show some xs[xs.length]? = _
    rw [List.getElem?_eq_none (Nat.le_refl _)]
  · rw [List.take_length] at h3
    exact h3
theorem paired_map {f : AV → AV} : ∀ {xs ys : List AV}, Paired (fun x y => y = f x) xs ys → ys = xs.map f
  | _, _, .nil => rfl
  | _, _, .cons a t => by rw [a, paired_map t]; rfl
/-- a map -/
theorem collM_ok {xs : List AV} {t : Tg} {de : DE} {η0 : Nv} {P : List AV → Sto → Prop} (f : AV → AV) (hz : xs.length < sizeLine)
    (step : ∀ x S1, x ∈ xs → Fr [] S S1 → ∃ η1, t.put x η0 = some η1 ∧ Ok (de η1 S1) fun y S2 => y = f x ∧ Fr [] S1 S2)
    (fin : ∀ S1, Fr [] S S1 → P (xs.map f) S1) : Ok (collF (itT xs) t dYes de η0 (itT xs).n 0 [] S) P :=
  collT_ok (W := []) (fun _ => True) (fun x y => y = f x) trivial hz (fun x S1 hx _ h => by
    obtain ⟨η1, e1, h4⟩ := step x S1 hx h
    exact ⟨η1, e1, h4.imp fun y S2 ⟨h5, h6⟩ => ⟨h5, trivial, h6⟩⟩) fun ys S1 p _ h => by rw [paired_map p]; exact fin S1 h
end
theorem cutL_drop {α : Type} (xs : List α) (k : Nat) (h : k ≤ xs.length) : cutL xs (some (k : Int)) none = xs.drop k := by
  unfold cutL
  rw [HT.sIx_nat, HT.sIx_none, Nat.min_eq_left h]
  rw [List.take_of_length_le]
  rw [List.length_drop]
  omega
theorem cutL_take {α : Type} (xs : List α) (k : Nat) : cutL xs none (some (k : Int)) = xs.take k := by
  unfold cutL
  rw [HT.sIx_nat, HT.sIx_none, List.drop_zero, Nat.sub_zero]
  rw [Nat.min_def]
  split
  · rfl
  · rw [List.take_of_length_le (Nat.le_refl _), List.take_of_length_le (by omega)]
theorem Ok_slT {S : Sto} {xs : List AV} {lo hi : Option Int} {P : AV → Sto → Prop} : Ok (aSl (.tup xs) lo hi S) P = P (.tup (cutL xs lo hi)) S := rfl
theorem Ok_slL {S : Sto} {n : Nat} {xs : List AV} {lo hi : Option Int} {P : AV → Sto → Prop} (h : S[n]? = some (.lst xs)) : Ok (aSl (.ref n) lo hi S) P = P (.ref S.length) (S ++ [.lst (cutL xs lo hi)]) := by
  unfold aSl
  simp only [h]
  rfl
theorem Ok_tupleL {S : Sto} {n : Nat} {xs : List AV} {P : AV → Sto → Prop} (h : S[n]? = some (.lst xs)) : Ok (aTuple [.ref n] S) P = P (.tup xs) S := Ok_tuple (by unfold seqA; simp only [h])
theorem isL {S : Sto} {n : Nat} {xs : List AV} (h : S[n]? = some (.lst xs)) : (lstAt S (.ref n)).isSome = true := by rw [lstAt_of h]; rfl
theorem Fr.step0 {W : List Nat} {S S1 S2 : Sto} (a : Fr W S S1) (b : Fr [] S1 S2) : Fr W S S2 := a.trans b.nil
/-- each item of plain things by its own -/
theorem collQ_ok {α : Type} {S : Sto} {qs : List α} {t : Tg} {de : DE} {η0 : Nv} {W : List Nat} {P : List AV → Sto → Prop} (g h : α → AV) (hz : qs.length < sizeLine)
    (step : ∀ q S1, q ∈ qs → Fr W S S1 → ∃ η1, t.put (g q) η0 = some η1 ∧ Ok (de η1 S1) fun y S2 => y = h q ∧ Fr W S1 S2)
    (fin : ∀ S1, Fr W S S1 → P (qs.map h) S1) : Ok (collF (itT (qs.map g)) t dYes de η0 (itT (qs.map g)).n 0 [] S) P := by
  refine coll_ok (n := qs.length) (fun k acc S1 => Fr W S S1 ∧ acc = (qs.take k).map h) (by show (qs.map g).length = _; rw [List.length_map]) ⟨Fr.refl, rfl⟩ (fun k acc S1 hk ⟨h1, h2⟩ => ?_) fun acc S1 ⟨h1, h2⟩ => ⟨?_, ?_⟩
  · obtain ⟨η1, e1, h4⟩ := step qs[k] S1 (List.getElem_mem hk) h1
    refine ⟨g qs[k], η1, by show some (qs.map g)[k]? = _; rw [List.getElem?_map, List.getElem?_eq_getElem hk]; rfl, e1, ?_⟩
    rw [show dYes η1 S1 = .ok true S1 from rfl, Ok_ok, if_pos rfl]
    refine h4.imp fun y S2 ⟨h5, h6⟩ => ⟨?_, h1.trans h6, ?_⟩
    · rw [h2, List.length_map, List.length_take]
      omega
    · rw [h2, h5, List.take_add_one, List.getElem?_eq_getElem hk, List.map_append]
      rfl
  · show some (qs.map g)[qs.length]? = _
    rw [List.getElem?_eq_none (by rw [List.length_map]; exact Nat.le_refl _)]
  · rw [h2, List.take_length]
    exact fin S1 h1
/-- .. of a list in the store -/
theorem collQL_ok {α : Type} {S : Sto} {r : Nat} {qs : List α} {t : Tg} {de : DE} {η0 : Nv} {W : List Nat} {P : List AV → Sto → Prop} (g h : α → AV) (hr : S[r]? = some (.lst (qs.map g))) (hw : r ∉ W) (hz : qs.length < sizeLine)
    (step : ∀ q S1, q ∈ qs → Fr W S S1 → ∃ η1, t.put (g q) η0 = some η1 ∧ Ok (de η1 S1) fun y S2 => y = h q ∧ Fr W S1 S2)
    (fin : ∀ S1, Fr W S S1 → P (qs.map h) S1) : Ok (collF (itL r (qs.map g).length) t dYes de η0 (itL r (qs.map g).length).n 0 [] S) P := by
  refine coll_ok (n := qs.length) (fun k acc S1 => Fr W S S1 ∧ acc = (qs.take k).map h) (by show (qs.map g).length = _; rw [List.length_map]) ⟨Fr.refl, rfl⟩ (fun k acc S1 hk ⟨h1, h2⟩ => ?_) fun acc S1 ⟨h1, h2⟩ => ⟨?_, ?_⟩
  · obtain ⟨η1, e1, h4⟩ := step qs[k] S1 (List.getElem_mem hk) h1
    refine ⟨g qs[k], η1, ?_, e1, ?_⟩
    · unfold itL
      simp only [h1.get hr hw, List.getElem?_map, List.getElem?_eq_getElem hk, Option.map_some]
    rw [show dYes η1 S1 = .ok true S1 from rfl, Ok_ok, if_pos rfl]
    refine h4.imp fun y S2 ⟨h5, h6⟩ => ⟨?_, h1.trans h6, ?_⟩
    · rw [h2, List.length_map, List.length_take]
      omega
    · rw [h2, h5, List.take_add_one, List.getElem?_eq_getElem hk, List.map_append]
      rfl
  · unfold itL
    simp only [h1.get hr hw, List.getElem?_eq_none (show (qs.map g).length ≤ qs.length by rw [List.length_map]; exact Nat.le_refl _)]
  · rw [h2, List.take_length]
    exact fin S1 h1
theorem strsA_map : ∀ zs : List Str, strsA (zs.map .str) = some zs
  | [] => rfl
  | z :: zs => by
    show (strsA (zs.map .str)).map (z :: ·) = _
    rw [strsA_map zs]
    rfl
theorem Ok_joinT {S : Sto} {a : Str} {zs : List Str} {P : AV → Sto → Prop} (h : joinOk a zs = true) : Ok (aJoin (.str a) [.tup (zs.map .str)] S) P = P (.str (mkS (TL.joinL (TL.tl a) (zs.map TL.tl)))) S := by
  unfold aJoin
  simp only [seqA, strsA_map, if_pos h]
  rfl
theorem Ok_joinL {S : Sto} {r : Nat} {a : Str} {zs : List Str} {P : AV → Sto → Prop} (hr : S[r]? = some (.lst (zs.map .str))) (h : joinOk a zs = true) : Ok (aJoin (.str a) [.ref r] S) P = P (.str (mkS (TL.joinL (TL.tl a) (zs.map TL.tl)))) S := by
  unfold aJoin
  simp only [seqA, hr, strsA_map, if_pos h]
  rfl
theorem joinOk_of {a : Str} {zs : List Str} {c n : Nat} (h : ∀ z ∈ zs, z.length ≤ c) (hn : zs.length ≤ n) (hb : n * (c + a.length) ≤ 16777216) : joinOk a zs = true := by
  have h1 : (zs.map (·.length)).sum ≤ zs.length * c := by
    clear hn hb
    induction zs with
    | nil => exact Nat.zero_le _
    | cons z r ih =>
      have := ih fun y hy => h y (List.mem_cons_of_mem _ hy)
      have := h z (List.mem_cons_self ..)
      rw [List.map_cons, List.sum_cons, List.length_cons, Nat.succ_mul]
      omega
  refine decide_eq_true ?_
  have h2 : zs.length * (c + a.length) ≤ n * (c + a.length) := Nat.mul_le_mul_right _ hn
  rw [Nat.mul_add] at h2
  omega

set_option Elab.async false
set_option linter.all false
set_option maxRecDepth 100000
set_option maxHeartbeats 4000000
/-! M1: sums, rows, their texts and their tuples. -/
open PySem PySem.Spec PyProof.Rows L2 TL
def letS : Str := "abcdefghijklmnopqrstuvwxyz"
def words3 : List Str := ["show", "drop", "if"]
def isLet (c : Nat) : Bool := decide (c ∈ letS.cps.toList)
def isWord (z : Str) : Bool := words3.any fun y => y == z
def isNm (z : Str) : Bool := (decide ((1 : Int) ≤ z.length) && decide ((z.length : Int) ≤ 4)) && (!isWord z && z.cps.toList.all isLet)

inductive Atm
  | nm (z : Str)
  | num (n : Nat)
  deriving DecidableEq
structure Prd where
  neg : Bool
  fst : Atm
  prs : List (Bool × Atm)
  deriving DecidableEq
abbrev Sm := List Prd
def jS (b : Bool) : Str := if b then "*" else "//"
def sgI (b : Bool) : Int := if b then -1 else 1
def atmA : Atm → AV
  | .nm z => .str z
  | .num n => .int n
def prA (p : Bool × Atm) : AV := .tup [.str (jS p.1), atmA p.2]
def prdA (p : Prd) : AV := .tup [.int (sgI p.neg), atmA p.fst, .tup (p.prs.map prA)]
def smA (s : Sm) : AV := .tup (s.map prdA)
def atmOk : Atm → Bool
  | .nm z => isNm z
  | .num n => decide (n < 1000)
def prdOk (p : Prd) : Bool := atmOk p.fst && p.prs.all fun q => atmOk q.2
def prdN (p : Prd) : Nat := 1 + p.prs.length
def smN (s : Sm) : Nat := (s.map prdN).sum
structure SmOk (s : Sm) : Prop where
  ne : s ≠ []
  n : smN s ≤ 8
  ok : ∀ p ∈ s, prdOk p = true

def numT (n : Nat) : Str := toString ((n : Nat) : Int)
def atmT : Atm → Str
  | .nm z => z
  | .num n => numT n
def sgT (b : Bool) : Str := if b then "-" else "+"
inductive Mk2
  | sg (neg : Bool)
  | jn (mul : Bool)
def mkT : Mk2 → Str
  | .sg b => sgT b
  | .jn b => jS b
/-- a product as marks and atoms, a sum so -/
def prdM (p : Prd) : List (Mk2 × Atm) := (.sg p.neg, p.fst) :: p.prs.map fun q => (.jn q.1, q.2)
def smM (s : Sm) : List (Mk2 × Atm) := s.flatMap prdM
def flatM : List (Mk2 × Atm) → List Str
  | [] => []
  | (m, a) :: r => mkT m :: atmT a :: flatM r
def headNeg : Sm → Bool
  | [] => false
  | p :: _ => p.neg
/-- the words of a sum's text -/
def wordsS (s : Sm) : List Str := if headNeg s then flatM (smM s) else (flatM (smM s)).tail
def sumT (s : Sm) : Str := mkS (joinL [32] ((wordsS s).map tl))

def digS : Str := "0123456789"
def isDig (c : Nat) : Bool := decide (c ∈ digS.cps.toList)
def isNW (z : Str) : Bool := (decide ((1 : Int) ≤ z.length) && decide ((z.length : Int) ≤ 3)) && z.cps.toList.all isDig && (z == "0" || !((⟨#[z.cps.toList.headD 0]⟩ : Str) == "0"))
theorem num_facts : ∀ n, n < 1000 → isNm (numT n) = false ∧ isNW (numT n) = true ∧ PySem.intText? (numT n) = some ((n : Nat) : Int) ∧ (numT n).length ≤ 3 ∧ 32 ∉ tl (numT n) ∧ tl (numT n) ≠ [45] := by decide +kernel
theorem let_facts : ∀ c ∈ letS.cps.toList, 97 ≤ c ∧ c ≤ 122 := by decide +kernel
theorem isLet_lt {c : Nat} (h : isLet c = true) : 97 ≤ c ∧ c ≤ 122 := let_facts c (of_decide_eq_true h)
theorem isNm_and {z : Str} (h : isNm z = true) : 1 ≤ z.length ∧ z.length ≤ 4 ∧ isWord z = false ∧ ∀ c ∈ tl z, isLet c = true := by
  have h' : ((decide ((1 : Int) ≤ z.length) && decide ((z.length : Int) ≤ 4)) && (!isWord z && z.cps.toList.all isLet)) = true := h
  simp only [Bool.and_eq_true, decide_eq_true_eq, Bool.not_eq_true', List.all_eq_true] at h'
  obtain ⟨⟨h1, h2⟩, h3, h4⟩ := h'
  exact ⟨by omega, by omega, h3, h4⟩
theorem nm_free {z : Str} {c : Nat} (h : isNm z = true) (hc : c < 97 ∨ 122 < c) : c ∉ tl z := fun m => by
  have := isLet_lt ((isNm_and h).2.2.2 c m)
  omega
theorem atm_len {a : Atm} (h : atmOk a = true) : (atmT a).length ≤ 4 := by
  cases a with
  | nm z => exact (isNm_and h).2.1
  | num n => exact Nat.le_trans (num_facts n (of_decide_eq_true h)).2.2.2.1 (by decide)
theorem atm_free {a : Atm} (h : atmOk a = true) : 32 ∉ tl (atmT a) := by
  cases a with
  | nm z => exact nm_free h (.inl (by decide))
  | num n => exact (num_facts n (of_decide_eq_true h)).2.2.2.2.1
theorem atm_no45 {a : Atm} (h : atmOk a = true) : tl (atmT a) ≠ [45] := by
  cases a with
  | nm z => exact fun e => nm_free h (c := 45) (.inl (by decide)) (by show 45 ∈ tl z; rw [show tl z = [45] from e]; exact List.mem_singleton.mpr rfl)
  | num n => exact (num_facts n (of_decide_eq_true h)).2.2.2.2.2
theorem mk_free (m : Mk2) : 32 ∉ tl (mkT m) := by
  cases m with
  | sg b => cases b <;> decide +kernel
  | jn b => cases b <;> decide +kernel
theorem mk_len (m : Mk2) : (mkT m).length ≤ 4 := by
  cases m with
  | sg b => cases b <;> decide +kernel
  | jn b => cases b <;> decide +kernel
def okM (ms : List (Mk2 × Atm)) : Prop := ∀ q ∈ ms, atmOk q.2 = true
theorem okM_of {s : Sm} (h : ∀ p ∈ s, prdOk p = true) : okM (smM s) := by
  intro q hq
  obtain ⟨p, hp, hq⟩ := List.mem_flatMap.mp hq
  have h' := h p hp
  unfold prdOk at h'
  simp only [Bool.and_eq_true, List.all_eq_true] at h'
  rcases List.mem_cons.mp hq with rfl | hq
  · exact h'.1
  · obtain ⟨x, hx, rfl⟩ := List.mem_map.mp hq
    exact h'.2 x hx
theorem flatM_mem : ∀ {ms : List (Mk2 × Atm)} {w : Str}, w ∈ flatM ms → ∃ q ∈ ms, w = mkT q.1 ∨ w = atmT q.2
  | [], _, h => by cases h
  | (m, a) :: r, w, h => by
    rcases List.mem_cons.mp h with rfl | h
    · exact ⟨_, List.mem_cons_self, .inl rfl⟩
    · rcases List.mem_cons.mp h with rfl | h
      · exact ⟨_, List.mem_cons_self, .inr rfl⟩
      · obtain ⟨q, hq, e⟩ := flatM_mem h
        exact ⟨q, List.mem_cons_of_mem _ hq, e⟩
theorem flatM_length : ∀ ms : List (Mk2 × Atm), (flatM ms).length = 2 * ms.length
  | [] => rfl
  | (m, a) :: r => by
    show (flatM r).length + 1 + 1 = 2 * (r.length + 1)
    rw [flatM_length r]
    omega
theorem flatM_at : ∀ (ms : List (Mk2 × Atm)) (k : Nat) (q : Mk2 × Atm), ms[k]? = some q → (flatM ms)[2 * k]? = some (mkT q.1) ∧ (flatM ms)[2 * k + 1]? = some (atmT q.2)
  | [], _, _, h => by simp at h
  | (m, a) :: r, 0, q, h => by
    have e : (m, a) = q := Option.some.inj h
    subst e
    exact ⟨rfl, rfl⟩
  | (m, a) :: r, k + 1, q, h => by
    have h' := flatM_at r k q h
    exact h'
theorem smM_length : ∀ s : Sm, (smM s).length = smN s
  | [] => rfl
  | p :: r => by
    show (prdM p ++ smM r).length = prdN p + smN r
    rw [List.length_append, smM_length r]
    show (p.prs.map _).length + 1 + _ = 1 + p.prs.length + _
    rw [List.length_map]
    omega
theorem flatM_free {ms : List (Mk2 × Atm)} (h : okM ms) : ∀ w ∈ flatM ms, 32 ∉ tl w ∧ w.length ≤ 4 := by
  intro w hw
  obtain ⟨q, hq, e⟩ := flatM_mem hw
  rcases e with rfl | rfl
  · exact ⟨mk_free _, mk_len _⟩
  · exact ⟨atm_free (h q hq), atm_len (h q hq)⟩
theorem wordsS_sub (s : Sm) : ∀ w ∈ wordsS s, w ∈ flatM (smM s) := by
  intro w hw
  unfold wordsS at hw
  split at hw
  · exact hw
  · exact List.mem_of_mem_tail hw
theorem wordsS_free {s : Sm} (h : SmOk s) : ∀ w ∈ wordsS s, 32 ∉ tl w ∧ w.length ≤ 4 := fun w hw => flatM_free (okM_of h.ok) w (wordsS_sub s w hw)
theorem wordsS_ne {s : Sm} (h : SmOk s) : wordsS s ≠ [] := by
  cases s with
  | nil => exact absurd rfl h.ne
  | cons p r =>
    unfold wordsS
    show (if p.neg = true then _ else _) ≠ []
    split
    · exact fun e => by cases e
    · exact fun e => by cases e
theorem spl_sumT {s : Sm} (h : SmOk s) : spl [32] 0 [] (tl (sumT s)) = (wordsS s).map tl := by
  unfold sumT
  rw [tl_mkS]
  refine spl_join (s := 32) (S := []) (fun e => wordsS_ne h (List.map_eq_nil_iff.mp e)) fun p hp => ?_
  obtain ⟨w, hw, rfl⟩ := List.mem_map.mp hp
  exact (wordsS_free h w hw).1
theorem len_joinL (S : List Nat) : ∀ parts : List (List Nat), (joinL S parts).length ≤ (parts.map fun p => p.length + S.length).sum
  | [] => Nat.zero_le _
  | [p] => by
    show p.length ≤ p.length + S.length + 0
    omega
  | p :: q :: r => by
    show (p ++ (S ++ joinL S (q :: r))).length ≤ (p.length + S.length) + ((q :: r).map fun p => p.length + S.length).sum
    have h := len_joinL S (q :: r)
    rw [List.length_append, List.length_append]
    omega
theorem sum_le {l : List Nat} {c : Nat} (h : ∀ x ∈ l, x ≤ c) : l.sum ≤ l.length * c := by
  induction l with
  | nil => exact Nat.zero_le _
  | cons x r ih =>
    have h1 := h x List.mem_cons_self
    have h2 := ih fun y hy => h y (List.mem_cons_of_mem _ hy)
    rw [List.sum_cons, List.length_cons, Nat.succ_mul]
    omega
theorem sumT_len {s : Sm} (h : SmOk s) : (sumT s).length ≤ 80 := by
  unfold sumT
  rw [len_mkS]
  refine Nat.le_trans (len_joinL _ _) ?_
  rw [List.map_map]
  have e1 : (wordsS s).length ≤ 16 := by
    have h1 := flatM_length (smM s)
    rw [smM_length] at h1
    have h2 := h.n
    unfold wordsS
    split
    · omega
    · rw [List.length_tail]
      omega
  refine Nat.le_trans (sum_le (c := 5) fun x hx => ?_) ?_
  · obtain ⟨w, hw, rfl⟩ := List.mem_map.mp hx
    have := (wordsS_free h w hw).2
    rw [len_tl] at this
    show (tl w).length + [32].length ≤ 5
    rw [List.length_singleton]
    omega
  · rw [List.length_map]
    omega
/-! ### the products that marks and atoms make -/
def stepP (acc : Sm) (q : Mk2 × Atm) : Sm :=
  match q.1 with
  | .sg b => acc ++ [⟨b, q.2, []⟩]
  | .jn b => match acc.reverse with
    | [] => []
    | p :: r => r.reverse ++ [⟨p.neg, p.fst, p.prs ++ [(b, q.2)]⟩]
theorem stepP_jn (acc : Sm) (p : Prd) (b : Bool) (a : Atm) : stepP (acc ++ [p]) (.jn b, a) = acc ++ [⟨p.neg, p.fst, p.prs ++ [(b, a)]⟩] := by
  unfold stepP
  simp
theorem fold_jn : ∀ (l : List (Bool × Atm)) (acc : Sm) (p : Prd), (l.map fun q => (Mk2.jn q.1, q.2)).foldl stepP (acc ++ [p]) = acc ++ [⟨p.neg, p.fst, p.prs ++ l⟩]
  | [], acc, p => by rw [List.append_nil]; rfl
  | (b, a) :: r, acc, p => by
    show (r.map fun q => (Mk2.jn q.1, q.2)).foldl stepP (stepP (acc ++ [p]) (.jn b, a)) = _
    rw [stepP_jn, fold_jn r acc]
    rw [List.append_assoc]
    rfl
theorem fold_prd (p : Prd) (acc : Sm) : (prdM p).foldl stepP acc = acc ++ [p] := by
  show (p.prs.map fun q => (Mk2.jn q.1, q.2)).foldl stepP (acc ++ [⟨p.neg, p.fst, []⟩]) = _
  rw [fold_jn]
  rfl
theorem fold_sm : ∀ (s acc : Sm), (smM s).foldl stepP acc = acc ++ s
  | [], acc => by rw [List.append_nil]; rfl
  | p :: r, acc => by
    show (prdM p ++ smM r).foldl stepP acc = _
    rw [List.foldl_append, fold_prd, fold_sm r, List.append_assoc]
    rfl

theorem pre_cons (s c : Nat) (S r : List Nat) : pre (s :: S) (c :: r) = (c == s && pre S r) := rfl
theorem pre_word : ∀ (A B r : List Nat), 32 ∉ A → 32 ∉ B → pre (A ++ [32]) (B ++ 32 :: r) = decide (A = B)
  | [], [], r, _, _ => by
    show pre [32] (32 :: r) = _
    rw [pre_cons]
    rfl
  | [], b :: B, r, _, hb => by
    show pre [32] (b :: (B ++ 32 :: r)) = _
    rw [pre_cons]
    have : b ≠ 32 := fun e => hb (by rw [e]; exact List.mem_cons_self)
    rw [beq_false_of_ne this]
    rfl
  | a :: A, [], r, ha, _ => by
    show pre (a :: (A ++ [32])) (32 :: r) = _
    rw [pre_cons]
    have : 32 ≠ a := fun e => ha (by rw [e]; exact List.mem_cons_self)
    rw [beq_false_of_ne this]
    rfl
  | a :: A, b :: B, r, ha, hb => by
    show pre (a :: (A ++ [32])) (b :: (B ++ 32 :: r)) = _
    rw [pre_cons, pre_word A B r (fun h => ha (List.mem_cons_of_mem _ h)) (fun h => hb (List.mem_cons_of_mem _ h))]
    rw [Bool.eq_iff_iff]
    simp only [Bool.and_eq_true, beq_iff_eq, decide_eq_true_eq, List.cons.injEq]
    constructor
    · rintro ⟨h1, h2⟩
      exact ⟨h1.symm, h2⟩
    · rintro ⟨h1, h2⟩
      exact ⟨h1.symm, h2⟩

inductive Row0
  | set (n : Str) (s : Sm)
  | drop (n : Str)
  | shw (s : Sm)
  deriving DecidableEq
inductive Row
  | pl (r : Row0)
  | cond (t : Sm) (r : Row0)
  deriving DecidableEq
def row0A : Row0 → AV
  | .set n s => .tup [.str "set", .str n, smA s]
  | .drop n => .tup [.str "drop", .str n]
  | .shw s => .tup [.str "show", smA s]
def rowA : Row → AV
  | .pl r => row0A r
  | .cond t r => .tup [.str "if", smA t, row0A r]
def rowsA (rs : List Row) : AV := .tup (rs.map rowA)
def Row0Ok : Row0 → Prop
  | .set n s => isNm n = true ∧ SmOk s
  | .drop n => isNm n = true
  | .shw s => SmOk s
def RowOk : Row → Prop
  | .pl r => Row0Ok r
  | .cond t r => SmOk t ∧ Row0Ok r
def row0T : Row0 → Str
  | .set n s => n ++ " = " ++ sumT s
  | .drop n => "drop " ++ n
  | .shw s => "show " ++ sumT s
def rowT : Row → Str
  | .pl r => row0T r
  | .cond t r => "if " ++ sumT t ++ ": " ++ row0T r
def rowsT (rs : List Row) : Str := mkS (joinL [10] ((rs.map rowT).map tl))
/-! what a row's text begins with, and where it is cut -/
theorem words_signs {s : Sm} (h : SmOk s) {c : Nat} (hc : c = 58 ∨ c = 10 ∨ c = 61) : c ∉ tl (sumT s) := by
  unfold sumT
  rw [tl_mkS]
  have one : ∀ w ∈ wordsS s, c ∉ tl w := by
    intro w hw
    obtain ⟨q, hq, e⟩ := flatM_mem (wordsS_sub s w hw)
    have ok := okM_of h.ok q hq
    rcases e with rfl | rfl
    · cases q.1 with
      | sg b => cases b <;> rcases hc with rfl | rfl | rfl <;> decide +kernel
      | jn b => cases b <;> rcases hc with rfl | rfl | rfl <;> decide +kernel
    · cases hq2 : q.2 with
      | nm z =>
        rw [hq2] at ok
        exact nm_free ok (by omega)
      | num n =>
        show c ∉ tl (Str.ofString (toString ((n : Nat) : Int)))
        rw [tl_num]
        exact numL_free (by omega)
  have : ∀ parts : List (List Nat), (∀ p ∈ parts, c ∉ p) → c ∉ joinL [32] parts := by
    intro parts
    induction parts with
    | nil => intro _ hm; cases hm
    | cons p r ih =>
      intro hp hm
      cases r with
      | nil => exact hp p List.mem_cons_self hm
      | cons q r =>
        have hm' : c ∈ p ++ ([32] ++ joinL [32] (q :: r)) := hm
        rcases List.mem_append.mp hm' with hm | hm
        · exact hp p List.mem_cons_self hm
        · rcases List.mem_append.mp hm with hm | hm
          · have : c = 32 := List.mem_singleton.mp hm
            omega
          · exact ih (fun x hx => hp x (List.mem_cons_of_mem _ hx)) hm
  exact this _ fun p hp => by
    obtain ⟨w, hw, rfl⟩ := List.mem_map.mp hp
    exact one w hw
theorem eq_of_tl {x y : Str} : tl x = tl y ↔ x = y := ⟨TL.ext_tl, fun h => by rw [h]⟩
/-- a text that is a word, a blank and the rest, begins with another word and a blank just where they are the same -/
theorem sw_word (x y r : Str) (a : List Nat) (hx : 32 ∉ tl x) (hy : 32 ∉ tl y) (e : tl r = 32 :: a) : pre (tl (y ++ (" " : Str))) (tl (x ++ r)) = decide (y = x) := by
  rw [tl_append, tl_append, e, show tl (Str.ofString " ") = [32] by decide +kernel, pre_word _ _ _ hy hx]
  rw [Bool.eq_iff_iff, decide_eq_true_eq, decide_eq_true_eq]
  exact eq_of_tl
theorem nm_no {z w : Str} (h : isNm z = true) (hw : isWord w = true) : ¬ w = z := fun e => by
  have := (isNm_and h).2.2.1
  rw [← e, hw] at this
  cases this
theorem tlS (s : String) : tl (Str.ofString s) = s.toList.map Char.toNat := tl_ofString s
def isDrop : Row0 → Bool
  | .drop _ => true
  | _ => false
def isShw : Row0 → Bool
  | .shw _ => true
  | _ => false
/-- the first word of a row's text, as told by startswith -/
theorem sw_row0 (r : Row0) (h : Row0Ok r) :
    pre (tl ("drop " : Str)) (tl (row0T r)) = isDrop r ∧ pre (tl ("show " : Str)) (tl (row0T r)) = isShw r ∧ pre (tl ("if " : Str)) (tl (row0T r)) = false := by
  have ed : (Str.ofString "drop " : Str) = Str.ofString "drop" ++ Str.ofString " " := by decide +kernel
  have es : (Str.ofString "show " : Str) = Str.ofString "show" ++ Str.ofString " " := by decide +kernel
  have ei : (Str.ofString "if " : Str) = Str.ofString "if" ++ Str.ofString " " := by decide +kernel
  have fd : 32 ∉ tl (Str.ofString "drop") := by decide +kernel
  have fs : 32 ∉ tl (Str.ofString "show") := by decide +kernel
  have fi : 32 ∉ tl (Str.ofString "if") := by decide +kernel
  have t1 : tl (Str.ofString " ") = [32] := by decide +kernel
  have asc : ∀ a b c : Str, a ++ b ++ c = a ++ (b ++ c) := fun a b c => TL.ext_tl (by rw [tl_append, tl_append, tl_append, tl_append, List.append_assoc])
  cases r with
  | set n s =>
    have hn : isNm n = true := h.1
    have e : row0T (.set n s) = n ++ (Str.ofString " = " ++ sumT s) := asc _ _ _
    have er : tl (Str.ofString " = " ++ sumT s) = 32 :: ([61, 32] ++ tl (sumT s)) := by rw [tl_append, show tl (Str.ofString " = ") = [32, 61, 32] by decide +kernel]; rfl
    have f := nm_free hn (c := 32) (.inl (by decide))
    rw [e, ed, es, ei, sw_word _ _ _ _ f fd er, sw_word _ _ _ _ f fs er, sw_word _ _ _ _ f fi er]
    exact ⟨decide_eq_false (nm_no hn (by decide +kernel)), decide_eq_false (nm_no hn (by decide +kernel)), decide_eq_false (nm_no hn (by decide +kernel))⟩
  | drop n =>
    have e : row0T (.drop n) = Str.ofString "drop" ++ (Str.ofString " " ++ n) := by show Str.ofString "drop " ++ n = _; rw [ed, asc]
    have er : tl (Str.ofString " " ++ n) = 32 :: tl n := by rw [tl_append, t1]; rfl
    rw [e, ed, es, ei, sw_word _ _ _ _ fd fd er, sw_word _ _ _ _ fd fs er, sw_word _ _ _ _ fd fi er]
    exact ⟨decide_eq_true rfl, decide_eq_false (by decide +kernel), decide_eq_false (by decide +kernel)⟩
  | shw s =>
    have e : row0T (.shw s) = Str.ofString "show" ++ (Str.ofString " " ++ sumT s) := by show Str.ofString "show " ++ sumT s = _; rw [es, asc]
    have er : tl (Str.ofString " " ++ sumT s) = 32 :: tl (sumT s) := by rw [tl_append, t1]; rfl
    rw [e, ed, es, ei, sw_word _ _ _ _ fs fd er, sw_word _ _ _ _ fs fs er, sw_word _ _ _ _ fs fi er]
    exact ⟨decide_eq_false (by decide +kernel), decide_eq_true rfl, decide_eq_false (by decide +kernel)⟩
theorem len_app (x y : Str) : (x ++ y).length = x.length + y.length := by rw [len_tl, len_tl x, len_tl y, tl_append, List.length_append]
theorem row0T_len {r : Row0} (h : Row0Ok r) : (row0T r).length ≤ 100 := by
  cases r with
  | set n s =>
    have h1 := (isNm_and h.1).2.1
    have h2 := sumT_len h.2
    show (n ++ Str.ofString " = " ++ sumT s).length ≤ 100
    rw [len_app, len_app, show (Str.ofString " = ").length = 3 by decide +kernel]
    omega
  | drop n =>
    have h1 := (isNm_and h).2.1
    show (Str.ofString "drop " ++ n).length ≤ 100
    rw [len_app, show (Str.ofString "drop ").length = 5 by decide +kernel]
    omega
  | shw s =>
    have h2 := sumT_len h
    show (Str.ofString "show " ++ sumT s).length ≤ 100
    rw [len_app, show (Str.ofString "show ").length = 5 by decide +kernel]
    omega
theorem rowT_len {r : Row} (h : RowOk r) : (rowT r).length ≤ 200 := by
  cases r with
  | pl r => exact Nat.le_trans (row0T_len h) (by decide)
  | cond t r =>
    have h1 := sumT_len h.1
    have h2 := row0T_len h.2
    show (Str.ofString "if " ++ sumT t ++ Str.ofString ": " ++ row0T r).length ≤ 200
    rw [len_app, len_app, len_app, show (Str.ofString "if ").length = 3 by decide +kernel, show (Str.ofString ": ").length = 2 by decide +kernel]
    omega
theorem row0T_nl {r : Row0} (h : Row0Ok r) : 10 ∉ tl (row0T r) := by
  cases r with
  | set n s =>
    show 10 ∉ tl (n ++ Str.ofString " = " ++ sumT s)
    rw [tl_append, tl_append, List.mem_append, List.mem_append]
    rintro ((h1 | h1) | h1)
    · exact nm_free h.1 (.inl (by decide)) h1
    · revert h1; decide +kernel
    · exact words_signs h.2 (.inr (.inl rfl)) h1
  | drop n =>
    show 10 ∉ tl (Str.ofString "drop " ++ n)
    rw [tl_append, List.mem_append]
    rintro (h1 | h1)
    · revert h1; decide +kernel
    · exact nm_free h (.inl (by decide)) h1
  | shw s =>
    show 10 ∉ tl (Str.ofString "show " ++ sumT s)
    rw [tl_append, List.mem_append]
    rintro (h1 | h1)
    · revert h1; decide +kernel
    · exact words_signs h (.inr (.inl rfl)) h1
theorem rowT_nl {r : Row} (h : RowOk r) : 10 ∉ tl (rowT r) := by
  cases r with
  | pl r => exact row0T_nl h
  | cond t r =>
    show 10 ∉ tl (Str.ofString "if " ++ sumT t ++ Str.ofString ": " ++ row0T r)
    rw [tl_append, tl_append, tl_append, List.mem_append, List.mem_append, List.mem_append]
    rintro (((h1 | h1) | h1) | h1)
    · revert h1; decide +kernel
    · exact words_signs h.1 (.inr (.inl rfl)) h1
    · revert h1; decide +kernel
    · exact row0T_nl h.2 h1
structure RowsOk (rs : List Row) : Prop where
  ne : rs ≠ []
  n : rs.length ≤ 6
  ok : ∀ r ∈ rs, RowOk r
theorem spl_rowsT {rs : List Row} (h : RowsOk rs) : spl [10] 0 [] (tl (rowsT rs)) = (rs.map rowT).map tl := by
  unfold rowsT
  rw [tl_mkS]
  refine spl_join (s := 10) (S := []) (fun e => h.ne (List.map_eq_nil_iff.mp (List.map_eq_nil_iff.mp e))) fun p hp => ?_
  obtain ⟨w, hw, rfl⟩ := List.mem_map.mp hp
  obtain ⟨r, hr, rfl⟩ := List.mem_map.mp hw
  exact rowT_nl (h.ok r hr)
theorem rowsT_len {rs : List Row} (h : RowsOk rs) : (rowsT rs).length ≤ 2000 := by
  unfold rowsT
  rw [len_mkS]
  refine Nat.le_trans (len_joinL _ _) ?_
  rw [List.map_map]
  refine Nat.le_trans (sum_le (c := 201) fun x hx => ?_) ?_
  · obtain ⟨w, hw, rfl⟩ := List.mem_map.mp hx
    obtain ⟨r, hr, rfl⟩ := List.mem_map.mp hw
    have := rowT_len (h.ok r hr)
    rw [len_tl] at this
    show (tl (rowT r)).length + [10].length ≤ 201
    rw [List.length_singleton]
    omega
  · rw [List.length_map, List.length_map]
    have := h.n
    omega


set_option Elab.async false
set_option linter.all false
set_option maxRecDepth 100000
set_option maxHeartbeats 4000000
open PySem PySem.Spec PyProof.Rows L2
def kd_SIGNS : List (Str × Option Int) := [("+", some (1)), ("-", some (-1)), ("*", none), ("//", none)]
/-- names:  -/
def den_Lnames : List AV → M AV := dDef 0 0 ((dRt (bind1 (dCons (dC (.str "a")) (dCons (dC (.str "b")) (dCons (dC (.str "c")) (dCons (dC (.str "xy")) dNil)))) aLst)))
/-- names: 0 _law_bag_here, 1 _law_many, 2 _law_digit -/
def den_Ltake : List AV → M AV := dDef 2 3 ((dSeq (dIfS (bind1 (bind2 (bind2 (dV 0) (dC (.int 0)) aIx) (dC (.int 0)) aGt) asB) (dSeq (dSet 2 (bind2 (bind2 (dV 0) (dC (.int 0)) aIx) (dV 1) aMod))
  (dSeq (dPut (bind2 (bind2 (dV 0) (dC (.int 0)) aIx) (dV 1) aFdiv) (dV 0) (dC (.int 0)))
  (dRt (dV 2)))) dNx)
  (dSeq (dPut (bind2 (bind2 (bind2 (bind2 (dV 0) (dC (.int 1)) aIx) (dC (.int 69621)) aMul) (dC (.int 1299709)) aAdd) (dC (.int 2147483647)) aMod) (dV 0) (dC (.int 1)))
  (dRt (bind2 (bind2 (bind2 (bind2 (bind2 (dV 0) (dC (.int 1)) aIx) (dC (.int 3)) aPow) (dC (.int 2147483629)) aMod) (dC (.int 32)) aFdiv) (dV 1) aMod)))))
/-- names: 0 _law_bag_here, 1 _law_found, 2 _law_name, 3 _law_x -/
def den_Lroom : List AV → M AV := dDef 1 4 ((dSeq (dSet 1 dDnew)
  (dSeq (dFor (bind1 (fun _ S => den_Lnames [] S) aWalk) (gNm 2)
  (dIfS (bind1 (bind2 (bind1 (dCons (dV 0) (dCons (dC (.int 3)) dNil)) den_Ltake) (dC (.int 0)) aGt) asB) (dSeq (dSet 3 (bind2 (bind1 (dCons (bind1 (dCons (dV 0) (dCons (dC (.int 12)) dNil)) den_Ltake) (dCons (bind1 (dCons (dV 0) (dCons (bind2 (dC (.int 10)) (dC (.int 9)) aPow) dNil)) den_Ltake) (dCons (dC (.int 0)) (dCons (bind2 (dC (.int 10)) (dC (.int 9)) aPow) dNil)))) aLst) (bind2 (bind1 (dCons (dC (.int 0)) (dCons (dC (.int 0)) (dCons (dC (.int 0)) (dCons (dC (.int 0)) (dCons (dC (.int 1)) (dCons (dC (.int 2)) (dCons (dC (.int 3)) dNil))))))) aLst) (bind1 (dCons (dV 0) (dCons (dC (.int 7)) dNil)) den_Ltake) aIx) aIx))
  (dPut (bind2 (dV 3) (bind2 (bind1 (dCons (dC (.int 1)) (dCons (dC (.int 1)) (dCons (bind1 (dC (.int 1)) aNeg) dNil))) aLst) (bind1 (dCons (dV 0) (dCons (dC (.int 3)) dNil)) den_Ltake) aIx) aMul) (dV 1) (dV 2))) dNx))
  (dRt (dV 1)))))
/-- names: 0 _law_bag_here -/
def den_Lfew_rooms : List AV → M AV := dDef 1 1 ((dRt (bind1 (dCons (bind1 (dCons (dV 0) dNil) den_Lroom) (dCons (bind1 (dCons (dV 0) dNil) den_Lroom) (dCons dDnew dNil))) aLst)))
/-- names: 0 _law_some, 1 _law_found, 2 _law_side, 3 _law_first, 4 _law_pairs, 5 _law_part, 6 _law_word, 7 _law_atom_here -/
def den_Lsum_text : List AV → M AV := dDef 1 8 ((dSeq (dSet 1 (dC (.str "")))
  (dSeq (dFor (bind1 (dV 0) aWalk) (gTp 3 (gsCons (gNm 2) (gsCons (gNm 3) (gsCons (gNm 4) gsNil))))
  (dSeq (dSet 5 (dM1 (dC (.str " ")) (bind2 (bind1 (dCons (bind1 (dCons (dV 3) dNil) aStr) dNil) aLst) (dLc (bind1 (dV 4) aWalk) (.tp [6, 7]) dYes (bind2 (bind2 (dV 6) (dC (.str " ")) aAdd) (bind1 (dCons (dV 7) dNil) aStr) aAdd)) aAdd) aJoin))
  (dIfS (bind1 (bind2 (dV 1) (dC (.str "")) aEq) asB) (dSet 1 (dIfE (bind1 (bind2 (dV 2) (dC (.int 0)) aLt) asB) (bind2 (dC (.str "- ")) (dV 5) aAdd) (dV 5))) (dSet 1 (bind2 (bind2 (dV 1) (bind2 (bind1 (dCons (dC (.str " + ")) (dCons (dC (.str " - ")) dNil)) aLst) (bind1 (dCons (bind2 (dV 2) (dC (.int 0)) aLt) dNil) aInt) aIx) aAdd) (dV 5) aAdd)))))
  (dRt (dV 1)))))
/-- names: 0 _law_row -/
def rb_Lrow_text (rec : List AV → M AV) : List AV → M AV := dDef 1 1 ((dSeq (dIfS (bind1 (bind2 (bind2 (dV 0) (dC (.int 0)) aIx) (dC (.str "set")) aEq) asB) (dRt (bind2 (bind2 (bind2 (dV 0) (dC (.int 1)) aIx) (dC (.str " = ")) aAdd) (bind1 (dCons (bind2 (dV 0) (dC (.int 2)) aIx) dNil) den_Lsum_text) aAdd)) dNx)
  (dSeq (dIfS (bind1 (bind2 (bind2 (dV 0) (dC (.int 0)) aIx) (dC (.str "if")) aEq) asB) (dRt (bind2 (bind2 (bind2 (dC (.str "if ")) (bind1 (dCons (bind2 (dV 0) (dC (.int 1)) aIx) dNil) den_Lsum_text) aAdd) (dC (.str ": ")) aAdd) (bind1 (dCons (bind2 (dV 0) (dC (.int 2)) aIx) dNil) rec) aAdd)) dNx)
  (dRt (bind2 (bind2 (bind2 (dV 0) (dC (.int 0)) aIx) (dC (.str " ")) aAdd) (dIfE (bind1 (bind2 (bind2 (dV 0) (dC (.int 0)) aIx) (dC (.str "drop")) aEq) asB) (bind2 (dV 0) (dC (.int 1)) aIx) (bind1 (dCons (bind2 (dV 0) (dC (.int 1)) aIx) dNil) den_Lsum_text)) aAdd)))))
def den_Lrow_text : List AV → M AV := dRec 2 rb_Lrow_text
/-- names: 0 _law_rows_here, 1 _law_row -/
def den_Ltext : List AV → M AV := dDef 1 2 ((dRt (dM1 (dC (.str "\n")) (dLc (bind1 (dV 0) aWalk) (.nm 1) dYes (bind1 (dCons (dV 1) dNil) den_Lrow_text)) aJoin)))
/-- names: 0 _law_bag_here -/
def den_Latom : List AV → M AV := dDef 1 1 ((dSeq (dIfS (bind1 (bind2 (bind1 (dCons (dV 0) (dCons (dC (.int 3)) dNil)) den_Ltake) (dC (.int 0)) aGt) asB) (dRt (bind2 (fun _ S => den_Lnames [] S) (bind1 (dCons (dV 0) (dCons (dC (.int 4)) dNil)) den_Ltake) aIx)) dNx)
  (dRt (bind2 (bind1 (dCons (dC (.int 0)) (dCons (dC (.int 1)) (dCons (dC (.int 2)) (dCons (dC (.int 3)) (dCons (dC (.int 7)) (dCons (dC (.int 10)) (dCons (dC (.int 999)) (dCons (bind1 (dCons (dV 0) (dCons (dC (.int 1000)) dNil)) den_Ltake) dNil)))))))) aLst) (bind1 (dCons (dV 0) (dCons (dC (.int 8)) dNil)) den_Ltake) aIx))))
/-- names: 0 _law_bag_here, 1 _law_high, 2 _law_found, 3 _law_turn, 4 _law_many, 5 _law_pairs, 6 _law_more -/
def den_Lsum : List AV → M AV := dDef 2 7 ((dSeq (dSet 2 (bind1 dNil aLst))
  (dSeq (dFor (bind1 (dCons (bind2 (dC (.int 1)) (bind1 (dCons (dV 0) (dCons (dV 1) dNil)) den_Ltake) aAdd) dNil) aRng1) (gNm 3)
  (dSeq (dSet 4 (bind2 (bind1 (dCons (dC (.int 0)) (dCons (dC (.int 0)) (dCons (dC (.int 0)) (dCons (dC (.int 1)) (dCons (dC (.int 2)) dNil))))) aLst) (bind1 (dCons (dV 0) (dCons (dC (.int 5)) dNil)) den_Ltake) aIx))
  (dSeq (dSet 5 (dLc (bind1 (dCons (dV 4) dNil) aRng1) (.nm 6) dYes (bind1 (dCons (bind2 (bind1 (dCons (dC (.str "*")) (dCons (dC (.str "*")) (dCons (dC (.str "//")) dNil))) aLst) (bind1 (dCons (dV 0) (dCons (dC (.int 3)) dNil)) den_Ltake) aIx) (dCons (bind1 (dCons (dV 0) dNil) den_Latom) dNil)) aTup)))
  (dEx (dML (dV 2) (dCons (bind1 (dCons (bind2 (bind1 (dCons (dC (.int 1)) (dCons (dC (.int 1)) (dCons (bind1 (dC (.int 1)) aNeg) dNil))) aLst) (bind1 (dCons (dV 0) (dCons (dC (.int 3)) dNil)) den_Ltake) aIx) (dCons (bind1 (dCons (dV 0) dNil) den_Latom) (dCons (bind1 (dCons (dV 5) dNil) aTuple) dNil))) aTup) dNil) aAppend)))))
  (dRt (bind1 (dCons (bind3 (dV 2) dNo (bind1 (dC (.int 2)) asI) aSl) dNil) aTuple)))))
/-- names: 0 _law_bag_here, 1 _law_kind, 2 _law_name -/
def den_Lplain_row : List AV → M AV := dDef 1 3 ((dSeq (dSet 1 (bind1 (dCons (dV 0) (dCons (dC (.int 9)) dNil)) den_Ltake))
  (dSeq (dSet 2 (bind2 (fun _ S => den_Lnames [] S) (bind1 (dCons (dV 0) (dCons (dC (.int 4)) dNil)) den_Ltake) aIx))
  (dSeq (dIfS (bind1 (bind2 (dV 1) (dC (.int 0)) aEq) asB) (dRt (bind1 (dCons (dC (.str "drop")) (dCons (dV 2) dNil)) aTup)) dNx)
  (dSeq (dIfS (bind1 (bind2 (dV 1) (dC (.int 4)) aLt) asB) (dRt (bind1 (dCons (dC (.str "set")) (dCons (dV 2) (dCons (bind1 (dCons (bind1 (dCons (dC (.int 1)) (dCons (bind1 (dCons (dV 0) (dCons (dC (.int 12)) dNil)) den_Ltake) (dCons (bind1 dNil aTup) dNil))) aTup) dNil) aTup) dNil))) aTup)) dNx)
  (dRt (bind2 (bind2 (bind1 (dCons (bind1 (dCons (dC (.str "set")) (dCons (dV 2) dNil)) aTup) (dCons (bind1 (dCons (dC (.str "show")) dNil) aTup) dNil)) aLst) (bind1 (dCons (bind2 (dV 1) (dC (.int 5)) aGt) dNil) aInt) aIx) (bind1 (dCons (bind1 (dCons (dV 0) (dCons (dC (.int 2)) dNil)) den_Lsum) dNil) aTup) aAdd)))))))
/-- names: 0 _law_bag_here, 1 _law_high, 2 _law_found, 3 _law_turn, 4 _law_row -/
def den_Lrows : List AV → M AV := dDef 2 5 ((dSeq (dSet 2 (bind1 dNil aLst))
  (dSeq (dFor (bind1 (dCons (bind2 (dC (.int 1)) (bind1 (dCons (dV 0) (dCons (dV 1) dNil)) den_Ltake) aAdd) dNil) aRng1) (gNm 3)
  (dSeq (dSet 4 (bind1 (dCons (dV 0) dNil) den_Lplain_row))
  (dSeq (dIfS (bind1 (bind2 (bind1 (dCons (dV 0) (dCons (dC (.int 6)) dNil)) den_Ltake) (dC (.int 0)) aEq) asB) (dSet 4 (bind1 (dCons (dC (.str "if")) (dCons (bind1 (dCons (dV 0) (dCons (dC (.int 1)) dNil)) den_Lsum) (dCons (dV 4) dNil))) aTup)) dNx)
  (dEx (dML (dV 2) (dCons (dV 4) dNil) aAppend)))))
  (dRt (bind1 (dCons (dV 2) dNil) aTuple)))))
/-- names: 0 _law_script, 1 _law_at, 2 _law_cell, 3 _law_great, 4 _law_primes, 5 _law_mixed -/
def den_Lbag : List AV → M AV := dDef 2 6 ((dSeq (dSet 2 (dC (.int 0)))
  (dSeq (dIfS (bind1 (bind2 (dV 1) (bind1 (dCons (dV 0) dNil) aLen) aLt) asB) (dSet 2 (bind2 (dV 0) (dV 1) aIx)) dNx)
  (dSeq (dSet 3 (dC (.int 0)))
  (dSeq (dIfS (bind1 (bind2 (bind1 (dCons (dV 2) dNil) aAbs) (bind2 (dC (.int 10)) (dC (.int 18)) aPow) aGe) asB) (dSet 3 (bind1 (dCons (dV 2) dNil) aAbs)) dNx)
  (dSeq (dSet 4 (bind1 (dCons (dC (.int 2147483647)) (dCons (dC (.int 2147483629)) (dCons (dC (.int 2147483587)) (dCons (dC (.int 2147483579)) (dCons (dC (.int 2147483563)) (dCons (dC (.int 2147483549)) (dCons (dC (.int 2147483543)) (dCons (dC (.int 2147483497)) dNil)))))))) aLst))
  (dSeq (dSet 5 (bind2 (bind2 (bind2 (bind2 (bind2 (dV 2) (dC (.int 2147483647)) aMod) (dC (.int 48611)) aMul) (bind2 (bind2 (dC (.int 90007)) (dV 1) aMul) (dV 1) aMul) aAdd) (bind2 (dC (.int 6133)) (dV 1) aMul) aAdd) (dC (.int 4099)) aAdd))
  (dRt (bind1 (dCons (dV 3) (dCons (bind2 (dV 5) (bind2 (dV 4) (bind2 (dV 1) (dC (.int 8)) aMod) aIx) aMod) dNil)) aLst)))))))))
/-- names: 0 self, 1 name, 2 value -/
def den_Run_change : List AV → M AV := dDef 3 3 ((dSeq (dPut (dC (.bl true)) (dFld ["Run"] "changed" (dV 0)) (dV 1))
  (dIfS (bind1 (bind2 (dV 2) (dC .non) aIsN) asB) (dEx (dPop2 (dFld ["Run", "State"] "standing" (dV 0)) (dV 1) (dC .non))) (dPut (dV 2) (dFld ["Run", "State"] "standing" (dV 0)) (dV 1)))))
/-- names: 0 first, 1 pairs, 2 room, 3 names, 4 part, 5 mark, 6 atom, 7 number -/
def den_product_in : List AV → M AV := dDef 4 8 ((dSeq (dSet 4 (dC (.int 1)))
  (dSeq (dFor (bind1 (bind1 (dCons (bind1 (dCons (dC (.str "*")) (dCons (dV 0) dNil)) aTup) (dStar (dV 1) dNil)) aTup) aWalk) (gTp 2 (gsCons (gNm 5) (gsCons (gNm 6) gsNil)))
  (dSeq (dSet 7 (dV 6))
  (dSeq (dIfS (bind1 (bind1 (dCons (dV 6) (dCons (dC (.ty "str")) dNil)) aIsi) aTru) (dSeq (dEx (dML (dV 3) (dCons (dV 6) dNil) aAppend))
  (dSeq (dIfS (bind1 (bind2 (dV 6) (dV 2) aNotIn) asB) (dRt (bind1 (dCons (dC .non) (dCons (bind1 (dCons (dC (.str "lack")) (dCons (dV 6) dNil)) aTup) dNil)) aTup)) dNx)
  (dSet 7 (bind2 (dV 2) (dV 6) aIx)))) dNx)
  (dSeq (dIfS (bind1 (bind2 (dV 5) (dC (.str "*")) aEq) asB) (dSet 4 (bind2 (dV 4) (dV 7) aMul)) (dIfS (bind1 (bind2 (dV 7) (dC (.int 0)) aEq) asB) (dRt (bind1 (dCons (dC .non) (dCons (bind1 (dCons (dC (.str "nought")) dNil) aTup) dNil)) aTup)) (dSet 4 (bind2 (dV 4) (dV 7) aFdiv))))
  (dIfS (dNotB (bind1 (dChain aLe aLe (bind1 (dC (.int 1000000000)) aNeg) (dV 4) (dC (.int 1000000000))) asB)) (dRt (bind1 (dCons (dC .non) (dCons (bind1 (dCons (dC (.str "great")) dNil) aTup) dNil)) aTup)) dNx)))))
  (dRt (bind1 (dCons (dV 4) (dCons (dC .non) dNil)) aTup)))))
/-- names: 0 some, 1 room, 2 names, 3 total, 4 sign, 5 first, 6 pairs, 7 part, 8 fault -/
def den_worked_out : List AV → M AV := dDef 2 9 ((dSeq (dSet 2 (bind1 dNil aLst))
  (dSeq (dSet 3 (dC (.int 0)))
  (dSeq (dFor (bind1 (dV 0) aWalk) (gTp 3 (gsCons (gNm 4) (gsCons (gNm 5) (gsCons (gNm 6) gsNil))))
  (dSeq (dAsg (bind1 (dCons (dV 5) (dCons (dV 6) (dCons (dV 1) (dCons (dV 2) dNil)))) den_product_in) (gTp 2 (gsCons (gNm 7) (gsCons (gNm 8) gsNil))))
  (dSeq (dIfS (bind1 (bind2 (dV 8) (dC .non) aNotN) asB) (dRt (bind1 (dCons (dC .non) (dCons (dV 8) (dCons (dV 2) dNil))) aTup)) dNx)
  (dSeq (dSet 3 (bind2 (dV 3) (bind2 (dV 4) (dV 7) aMul) aAdd))
  (dIfS (dNotB (bind1 (dChain aLe aLe (bind1 (dC (.int 1000000000)) aNeg) (dV 3) (dC (.int 1000000000))) asB)) (dRt (bind1 (dCons (dC .non) (dCons (bind1 (dCons (dC (.str "great")) dNil) aTup) (dCons (dV 2) dNil))) aTup)) dNx)))))
  (dRt (bind1 (dCons (dV 3) (dCons (dC .non) (dCons (dV 2) dNil))) aTup))))))
/-- names: 0 self, 1 some, 2 value, 3 fault, 4 names, 5 name -/
def den_Run_work_out : List AV → M AV := dDef 2 6 ((dSeq (dAsg (bind1 (dCons (dV 1) (dCons (dFld ["Run", "State"] "standing" (dV 0)) dNil)) den_worked_out) (gTp 3 (gsCons (gNm 2) (gsCons (gNm 3) (gsCons (gNm 4) gsNil)))))
  (dSeq (dFor (bind1 (dV 4) aWalk) (gNm 5)
  (dIfS (bind1 (bind2 (dV 5) (dFld ["Run"] "changed" (dV 0)) aNotIn) asB) (dPut (dGet1 (dFld ["Run", "State"] "standing" (dV 0)) (dV 5)) (dFld ["Run"] "first_reads" (dV 0)) (dV 5)) dNx))
  (dRt (bind1 (dCons (dV 2) (dCons (dV 3) dNil)) aTup)))))
/-- names: 0 self, 1 row, 2 value, 3 fault -/
def rb_Run_follow (rec : List AV → M AV) : List AV → M AV := dDef 2 4 ((dSeq (dIfS (bind1 (bind2 (bind2 (dV 1) (dC (.int 0)) aIx) (dC (.str "drop")) aEq) asB) (dSeq (dEx (dMeth "Run" "change" (dV 0) (dCons (bind2 (dV 1) (dC (.int 1)) aIx) (dCons (dC .non) dNil)) den_Run_change))
  (dRt (dC .non))) dNx)
  (dSeq (dAsg (dMeth "Run" "work_out" (dV 0) (dCons (dIfE (bind1 (bind2 (bind2 (dV 1) (dC (.int 0)) aIx) (dC (.str "set")) aEq) asB) (bind2 (dV 1) (dC (.int 2)) aIx) (bind2 (dV 1) (dC (.int 1)) aIx)) dNil) den_Run_work_out) (gTp 2 (gsCons (gNm 2) (gsCons (gNm 3) gsNil))))
  (dSeq (dIfS (bind1 (bind2 (dV 3) (dC .non) aNotN) asB) (dRt (dV 3)) dNx)
  (dSeq (dIfS (bind1 (bind2 (bind2 (dV 1) (dC (.int 0)) aIx) (dC (.str "set")) aEq) asB) (dEx (dMeth "Run" "change" (dV 0) (dCons (bind2 (dV 1) (dC (.int 1)) aIx) (dCons (dV 2) dNil)) den_Run_change)) (dIfS (bind1 (bind2 (bind2 (dV 1) (dC (.int 0)) aIx) (dC (.str "show")) aEq) asB) (dEx (dML (dFld ["Run"] "shown" (dV 0)) (dCons (dV 2) dNil) aAppend)) (dIfS (bind1 (bind2 (dV 2) (dC (.int 0)) aNe) asB) (dRt (dMeth "Run" "follow" (dV 0) (dCons (bind2 (dV 1) (dC (.int 2)) aIx) dNil) rec)) dNx)))
  (dRt (dC .non)))))))
def den_Run_follow : List AV → M AV := dRec 2 rb_Run_follow
/-- names: 0 self, 1 room -/
def den_Run___init__ : List AV → M AV := dDef 2 2 ((dSeq (dFldPut ["Run", "State"] "standing" (dV 0) (bind1 (dCons (dV 1) dNil) aDict))
  (dSeq (dFldPut ["Run"] "shown" (dV 0) (bind1 dNil aLst))
  (dSeq (dFldPut ["Run"] "first_reads" (dV 0) dDnew)
  (dFldPut ["Run"] "changed" (dV 0) dDnew)))))
/-- names: 0 cell, 1 room, 2 run, 3 fault, 4 row, 5 outcome, 6 reads, 7 sets, 8 name -/
def den_run_in : List AV → M AV := dDef 2 9 ((dSeq (dSet 2 (dMake "Run" (dCons (dV 1) dNil) den_Run___init__))
  (dSeq (dSet 3 (dC .non))
  (dSeq (dFor (bind1 (dFld ["Cell"] "rows" (dV 0)) aWalk) (gNm 4)
  (dSeq (dSet 3 (dMeth "Run" "follow" (dV 2) (dCons (dV 4) dNil) den_Run_follow))
  (dIfS (bind1 (bind2 (dV 3) (dC .non) aNotN) asB) dBk dNx)))
  (dSeq (dSet 5 (bind1 (dCons (bind1 (dCons (dFld ["Run"] "shown" (dV 2)) dNil) aTuple) (dCons (dV 3) dNil)) aTup))
  (dSeq (dSet 6 (bind1 (dCons (dLit (dFld ["Run"] "first_reads" (dV 2))) dNil) aTuple))
  (dSeq (dSet 7 (bind1 (dCons (dLc (bind1 (bind1 (dCons (dFld ["Run"] "changed" (dV 2)) dNil) aSorted) aWalk) (.nm 8) dYes (bind1 (dCons (dV 8) (dCons (dGet1 (dFld ["Run", "State"] "standing" (dV 2)) (dV 8)) dNil)) aTup)) dNil) aTuple))
  (dRt (bind1 (dCons (dV 5) (dCons (dV 6) (dCons (dV 7) (dCons (dFld ["Run", "State"] "standing" (dV 2)) dNil)))) aTup)))))))))
/-- names: 0 thing, 1 sign -/
def den_is_name : List AV → M AV := dDef 1 2 ((dSeq (dIfS (dOrB (dNotB (bind1 (bind1 (dCons (dV 0) (dCons (dC (.ty "str")) dNil)) aIsi) aTru)) (dNotB (bind1 (dChain aLe aLe (dC (.int 1)) (bind1 (dCons (dV 0) dNil) aLen) (dC (.int 4))) asB))) (dRt (dC (.bl false))) dNx)
  (dRt (dAnd (bind2 (dV 0) (dC (.tup ((["show", "drop", "if"] : List Str).map AV.str))) aNotIn) (bind1 (dCons (dLc (bind1 (dV 0) aWalk) (.nm 1) dYes (bind2 (dV 1) (dC (.str "abcdefghijklmnopqrstuvwxyz")) aIn)) dNil) aAll)))))
/-- names: 0 text, 1 words, 2 at -/
def den_marked_words : List AV → M AV := dDef 1 3 ((dSeq (dSet 1 (dM1 (dV 0) (dC (.str " ")) aSplit))
  (dSeq (dIfS (bind1 (bind2 (bind2 (dV 1) (dC (.int 0)) aIx) (dC (.str "-")) aNe) asB) (dSet 1 (bind2 (bind1 (dCons (dC (.str "+")) dNil) aLst) (dV 1) aAdd)) dNx)
  (dSeq (dIfS (dOrB (bind1 (bind2 (bind1 (dCons (dV 1) dNil) aLen) (bind2 (dC (.int 2)) (dC (.int 8)) aMul) aGt) asB) (bind1 (bind2 (bind2 (bind1 (dCons (dV 1) dNil) aLen) (dC (.int 2)) aMod) (dC (.int 0)) aNe) asB)) dBad dNx)
  (dRt (dLc (bind1 (dCons (dC (.int 0)) (dCons (bind1 (dCons (dV 1) dNil) aLen) (dCons (dC (.int 2)) dNil))) aRng3) (.nm 2) dYes (bind1 (dCons (bind2 (dV 1) (dV 2) aIx) (dCons (bind2 (dV 1) (bind2 (dV 2) (dC (.int 1)) aAdd) aIx) dNil)) aTup)))))))
/-- names: 0 word, 1 most, 2 sign -/
def den_is_number_word : List AV → M AV := dDef 2 3 ((dSeq (dIfS (dOrB (dNotB (bind1 (dChain aLe aLe (dC (.int 1)) (bind1 (dCons (dV 0) dNil) aLen) (dV 1)) asB)) (dNotB (bind1 (bind1 (dCons (dLc (bind1 (dV 0) aWalk) (.nm 2) dYes (bind2 (dV 2) (dC (.str "0123456789")) aIn)) dNil) aAll) aTru))) (dRt (dC (.bl false))) dNx)
  (dRt (dOr (bind2 (dV 0) (dC (.str "0")) aEq) (bind2 (bind2 (dV 0) (dC (.int 0)) aIx) (dC (.str "0")) aNe)))))
/-- names: 0 word -/
def den_read_atom : List AV → M AV := dDef 1 1 ((dSeq (dIfS (bind1 (bind1 (dCons (dV 0) dNil) den_is_name) aTru) (dRt (dV 0)) dNx)
  (dSeq (dIfS (bind1 (bind1 (dCons (dV 0) dNil) (plus den_is_number_word [.int 3])) aTru) (dRt (bind1 (dCons (dV 0) dNil) aInt)) dNx)
  dBad)))
/-- names: 0 text, 1 products, 2 mark, 3 word, 4 atom, 5 sign, 6 pairs -/
def den_read_sum : List AV → M AV := dDef 1 7 ((dSeq (dIfS (dNotB (bind1 (bind1 (dCons (dV 0) (dCons (dC (.ty "str")) dNil)) aIsi) aTru)) dBad dNx)
  (dSeq (dSet 1 (bind1 dNil aLst))
  (dSeq (dFor (bind1 (bind1 (dCons (dV 0) dNil) den_marked_words) aWalk) (gTp 2 (gsCons (gNm 2) (gsCons (gNm 3) gsNil)))
  (dSeq (dSet 4 (bind1 (dCons (dV 3) dNil) den_read_atom))
  (dIfS (bind1 (bind2 (dV 2) (dC (.kd kd_SIGNS)) aIn) asB) (dEx (dML (dV 1) (dCons (bind1 (dCons (bind2 (dC (.kd kd_SIGNS)) (dV 2) aIx) (dCons (dV 4) (dCons (bind1 dNil aLst) dNil))) aTup) dNil) aAppend)) (dIfS (bind1 (bind2 (dV 2) (dC (.tup ((["*", "//"] : List Str).map AV.str))) aIn) asB) (dEx (dML (bind2 (bind2 (dV 1) (bind1 (dC (.int 1)) aNeg) aIx) (dC (.int 2)) aIx) (dCons (bind1 (dCons (dV 2) (dCons (dV 4) dNil)) aTup) dNil) aAppend)) dBad))))
  (dRt (bind1 (dCons (dLc (bind1 (dV 1) aWalk) (.tp [5, 4, 6]) dYes (bind1 (dCons (dV 5) (dCons (dV 4) (dCons (bind1 (dCons (dV 6) dNil) aTuple) dNil))) aTup)) dNil) aTuple))))))
/-- names: 0 text -/
def den_sum_or_none : List AV → M AV := dDef 1 1 ((dThru (dRt (bind1 (dCons (dV 0) dNil) den_read_sum))))
/-- names: 0 line, 1 name, 2 shown, 3 _, 4 rest, 5 some -/
def den_read_plain_row : List AV → M AV := dDef 1 6 ((dSeq (dIfS (bind1 (dM1 (dV 0) (dC (.str "drop ")) aStarts) aTru) (dSeq (dSet 1 (dM1 (dV 0) (dC (.str "drop ")) aRmPre))
  (dRt (dIfE (bind1 (bind1 (dCons (dV 1) dNil) den_is_name) aTru) (bind1 (dCons (dC (.str "drop")) (dCons (dV 1) dNil)) aTup) (dC .non)))) dNx)
  (dSeq (dIfS (bind1 (dM1 (dV 0) (dC (.str "show ")) aStarts) aTru) (dSeq (dSet 2 (bind1 (dCons (dM1 (dV 0) (dC (.str "show ")) aRmPre) dNil) den_sum_or_none))
  (dRt (dIfE (bind1 (bind2 (dV 2) (dC .non) aIsN) asB) (dC .non) (bind1 (dCons (dC (.str "show")) (dCons (dV 2) dNil)) aTup)))) dNx)
  (dSeq (dAsg (dM1 (dV 0) (dC (.str " = ")) aPart) (gTp 3 (gsCons (gNm 1) (gsCons (gNm 3) (gsCons (gNm 4) gsNil)))))
  (dSeq (dSet 5 (bind1 (dCons (dV 4) dNil) den_sum_or_none))
  (dRt (dIfE (dAndB (bind1 (bind1 (dCons (dV 1) dNil) den_is_name) aTru) (bind1 (bind2 (dV 5) (dC .non) aNotN) asB)) (bind1 (dCons (dC (.str "set")) (dCons (dV 1) (dCons (dV 5) dNil))) aTup) (dC .non))))))))
/-- names: 0 line, 1 test_text, 2 _, 3 rest, 4 test, 5 row -/
def den_read_row : List AV → M AV := dDef 1 6 ((dSeq (dIfS (dNotB (bind1 (dM1 (dV 0) (dC (.str "if ")) aStarts) aTru)) (dRt (bind1 (dCons (dV 0) dNil) den_read_plain_row)) dNx)
  (dSeq (dAsg (dM1 (dM1 (dV 0) (dC (.str "if ")) aRmPre) (dC (.str ": ")) aPart) (gTp 3 (gsCons (gNm 1) (gsCons (gNm 2) (gsCons (gNm 3) gsNil)))))
  (dSeq (dSet 4 (bind1 (dCons (dV 1) dNil) den_sum_or_none))
  (dSeq (dSet 5 (bind1 (dCons (dV 3) dNil) den_read_plain_row))
  (dSeq (dIfS (dOrB (bind1 (bind2 (dV 4) (dC .non) aIsN) asB) (bind1 (bind2 (dV 5) (dC .non) aIsN) asB)) (dRt (dC .non)) dNx)
  (dRt (bind1 (dCons (dC (.str "if")) (dCons (dV 4) (dCons (dV 5) dNil))) aTup))))))))
/-- names: 0 text, 1 rows, 2 at, 3 line, 4 row -/
def den_read_rows : List AV → M AV := dDef 1 5 ((dSeq (dIfS (dNotB (bind1 (bind1 (dCons (dV 0) (dCons (dC (.ty "str")) dNil)) aIsi) aTru)) dBad dNx)
  (dSeq (dSet 1 (bind1 dNil aLst))
  (dSeq (dFor (bind1 (dCons (dM1 (dV 0) (dC (.str "\n")) aSplit) dNil) aEnum) (gTp 2 (gsCons (gNm 2) (gsCons (gNm 3) gsNil)))
  (dSeq (dSet 4 (dIfE (bind1 (bind2 (dV 2) (dC (.int 6)) aLt) asB) (bind1 (dCons (dV 3) dNil) den_read_row) (dC .non)))
  (dSeq (dIfS (bind1 (bind2 (dV 4) (dC .non) aIsN) asB) dBad dNx)
  (dEx (dML (dV 1) (dCons (dV 4) dNil) aAppend)))))
  (dRt (bind1 (dCons (dV 1) dNil) aTuple))))))
/-- names: 0 self, 1 text -/
def den_Cell___init__ : List AV → M AV := dDef 2 2 ((dSeq (dFldPut ["Cell"] "text" (dV 0) (dV 1))
  (dFldPut ["Cell"] "rows" (dV 0) (bind1 (dCons (dV 1) dNil) den_read_rows))))

set_option Elab.async false
set_option linter.all false
set_option maxRecDepth 100000
set_option maxHeartbeats 4000000
/-! Q1: what is drawn. -/
open PySem PySem.Spec PyProof.Rows L2 TL
structure BagOk (g m : Int) : Prop where
  g0 : 0 ≤ g
  m0 : 0 ≤ m
  m1 : m < 2147483648
def Bag (S : Sto) (b : Nat) : Prop := ∃ g m, S[b]? = some (.lst [.int g, .int m]) ∧ BagOk g m
theorem Bag.lt {S : Sto} {b : Nat} (h : Bag S b) : b < S.length := by
  obtain ⟨g, m, h, _⟩ := h
  exact lt_of h
theorem Bag.on {S S' : Sto} {b : Nat} {W : List Nat} (h : Bag S b) (f : Fr W S S') (hn : b ∉ W) : Bag S' b := by
  obtain ⟨g, m, h, ok⟩ := h
  exact ⟨g, m, f.get h hn, ok⟩
theorem Bag.app {S : Sto} {b : Nat} {o : AO} (h : Bag S b) : Bag (S ++ [o]) b := h.on (Fr.app (W := []) o) (by simp)
theorem nat_of {x n : Int} (h0 : 0 ≤ x) (h1 : x < n) : ∃ d : Nat, x = d ∧ (d : Int) < n := ⟨x.toNat, by omega, by omega⟩
theorem take_ok {S : Sto} {b : Nat} {n : Int} (hb : Bag S b) (n0 : 0 < n) (n1 : n < 1073741824) : Ok (den_Ltake [.ref b, .int n] S) fun v S' => ∃ d : Nat, v = .int d ∧ (d : Int) < n ∧ Fr [b] S S' ∧ Bag S' b := by
  obtain ⟨g, m, hb, g0, m0, m1⟩ := hb
  have hl := lt_of hb
  (unfold den_Ltake; refine def_ok rfl ?_)
  have hn : CDivB g n := ⟨by omega, by omega⟩
  have hm : n ≠ 0 := by omega
  simp_arith [Ok_ixL hb atI_0, Ok_ixL hb atI_1]
  split
  · rename_i hg
    simp_arith [Ok_mod hm, Ok_ixL hb atI_0, Ok_fdiv hn]
    rw [putS_lst (k := 0) hb rfl]
    have r0 := Int.fmod_nonneg_of_pos g n0
    have r1 := Int.fmod_lt_of_pos g n0
    obtain ⟨d, e, hd⟩ := nat_of r0 r1
    refine ⟨d, by rw [e], hd, Fr.set _ _, _, m, set_same hl, ?_, m0, m1⟩
    rw [Int.fdiv_eq_ediv_of_nonneg g (by omega)]
    exact Int.ediv_nonneg g0 (by omega)
  · have h1 : CMulB m 69621 := .inr (by decide)
    simp_arith [Ok_mul h1, Ok_mod (show (2147483647 : Int) ≠ 0 by decide)]
    rw [putS_lst (k := 1) hb rfl]
    have y0 := Int.fmod_nonneg_of_pos (m * 69621 + 1299709) (b := 2147483647) (by decide)
    have y1 := Int.fmod_lt_of_pos (m * 69621 + 1299709) (b := 2147483647) (by decide)
    generalize (m * 69621 + 1299709).fmod 2147483647 = z at y0 y1 ⊢
    have hp : CPowB z 3 := ⟨by decide, by decide, by omega⟩
    have hd : ∀ i, CDivB i 32 := fun _ => ⟨by decide, by decide⟩
    simp_arith [Ok_ixL (set_same hl) (atI_1 (r := []) (a := AV.int g) (b := AV.int z)), Ok_pow hp, Ok_mod (show (2147483629 : Int) ≠ 0 by decide), Ok_fdiv (hd _), Ok_mod hm]
    obtain ⟨d, e, hd⟩ := nat_of (Int.fmod_nonneg_of_pos (((z ^ Int.toNat 3).fmod 2147483629).fdiv 32) n0) (Int.fmod_lt_of_pos _ n0)
    exact ⟨d, by rw [e], hd, Fr.set _ _, _, z, set_same hl, g0, y0, by omega⟩
/-- one of a list's things, by a draw -/
theorem pick_ok {S : Sto} {b : Nat} {n : Int} {xs : List AV} {P : AV → Sto → Prop} (hb : Bag S b) (h : ∀ (d : Nat) v S', xs[d]? = some v → Fr [b] S S' → Bag S' b → P v S') (hn : n = (xs.length : Int) := by rfl) (h0 : 0 < xs.length := by simp) (h1 : xs.length ≤ 1000 := by simp) :
    Ok (aLst xs S) fun u S1 => Ok (den_Ltake [.ref b, .int n] S1) fun v S2 => Ok (aIx u v S2) P := by
  rw [Ok_lst h1]
  refine (take_ok hb.app (by omega) (by omega)).imp fun v S2 ⟨d, e, hd, f, hb2⟩ => ?_
  subst e
  have hd' : d < xs.length := by omega
  have hx : S2[S.length]? = some (.lst xs) := f.get app_new (by have := hb.lt; simp; omega)
  rw [Ok_ixL hx (atI_nat (List.getElem?_eq_getElem hd'))]
  exact h d _ S2 (List.getElem?_eq_getElem hd') ((Fr.app (W := [b]) _).trans f) hb2
def names4 : List Str := ["a", "b", "c", "xy"]
theorem names_ok {S : Sto} {P : AV → Sto → Prop} : Ok (den_Lnames [] S) P = Ok (aLst (names4.map .str) S) P := by
  unfold den_Lnames
  refine (Ok_def (n := 0) (as := []) rfl).trans ?_
  simp_arith []
  rfl
theorem names4_ok : ∀ z ∈ names4, isNm z = true := by decide +kernel
/-- an atom: one of four names, or a number -/
def Atm4 : Atm → Prop
  | .nm z => z ∈ names4
  | .num n => n < 1000
theorem Atm4.ok {a : Atm} (h : Atm4 a) : atmOk a = true := by
  cases a with
  | nm z => exact names4_ok z h
  | num n => exact decide_eq_true h
theorem mem_get {α : Type} {xs : List α} {d : Nat} {v : α} (h : xs[d]? = some v) : v ∈ xs := List.mem_of_getElem? h
theorem atom_ok {S : Sto} {b : Nat} (hb : Bag S b) : Ok (den_Latom [.ref b] S) fun v S' => ∃ a, v = atmA a ∧ Atm4 a ∧ Fr [b] S S' ∧ Bag S' b := by
  (unfold den_Latom; refine def_ok rfl ?_)
  simp_arith []
  refine (take_ok hb (by decide) (by decide)).imp fun v S1 ⟨d, e, hd, f1, hb1⟩ => ?_
  subst e
  simp_arith []
  split
  · simp_arith [names_ok]
    refine pick_ok hb1 (h0 := by decide) (h1 := by decide) fun d2 v S2 hv f2 hb2 => ?_
    obtain ⟨z, hz, rfl⟩ := List.mem_map.mp (mem_get hv)
    exact ⟨.nm z, rfl, hz, f1.trans f2, hb2⟩
  · refine (take_ok hb1 (by decide) (by decide)).imp fun v S2 ⟨d2, e, hd2, f2, hb2⟩ => ?_
    subst e
    refine pick_ok hb2 fun d3 v S3 hv f3 hb3 => ?_
    have hv := mem_get hv
    have : ∃ n : Nat, v = .int n ∧ n < 1000 := by
      simp only [List.mem_cons, List.not_mem_nil, or_false] at hv
      rcases hv with rfl | rfl | rfl | rfl | rfl | rfl | rfl | rfl
      · exact ⟨0, rfl, by decide⟩
      · exact ⟨1, rfl, by decide⟩
      · exact ⟨2, rfl, by decide⟩
      · exact ⟨3, rfl, by decide⟩
      · exact ⟨7, rfl, by decide⟩
      · exact ⟨10, rfl, by decide⟩
      · exact ⟨999, rfl, by decide⟩
      · exact ⟨d2, rfl, by omega⟩
    obtain ⟨n, rfl, hn⟩ := this
    exact ⟨.num n, rfl, hn, (f1.trans f2).trans f3, hb3⟩
theorem Fr.loc {W : List Nat} {S0 S : Sto} {n : Nat} {o : AO} (h : Fr W S0 S) (hn : S0.length ≤ n) : Fr W S0 (S.set n o) :=
  ⟨by rw [List.length_set]; exact h.le, fun m hl hm => (List.getElem?_set_ne (by omega)).trans (h.at_ m hl hm)⟩
theorem Fr.more {W : List Nat} {S0 S : Sto} {o : AO} (h : Fr W S0 S) : Fr W S0 (S ++ [o]) := h.trans (Fr.app o)
theorem all_map {α : Type} {f : α → AV} {p : α → Prop} : ∀ {ys : List AV}, (∀ y ∈ ys, ∃ x, y = f x ∧ p x) → ∃ xs : List α, ys = xs.map f ∧ xs.length = ys.length ∧ ∀ x ∈ xs, p x
  | [], _ => ⟨[], rfl, rfl, fun _ h => by cases h⟩
  | y :: ys, h => by
    obtain ⟨x, e, hx⟩ := h y (List.mem_cons_self ..)
    obtain ⟨xs, e2, hl, h2⟩ := all_map (f := f) (p := p) (ys := ys) fun z hz => h z (List.mem_cons_of_mem _ hz)
    refine ⟨x :: xs, by rw [e, e2]; rfl, by rw [List.length_cons, List.length_cons, hl], fun z hz => ?_⟩
    rcases List.mem_cons.mp hz with rfl | hz
    · exact hx
    · exact h2 z hz
/-- items drawn, so many -/
theorem collB_ok {S : Sto} {b n : Nat} {t : Tg} {de : DE} {η0 : Nv} {P : List AV → Sto → Prop} (F : AV → Prop) (hb : Bag S b) (hz : n ≤ 1000)
    (step : ∀ (k : Nat) S1, Fr [b] S S1 → Bag S1 b → ∃ η1, t.put (.int k) η0 = some η1 ∧ Ok (de η1 S1) fun y S2 => F y ∧ Fr [b] S1 S2 ∧ Bag S2 b)
    (fin : ∀ ys S1, ys.length = n → (∀ y ∈ ys, F y) → Fr [b] S S1 → Bag S1 b → P ys S1) : Ok (collF (itR 0 1 n) t dYes de η0 (itR 0 1 n).n 0 [] S) P := by
  have hs : sizeLine = 16777216 := sizeLine_eq
  refine coll_ok (n := n) (fun k acc S1 => acc.length = k ∧ (∀ y ∈ acc, F y) ∧ Fr [b] S S1 ∧ Bag S1 b) rfl ⟨rfl, fun _ h => (by cases h), Fr.refl, hb⟩ (fun k acc S1 hk ⟨h1, h2, h3, h4⟩ => ?_) fun acc S1 ⟨h1, h2, h3, h4⟩ => ⟨?_, fin acc S1 h1 h2 h3 h4⟩
  · obtain ⟨η1, e1, h5⟩ := step k S1 h3 h4
    refine ⟨.int k, η1, ?_, e1, ?_⟩
    · unfold itR
      simp only [if_pos hk, Int.zero_add, Int.mul_one]
    · rw [show dYes η1 S1 = .ok true S1 from rfl, Ok_ok, if_pos rfl]
      refine h5.imp fun y S2 ⟨h6, h7, h8⟩ => ⟨by omega, by rw [List.length_append, h1]; rfl, fun z hz => ?_, h3.trans h7, h8⟩
      rcases List.mem_append.mp hz with hz | hz
      · exact h2 z hz
      · rw [List.mem_singleton.mp hz]; exact h6
  · unfold itR
    simp only [Nat.lt_irrefl, if_false]
def Prd4 (p : Prd) : Prop := Atm4 p.fst ∧ (∀ q ∈ p.prs, Atm4 q.2) ∧ p.prs.length ≤ 2
/-- a drawn sum -/
structure Sm4 (s : Sm) : Prop where
  ne : s ≠ []
  le : s.length ≤ 2
  ok : ∀ p ∈ s, Prd4 p
theorem Prd4.ok {p : Prd} (h : Prd4 p) : prdOk p = true := by
  unfold prdOk
  rw [Bool.and_eq_true, List.all_eq_true]
  exact ⟨h.1.ok, fun q hq => (h.2.1 q hq).ok⟩
theorem Sm4.sm {s : Sm} (h : Sm4 s) : SmOk s := by
  refine ⟨h.ne, ?_, fun p hp => (h.ok p hp).ok⟩
  have h3 : ∀ x ∈ s.map prdN, x ≤ 3 := fun x hx => by
    obtain ⟨p, hp, rfl⟩ := List.mem_map.mp hx
    have := (h.ok p hp).2.2
    unfold prdN
    omega
  have := sum_le h3
  rw [List.length_map] at this
  have := h.le
  unfold smN
  omega
theorem seqA_lst {S : Sto} {n : Nat} {xs : List AV} (h : S[n]? = some (.lst xs)) : seqA S (.ref n) = some xs := by unfold seqA; simp only [h]
theorem lsum_ok {S : Sto} {b : Nat} {h : Int} (hb : Bag S b) (h0 : 0 < h) (h1 : h ≤ 100) : Ok (den_Lsum [.ref b, .int h] S) fun v S' => ∃ s, v = smA s ∧ Sm4 s ∧ Fr [b] S S' ∧ Bag S' b := by
  have hlt := hb.lt
  (unfold den_Lsum; refine def_ok rfl ?_)
  simp_arith [Ok_lst (xs := []) (by decide), Go_for]
  refine (take_ok hb.app (by omega) (by omega)).imp fun v S1 ⟨d, e, hd, f1, hb1⟩ => ?_
  subst e
  simp_arith []
  rw [Ok_rng1 (n := 1 + d) (by omega) (by omega)]
  have hn1 : S1[S.length]? = some (.lst []) := f1.get app_new (by simp; omega)
  refine loopR_ok (fun k η S2 => ∃ x3 x4 x5 x6 ps, η = [some (.ref b), some (.int h), some (.ref S.length), x3, x4, x5, x6] ∧ Fr [b] S S2 ∧ Bag S2 b ∧ S2[S.length]? = some (.lst (ps.map prdA)) ∧ ps.length = k ∧ ∀ p ∈ ps, Prd4 p)
    ⟨_, _, _, _, [], rfl, (Fr.app _).trans f1, hb1, hn1, rfl, fun _ h => by cases h⟩ (fun k η S2 hk ⟨x3, x4, x5, x6, ps, e, f2, hb2, hn2, hl, hp⟩ => ?_) fun η S2 ⟨x3, x4, x5, x6, ps, e, f2, hb2, hn2, hl, hp⟩ => ?_
  · subst e
    simp_arith []
    refine pick_ok hb2 fun d2 v S3 hv f3 hb3 => ?_
    have : ∃ m : Nat, v = .int m ∧ m ≤ 2 := by
      have hv := mem_get hv
      simp only [List.mem_cons, List.not_mem_nil, or_false] at hv
      rcases hv with rfl | rfl | rfl | rfl | rfl
      · exact ⟨0, rfl, by decide⟩
      · exact ⟨0, rfl, by decide⟩
      · exact ⟨0, rfl, by decide⟩
      · exact ⟨1, rfl, by decide⟩
      · exact ⟨2, rfl, by decide⟩
    obtain ⟨m, rfl, hm⟩ := this
    rw [Ok_lc]
    simp_arith []
    rw [Ok_rng1 (n := m) rfl (by omega)]
    have hn3 : S3[S.length]? = some (.lst (ps.map prdA)) := f3.get hn2 (by simp; omega)
    refine collB_ok (b := b) (fun y => ∃ q, y = prA q ∧ Atm4 q.2) hb3 (by omega) (fun k2 S4 f4 hb4 => ⟨_, rfl, ?_⟩) fun ys S4 hyl hy f4 hb4 => ?_
    · simp only [wipeA, Tg.own]
      simp_arith []
      refine pick_ok hb4 fun d4 v S5 hv f5 hb5 => ?_
      have : ∃ mm : Bool, v = .str (jS mm) := by
        have hv := mem_get hv
        simp only [List.mem_cons, List.not_mem_nil, or_false] at hv
        rcases hv with rfl | rfl | rfl
        · exact ⟨true, rfl⟩
        · exact ⟨true, rfl⟩
        · exact ⟨false, rfl⟩
      obtain ⟨mm, rfl⟩ := this
      refine (atom_ok hb5).imp fun v S6 ⟨a, e, ha, f6, hb6⟩ => ?_
      subst e
      exact ⟨⟨(mm, a), rfl, ha⟩, f5.trans f6, hb6⟩
    · obtain ⟨prs, rfl, hpl, hpr⟩ := all_map hy
      have hn4 := f4.get hn3 (by simp; omega)
      rw [if_pos (isL (app_get hn4))]
      refine pick_ok hb4.app fun d4 v S5 hv f5 hb5 => ?_
      have : ∃ ng : Bool, v = .int (sgI ng) := by
        have hv := mem_get hv
        simp only [List.mem_cons, List.not_mem_nil, or_false] at hv
        rcases hv with rfl | rfl | rfl
        · exact ⟨false, rfl⟩
        · exact ⟨false, rfl⟩
        · exact ⟨true, rfl⟩
      obtain ⟨ng, rfl⟩ := this
      refine (atom_ok hb5).imp fun v S6 ⟨a, e, ha, f6, hb6⟩ => ?_
      subst e
      have hne : S4.length ∉ [b] := by have := hb4.lt; simp; omega
      have hneS : S.length ∉ [b] := by simp; omega
      have hc6 : S6[S4.length]? = some (.lst (prs.map prA)) := f6.get (f5.get app_new hne) hne
      have hn6 : S6[S.length]? = some (.lst (ps.map prdA)) := f6.get (f5.get (app_get hn4) hneS) hneS
      rw [Ok_tupleL hc6, Ok_append hn6 (by rw [List.length_map, hl]; have : sizeLine = 16777216 := sizeLine_eq; omega)]
      refine ⟨_, _, _, _, ps ++ [⟨ng, a, prs⟩], rfl, ?_, ?_, ?_, by rw [List.length_append, hl]; rfl, fun p hp' => ?_⟩
      · exact ((((f2.trans f3).trans f4).more.trans f5).trans f6).loc (Nat.le_refl _)
      · exact hb6.on (Fr.set _ _) (by simp; omega)
      · rw [set_same (lt_of hn6), List.map_append]
        rfl
      · rcases List.mem_append.mp hp' with hp' | hp'
        · exact hp p hp'
        · rw [List.mem_singleton.mp hp']
          exact ⟨ha, hpr, by show prs.length ≤ 2; rw [hpl, hyl]; exact hm⟩
  · subst e
    simp_arith []
    rw [Ok_slL hn2, Ok_tupleL app_new, show (2 : Int) = ((2 : Nat) : Int) from rfl, cutL_take, ← List.map_take]
    refine ⟨ps.take 2, rfl, ⟨fun e => ?_, by rw [List.length_take]; omega, fun p hp' => hp p (List.mem_of_mem_take hp')⟩, f2.more, hb2.app⟩
    have := congrArg List.length e
    rw [List.length_take, hl] at this
    simp at this
def Row04 : Row0 → Prop
  | .set n s => n ∈ names4 ∧ Sm4 s
  | .drop n => n ∈ names4
  | .shw s => Sm4 s
def Row4 : Row → Prop
  | .pl r => Row04 r
  | .cond t r => Sm4 t ∧ Row04 r
theorem Row04.ok {r : Row0} (h : Row04 r) : Row0Ok r := by
  cases r with
  | set n s => exact ⟨names4_ok n h.1, h.2.sm⟩
  | drop n => exact names4_ok n h
  | shw s => exact Sm4.sm h
theorem Row4.ok {r : Row} (h : Row4 r) : RowOk r := by
  cases r with
  | pl r => exact Row04.ok h
  | cond t r => exact ⟨h.1.sm, Row04.ok h.2⟩
theorem plain_ok {S : Sto} {b : Nat} (hb : Bag S b) : Ok (den_Lplain_row [.ref b] S) fun v S' => ∃ r, v = row0A r ∧ Row04 r ∧ Fr [b] S S' ∧ Bag S' b := by
  (unfold den_Lplain_row; refine def_ok rfl ?_)
  simp_arith []
  refine (take_ok hb (by decide) (by decide)).imp fun v S1 ⟨d, e, hd, f1, hb1⟩ => ?_
  subst e
  simp_arith [names_ok]
  refine pick_ok hb1 (h0 := by decide) (h1 := by decide) fun d2 v S2 hv f2 hb2 => ?_
  obtain ⟨z, hz, rfl⟩ := List.mem_map.mp (mem_get hv)
  simp_arith []
  split
  · exact ⟨.drop z, rfl, hz, f1.trans f2, hb2⟩
  · split
    · refine (take_ok hb2 (by decide) (by decide)).imp fun v S3 ⟨d3, e, hd3, f3, hb3⟩ => ?_
      subst e
      refine ⟨.set z [⟨false, .num d3, []⟩], rfl, ⟨hz, by simp, by simp, fun p hp => ?_⟩, (f1.trans f2).trans f3, hb3⟩
      rw [List.mem_singleton.mp hp]
      exact ⟨(show d3 < 1000 by omega), fun q hq => (by cases hq), by simp⟩
    · rename_i h1 h2
      rw [Ok_lst (by simp)]
      have fin : ∀ {S3 S4 : Sto} {s : Sm}, Sm4 s → Fr [b] S3 S4 → Bag S4 b → True := fun _ _ _ => trivial
      by_cases h5 : (5 : Int) < d
      · rw [decide_eq_true h5]
        simp_arith [Ok_ixL (app_new (S := S2)) (atI_1 (r := []) (a := AV.tup [.str "set", .str z]) (b := AV.tup [.str "show"]))]
        refine (lsum_ok hb2.app (by decide) (by decide)).imp fun v S3 ⟨s, e, hs, f3, hb3⟩ => ?_
        subst e
        rw [Ok_addT (by simp; decide)]
        exact ⟨.shw s, rfl, hs, (f1.trans f2).more.trans f3, hb3⟩
      · rw [decide_eq_false h5]
        simp_arith [Ok_ixL (app_new (S := S2)) (atI_0 (r := [AV.tup [.str "show"]]) (a := AV.tup [.str "set", .str z]))]
        refine (lsum_ok hb2.app (by decide) (by decide)).imp fun v S3 ⟨s, e, hs, f3, hb3⟩ => ?_
        subst e
        rw [Ok_addT (by simp; decide)]
        exact ⟨.set z s, rfl, ⟨hz, hs⟩, (f1.trans f2).more.trans f3, hb3⟩
structure Rows4 (rs : List Row) (h : Nat) : Prop where
  ne : rs ≠ []
  le : rs.length ≤ h
  ok : ∀ r ∈ rs, Row4 r
theorem Rows4.rows {rs : List Row} {h : Nat} (r : Rows4 rs h) (h6 : h ≤ 6) : RowsOk rs := ⟨r.ne, Nat.le_trans r.le h6, fun x hx => (r.ok x hx).ok⟩
theorem rows_ok {S : Sto} {b h : Nat} (hb : Bag S b) (h0 : 0 < h) (h1 : h ≤ 100) : Ok (den_Lrows [.ref b, .int h] S) fun v S' => ∃ rs, v = rowsA rs ∧ Rows4 rs h ∧ Fr [b] S S' ∧ Bag S' b := by
  have hlt := hb.lt
  have hz : sizeLine = 16777216 := sizeLine_eq
  (unfold den_Lrows; refine def_ok rfl ?_)
  simp_arith [Ok_lst (xs := []) (by decide), Go_for]
  refine (take_ok hb.app (by omega) (by omega)).imp fun v S1 ⟨d, e, hd, f1, hb1⟩ => ?_
  subst e
  simp_arith []
  rw [Ok_rng1 (n := 1 + d) (by omega) (by omega)]
  have hneS : S.length ∉ [b] := by simp; omega
  have hn1 : S1[S.length]? = some (.lst []) := f1.get app_new hneS
  refine loopR_ok (fun k η S2 => ∃ x3 x4 rs, η = [some (.ref b), some (.int h), some (.ref S.length), x3, x4] ∧ Fr [b] S S2 ∧ Bag S2 b ∧ S2[S.length]? = some (.lst (rs.map rowA)) ∧ rs.length = k ∧ ∀ r ∈ rs, Row4 r)
    ⟨_, _, [], rfl, (Fr.app _).trans f1, hb1, hn1, rfl, fun _ h => by cases h⟩ (fun k η S2 hk ⟨x3, x4, rs, e, f2, hb2, hn2, hl, hp⟩ => ?_) fun η S2 ⟨x3, x4, rs, e, f2, hb2, hn2, hl, hp⟩ => ?_
  · subst e
    simp_arith []
    refine (plain_ok hb2).imp fun v S3 ⟨r, e, hr, f3, hb3⟩ => ?_
    subst e
    have fin : ∀ (r' : Row) (S4 : Sto), Row4 r' → Fr [b] S2 S4 → Bag S4 b → Ok (aAppend (.ref S.length) [rowA r'] S4) fun _ S5 => ∃ (x3 x4 : Option AV) (rs : List Row), [some (AV.ref b), some (AV.int h), some (AV.ref S.length), some (.int k), some (rowA r')] = [some (.ref b), some (.int h), some (.ref S.length), x3, x4] ∧ Fr [b] S S5 ∧ Bag S5 b ∧ S5[S.length]? = some (.lst (rs.map rowA)) ∧ rs.length = k + 1 ∧ ∀ r ∈ rs, Row4 r := by
      intro r' S4 hr' f4 hb4
      have hn4 := f4.get hn2 hneS
      rw [Ok_append hn4 (by rw [List.length_map, hl]; omega)]
      refine ⟨_, _, rs ++ [r'], rfl, (f2.trans f4).loc (Nat.le_refl _), hb4.on (Fr.set _ _) (by simp; omega), ?_, by rw [List.length_append, hl]; rfl, fun x hx => ?_⟩
      · rw [set_same (lt_of hn4), List.map_append]
        rfl
      · rcases List.mem_append.mp hx with hx | hx
        · exact hp x hx
        · rw [List.mem_singleton.mp hx]; exact hr'
    simp_arith []
    refine (take_ok hb3 (by decide) (by decide)).imp fun v S4 ⟨d4, e, hd4, f4, hb4⟩ => ?_
    subst e
    simp_arith []
    split
    · refine (lsum_ok hb4 (by decide) (by decide)).imp fun v S5 ⟨s, e, hs, f5, hb5⟩ => ?_
      subst e
      simp_arith []
      have f := (f3.trans f4).trans f5
      rw [if_pos (isL (f.get hn2 hneS))]
      exact fin (.cond s r) S5 ⟨hs, hr⟩ f hb5
    · have f := f3.trans f4
      rw [if_pos (isL (f.get hn2 hneS))]
      exact fin (.pl r) S4 hr f hb4
  · subst e
    simp_arith []
    rw [Ok_tupleL hn2]
    refine ⟨rs, rfl, ⟨fun e => ?_, by omega, hp⟩, f2, hb2⟩
    rw [e] at hl
    simp at hl
    omega

set_option Elab.async false
set_option linter.all false
set_option maxRecDepth 100000
set_option maxHeartbeats 4000000
/-! M2: a sum's text, product by product. -/
open PySem PySem.Spec PyProof.Rows L2 TL
theorem snoc_ind {α : Type} {P : List α → Prop} (h0 : P []) (h1 : ∀ s p, P s → P (s ++ [p])) (s : List α) : P s := by
  have key : ∀ r : List α, P r.reverse := fun r => by
    induction r with
    | nil => exact h0
    | cons a r ih =>
      rw [List.reverse_cons]
      exact h1 _ _ ih
  have := key s.reverse
  rw [List.reverse_reverse] at this
  exact this
theorem joinL_app (S : List Nat) : ∀ (A B : List (List Nat)), A ≠ [] → B ≠ [] → joinL S (A ++ B) = joinL S A ++ S ++ joinL S B
  | [], _, h, _ => absurd rfl h
  | [a], [], _, h => absurd rfl h
  | [a], b :: B, _, _ => by
    show a ++ (S ++ joinL S (b :: B)) = a ++ S ++ joinL S (b :: B)
    rw [List.append_assoc]
  | a :: a2 :: A, B, _, h => by
    show a ++ (S ++ joinL S ((a2 :: A) ++ B)) = (a ++ (S ++ joinL S (a2 :: A))) ++ S ++ joinL S B
    rw [joinL_app S (a2 :: A) B (by simp) h]
    simp only [List.append_assoc]
def pairT (q : Bool × Atm) : Str := jS q.1 ++ " " ++ atmT q.2
def partT (p : Prd) : Str := mkS (joinL [32] ((atmT p.fst :: p.prs.map pairT).map tl))
def pairsM (l : List (Bool × Atm)) : List (Mk2 × Atm) := l.map fun q => (.jn q.1, q.2)
def wordsP (p : Prd) : List Str := atmT p.fst :: flatM (pairsM p.prs)
theorem flatM_app : ∀ a b : List (Mk2 × Atm), flatM (a ++ b) = flatM a ++ flatM b
  | [], b => rfl
  | (m, x) :: r, b => by
    show mkT m :: atmT x :: flatM (r ++ b) = mkT m :: atmT x :: (flatM r ++ flatM b)
    rw [flatM_app r b]
theorem flatM_prd (p : Prd) : flatM (prdM p) = sgT p.neg :: wordsP p := rfl
theorem tl_blank : tl (Str.ofString " ") = [32] := by decide +kernel
theorem join_pairs (x : List Nat) : ∀ l : List (Bool × Atm), joinL [32] (x :: (l.map pairT).map tl) = joinL [32] (x :: (flatM (pairsM l)).map tl)
  | [] => rfl
  | (m, a) :: r => by
    have ih := join_pairs (tl (atmT a)) r
    show x ++ ([32] ++ joinL [32] (tl (pairT (m, a)) :: (r.map pairT).map tl)) = x ++ ([32] ++ (tl (jS m) ++ ([32] ++ joinL [32] (tl (atmT a) :: (flatM (pairsM r)).map tl))))
    rw [← ih]
    have e : tl (pairT (m, a)) = tl (jS m) ++ [32] ++ tl (atmT a) := by
      show tl (jS m ++ Str.ofString " " ++ atmT a) = _
      rw [tl_append, tl_append, tl_blank]
    rw [e]
    cases r with
    | nil =>
      show x ++ ([32] ++ (tl (jS m) ++ [32] ++ tl (atmT a))) = x ++ ([32] ++ (tl (jS m) ++ ([32] ++ tl (atmT a))))
      simp only [List.append_assoc]
    | cons q r =>
      show x ++ ([32] ++ ((tl (jS m) ++ [32] ++ tl (atmT a)) ++ ([32] ++ joinL [32] (tl (pairT q) :: (r.map pairT).map tl)))) = x ++ ([32] ++ (tl (jS m) ++ ([32] ++ (tl (atmT a) ++ ([32] ++ joinL [32] (tl (pairT q) :: (r.map pairT).map tl))))))
      simp only [List.append_assoc]
theorem tl_partT (p : Prd) : tl (partT p) = joinL [32] ((wordsP p).map tl) := by
  unfold partT
  rw [tl_mkS]
  exact join_pairs (tl (atmT p.fst)) p.prs
theorem tl_sumT (s : Sm) : tl (sumT s) = joinL [32] ((wordsS s).map tl) := by
  unfold sumT
  rw [tl_mkS]
theorem sumT_one (p : Prd) : sumT [p] = if p.neg then Str.ofString "- " ++ partT p else partT p := by
  apply TL.ext_tl
  rw [tl_sumT]
  have e : smM [p] = prdM p := by show prdM p ++ [] = prdM p; rw [List.append_nil]
  unfold wordsS
  rw [e, flatM_prd]
  show joinL [32] ((if p.neg = true then sgT p.neg :: wordsP p else wordsP p).map tl) = _
  by_cases h : p.neg = true
  · rw [if_pos h, if_pos h, h, tl_append, tl_partT, show tl (Str.ofString "- ") = [45, 32] by decide +kernel]
    show tl (sgT true) ++ ([32] ++ joinL [32] ((wordsP p).map tl)) = _
    rw [show tl (sgT true) = [45] by decide +kernel]
    rfl
  · rw [if_neg h, if_neg h, tl_partT]
theorem sumT_snoc {s : Sm} (hs : s ≠ []) (p : Prd) : sumT (s ++ [p]) = sumT s ++ (if p.neg then Str.ofString " - " else Str.ofString " + ") ++ partT p := by
  apply TL.ext_tl
  have e1 : smM (s ++ [p]) = smM s ++ prdM p := by unfold smM; rw [List.flatMap_append]; show _ ++ (prdM p ++ []) = _; rw [List.append_nil]
  have e2 : wordsS (s ++ [p]) = wordsS s ++ (sgT p.neg :: wordsP p) := by
    cases s with
    | nil => exact absurd rfl hs
    | cons q r =>
      unfold wordsS
      rw [e1, flatM_app, flatM_prd]
      show (if q.neg = true then _ else _) = (if q.neg = true then _ else _) ++ _
      by_cases h : q.neg = true
      · rw [if_pos h, if_pos h]
      · rw [if_neg h, if_neg h]
        rfl
  have ne : (wordsS s).map tl ≠ [] := by
    cases s with
    | nil => exact absurd rfl hs
    | cons q r =>
      unfold wordsS
      show (if q.neg = true then flatM (smM (q :: r)) else (flatM (smM (q :: r))).tail).map tl ≠ []
      by_cases h : q.neg = true
      · rw [if_pos h]
        exact fun e => by cases e
      · rw [if_neg h]
        exact fun e => by cases e
  rw [tl_sumT, e2, List.map_append, joinL_app _ _ _ ne (by simp), tl_append, tl_append, tl_sumT, tl_partT]
  show _ ++ [32] ++ (tl (sgT p.neg) ++ ([32] ++ joinL [32] ((wordsP p).map tl))) = _
  cases p.neg with
  | true =>
    rw [if_pos rfl, show tl (sgT true) = [45] by decide +kernel, show tl (Str.ofString " - ") = [32, 45, 32] by decide +kernel]
    simp only [List.append_assoc]
    rfl
  | false =>
    rw [if_neg Bool.false_ne_true, show tl (sgT false) = [43] by decide +kernel, show tl (Str.ofString " + ") = [32, 43, 32] by decide +kernel]
    simp only [List.append_assoc]
    rfl
theorem partT_len {p : Prd} (h : prdOk p = true) : (partT p).length ≤ 12 * prdN p := by
  unfold prdOk at h
  simp only [Bool.and_eq_true, List.all_eq_true] at h
  unfold partT
  rw [len_mkS]
  refine Nat.le_trans (len_joinL _ _) ?_
  rw [List.map_map]
  refine Nat.le_trans (sum_le (c := 12) fun x hx => ?_) ?_
  · obtain ⟨w, hw, rfl⟩ := List.mem_map.mp hx
    show (tl w).length + 1 ≤ 12
    rcases List.mem_cons.mp hw with rfl | hw
    · have := atm_len h.1
      rw [len_tl] at this
      omega
    · obtain ⟨q, hq, rfl⟩ := List.mem_map.mp hw
      have h1 := atm_len (h.2 q hq)
      have h2 : (jS q.1).length ≤ 2 := by cases q.1 <;> decide +kernel
      have : (pairT q).length ≤ 7 := by
        show (jS q.1 ++ Str.ofString " " ++ atmT q.2).length ≤ 7
        rw [len_app, len_app, show (Str.ofString " ").length = 1 by decide +kernel]
        omega
      rw [len_tl] at this
      omega
  · rw [List.length_map, List.length_cons, List.length_map]
    show (p.prs.length + 1) * 12 ≤ 12 * (1 + p.prs.length)
    omega
theorem sumT_len2 : ∀ (s : Sm), (∀ p ∈ s, prdOk p = true) → (sumT s).length ≤ 15 * smN s := by
  intro s
  refine snoc_ind (P := fun s => (∀ p ∈ s, prdOk p = true) → (sumT s).length ≤ 15 * smN s) ?_ ?_ s
  · intro _
    have e : (sumT []).length = 0 := by decide +kernel
    omega
  · intro s p ih h
    have h1 := ih fun q hq => h q (List.mem_append_left _ hq)
    have h2 := partT_len (h p (List.mem_append_right _ (List.mem_singleton.mpr rfl)))
    have e : smN (s ++ [p]) = smN s + prdN p := by unfold smN; rw [List.map_append, List.sum_append]; show _ + (prdN p + 0) = _; omega
    have hp : prdN p = 1 + p.prs.length := rfl
    by_cases hs : s = []
    · subst hs
      rw [List.nil_append, sumT_one]
      have e0 : smN [p] = prdN p := by show prdN p + 0 = _; omega
      rw [e0]
      split
      · rw [len_app, show (Str.ofString "- ").length = 2 by decide +kernel]
        omega
      · omega
    · rw [sumT_snoc hs, len_app, len_app, e]
      split
      · rw [show (Str.ofString " - ").length = 3 by decide +kernel]
        omega
      · rw [show (Str.ofString " + ").length = 3 by decide +kernel]
        omega
theorem atmT_ne {a : Atm} (h : atmOk a = true) : 1 ≤ (atmT a).length := by
  cases a with
  | nm z => exact (isNm_and h).1
  | num n =>
    have h1 : ∀ n, n < 1000 → 1 ≤ (numT n).length := by decide +kernel
    exact h1 n (of_decide_eq_true h)
theorem partT_ne {p : Prd} (h : prdOk p = true) : 1 ≤ (partT p).length := by
  unfold prdOk at h
  simp only [Bool.and_eq_true] at h
  have h1 := atmT_ne h.1
  rw [len_tl] at h1 ⊢
  rw [tl_partT]
  show 1 ≤ (joinL [32] (tl (atmT p.fst) :: (flatM (pairsM p.prs)).map tl)).length
  cases (flatM (pairsM p.prs)).map tl with
  | nil => exact h1
  | cons q r =>
    show 1 ≤ (tl (atmT p.fst) ++ ([32] ++ joinL [32] (q :: r))).length
    rw [List.length_append]
    omega
theorem sumT_ne {s : Sm} (hs : s ≠ []) (h : ∀ p ∈ s, prdOk p = true) : sumT s ≠ Str.ofString "" := by
  intro e
  have key : 1 ≤ (sumT s).length := by
    clear e
    revert h hs
    refine snoc_ind (P := fun s => s ≠ [] → (∀ p ∈ s, prdOk p = true) → 1 ≤ (sumT s).length) ?_ ?_ s
    · intro h; exact absurd rfl h
    · intro s p ih _ h
      have hp := partT_ne (h p (List.mem_append_right _ (List.mem_singleton.mpr rfl)))
      by_cases hs : s = []
      · subst hs
        rw [List.nil_append, sumT_one]
        split
        · rw [len_app]; omega
        · exact hp
      · rw [sumT_snoc hs, len_app, len_app]
        omega
  rw [e, show (Str.ofString "").length = 0 by decide +kernel] at key
  omega
structure SmOkB (s : Sm) : Prop where
  n : smN s ≤ 20
  ok : ∀ p ∈ s, prdOk p = true
theorem SmOk.b {s : Sm} (h : SmOk s) : SmOkB s := ⟨Nat.le_trans h.n (by decide), h.ok⟩
theorem smN_mem {s : Sm} {p : Prd} (h : p ∈ s) : prdN p ≤ smN s := by
  induction s with
  | nil => cases h
  | cons q r ih =>
    show prdN p ≤ prdN q + smN r
    rcases List.mem_cons.mp h with rfl | h
    · omega
    · have := ih h
      omega

set_option Elab.async false
set_option linter.all false
set_option maxRecDepth 100000
set_option maxHeartbeats 4000000
/-! Q2: texts of sums and rows. -/
open PySem PySem.Spec PyProof.Rows L2 TL
theorem num_okB : ∀ n : Nat, n < 1000 → ((n : Int)).natAbs.log2 < 1920 ∧ okB (numT n) = true := by decide +kernel
theorem Ok_strA {S : Sto} {a : Atm} {P : AV → Sto → Prop} (h : atmOk a = true) : Ok (aStr [atmA a] S) P = P (.str (atmT a)) S := by
  cases a with
  | nm z => rfl
  | num n =>
    have := num_okB n (of_decide_eq_true h)
    show Ok (aStr [.int n] S) P = _
    unfold aStr
    exact (congrArg (fun r => Ok r P) (if_pos this)).trans rfl
theorem small_le {n : Nat} (h : n ≤ 100000) : n ≤ sizeLine := by have : sizeLine = 16777216 := sizeLine_eq; omega
theorem pairT_len {q : Bool × Atm} (h : atmOk q.2 = true) : (pairT q).length ≤ 7 := by
  have h1 := atm_len h
  have h2 : (jS q.1).length ≤ 2 := by cases q.1 <;> decide +kernel
  show (jS q.1 ++ Str.ofString " " ++ atmT q.2).length ≤ 7
  rw [len_app, len_app, show (Str.ofString " ").length = 1 by decide +kernel]
  omega
theorem sumtext_ok {S : Sto} {s : Sm} (hs : SmOkB s) : Ok (den_Lsum_text [smA s] S) fun v S' => v = .str (sumT s) ∧ Fr [] S S' := by
  (unfold den_Lsum_text; refine def_ok rfl ?_)
  simp_arith [Go_for, smA, Ok_walkT]
  refine loopT_ok (fun k η S1 => ∃ x2 x3 x4 x5 x6 x7, η = [some (smA s), some (.str (sumT (s.take k))), x2, x3, x4, x5, x6, x7] ∧ Fr [] S S1) ⟨_, _, _, _, _, _, rfl, Fr.refl⟩ (fun k x η S1 hx ⟨x2, x3, x4, x5, x6, x7, e, f1⟩ => ?_) fun η S1 ⟨x2, x3, x4, x5, x6, x7, e, f1⟩ => ?_
  · subst e
    rw [List.getElem?_map] at hx
    obtain ⟨p, hp, rfl⟩ := Option.map_eq_some_iff.mp hx
    have hmem := mem_get hp
    have okk := hs.ok p hmem
    have okp := okk
    unfold prdOk at okp
    rw [Bool.and_eq_true, List.all_eq_true] at okp
    have hN := smN_mem hmem
    have hN20 := hs.n
    have hpN : prdN p = 1 + p.prs.length := rfl
    have htake : s.take (k + 1) = s.take k ++ [p] := by rw [List.take_add_one, hp]; rfl
    have hpl := partT_len okk
    have hsl := sumT_len2 (s.take k) fun q hq => hs.ok q (List.mem_of_mem_take hq)
    have tN : smN (s.take k) ≤ 20 := by
      have e : smN s = smN (s.take k) + smN (s.drop k) := by
        unfold smN
        rw [← List.sum_append, ← List.map_append, List.take_append_drop]
      omega
    simp_arith [prdA, Ok_strA okp.1, Ok_lst (xs := [AV.str (atmT p.fst)]) (by simp), Ok_lc, Ok_walkT]
    refine collQ_ok (W := []) prA (fun q => .str (pairT q)) (by have : sizeLine = 16777216 := sizeLine_eq; omega) (fun q S2 hq f2 => ?_) fun S2 f2 => ?_
    · have okq := okp.2 q hq
      have h1 := atm_len okq
      have h2 : (jS q.1).length ≤ 2 := by cases q.1 <;> decide +kernel
      have h3 : (Str.ofString " ").length = 1 := by decide +kernel
      refine ⟨_, rfl, ?_⟩
      simp only [wipeA, Tg.own]
      simp_arith [Ok_addS (x := jS q.1) (y := " ") (small_le (by omega)), Ok_strA okq, Ok_addS (x := jS q.1 ++ " ") (y := atmT q.2) (small_le (by rw [len_app]; omega))]
      exact ⟨rfl, Fr.refl⟩
    · have g1 : S2[S1.length]? = some (.lst [.str (atmT p.fst)]) := f2.get app_new (by simp)
      rw [Ok_addL (app_get g1) app_new (by rw [List.length_map]; exact small_le (by simp; omega))]
      have eL : [AV.str (atmT p.fst)] ++ p.prs.map (fun q => AV.str (pairT q)) = (atmT p.fst :: p.prs.map pairT).map AV.str := by rw [List.map_cons, List.map_map]; rfl
      rw [eL, Ok_joinL app_new (joinOk_of (c := 7) (n := 21) (fun z hz => ?_) (by rw [List.length_cons, List.length_map]; omega) (by decide +kernel))]
      · have f3 : Fr [] S ((S2 ++ [AO.lst (p.prs.map fun q => AV.str (pairT q))]) ++ [AO.lst ((atmT p.fst :: p.prs.map pairT).map AV.str)]) := (((f1.more).trans f2).more).more
        generalize ((S2 ++ [AO.lst (p.prs.map fun q => AV.str (pairT q))]) ++ [AO.lst ((atmT p.fst :: p.prs.map pairT).map AV.str)]) = S3 at f3 ⊢
        have ep : mkS (joinL (tl (" " : Str)) ((atmT p.fst :: p.prs.map pairT).map tl)) = partT p := by unfold partT; rw [tl_blank]
        rw [ep]
        simp_arith []
        by_cases h0 : s.take k = []
        · have e1 : sumT (s.take (k + 1)) = if p.neg then Str.ofString "- " ++ partT p else partT p := by rw [htake, h0, List.nil_append, sumT_one]
          rw [h0, show (sumT [] == ("" : Str)) = true by decide +kernel]
          simp_arith []
          cases hn : p.neg with
          | true =>
            rw [hn, if_pos rfl] at e1
            simp_arith [show decide (sgI true < 0) = true by decide, Ok_addS (x := "- ") (y := partT p) (small_le (by rw [show (Str.ofString "- ").length = 2 by decide +kernel]; omega))]
            rw [e1]
            exact ⟨_, _, _, _, _, _, rfl, f3⟩
          | false =>
            rw [hn, if_neg Bool.false_ne_true] at e1
            simp_arith [show decide (sgI false < 0) = false by decide]
            rw [e1]
            exact ⟨_, _, _, _, _, _, rfl, f3⟩
        · have e1 : sumT (s.take (k + 1)) = sumT (s.take k) ++ (if p.neg then Str.ofString " - " else Str.ofString " + ") ++ partT p := by rw [htake, sumT_snoc h0]
          have hne := sumT_ne h0 fun q hq => hs.ok q (List.mem_of_mem_take hq)
          rw [show (sumT (s.take k) == ("" : Str)) = false from beq_false_of_ne hne]
          simp_arith [Ok_lst (xs := [AV.str " + ", AV.str " - "]) (by simp)]
          have l3 : (Str.ofString " - ").length = 3 := by decide +kernel
          have l3' : (Str.ofString " + ").length = 3 := by decide +kernel
          cases hn : p.neg with
          | true =>
            rw [hn, if_pos rfl] at e1
            simp_arith [show decide (sgI true < 0) = true by decide, Ok_ixL (app_new (S := S3)) (atI_1 (r := []) (a := AV.str " + ") (b := AV.str " - ")), Ok_addS (x := sumT (s.take k)) (y := " - ") (small_le (by omega)), Ok_addS (x := sumT (s.take k) ++ " - ") (y := partT p) (small_le (by rw [len_app]; omega))]
            rw [e1]
            exact ⟨_, _, _, _, _, _, rfl, f3.more⟩
          | false =>
            rw [hn, if_neg Bool.false_ne_true] at e1
            simp_arith [show decide (sgI false < 0) = false by decide, Ok_ixL (app_new (S := S3)) (atI_0 (r := [AV.str " - "]) (a := AV.str " + ")), Ok_addS (x := sumT (s.take k)) (y := " + ") (small_le (by omega)), Ok_addS (x := sumT (s.take k) ++ " + ") (y := partT p) (small_le (by rw [len_app]; omega))]
            rw [e1]
            exact ⟨_, _, _, _, _, _, rfl, f3.more⟩
      · rcases List.mem_cons.mp hz with rfl | hz
        · exact Nat.le_trans (atm_len okp.1) (by decide)
        · obtain ⟨q, hq, rfl⟩ := List.mem_map.mp hz
          exact pairT_len (okp.2 q hq)
  · subst e
    rw [List.length_map, List.take_length]
    simp_arith []
    exact ⟨trivial, f1⟩
theorem rowtext0_ok {rec : List AV → M AV} {S : Sto} {r : Row0} (hr : Row0Ok r) : Ok (rb_Lrow_text rec [row0A r] S) fun v S' => v = .str (row0T r) ∧ Fr [] S S' := by
  have l5 : (Str.ofString " ").length = 1 := by decide +kernel
  (unfold rb_Lrow_text; refine def_ok rfl ?_)
  cases r with
  | set n s =>
    have l1 := (isNm_and hr.1).2.1
    have l2 := sumT_len hr.2
    have l3 : (Str.ofString " = ").length = 3 := by decide +kernel
    simp_arith [row0A, show (("set" : Str) == ("set" : Str)) = true by decide +kernel, Ok_addS (x := n) (y := " = ") (small_le (by omega))]
    refine (sumtext_ok hr.2.b).imp fun v S1 ⟨e, f⟩ => ?_
    subst e
    rw [Ok_addS (small_le (by rw [len_app]; omega))]
    exact ⟨rfl, f⟩
  | drop n =>
    have l1 := (isNm_and hr).2.1
    have l4 : (Str.ofString "drop").length = 4 := by decide +kernel
    simp_arith [row0A, show (("drop" : Str) == ("set" : Str)) = false by decide +kernel, show (("drop" : Str) == ("if" : Str)) = false by decide +kernel, show (("drop" : Str) == ("drop" : Str)) = true by decide +kernel, Ok_addS (x := "drop") (y := " ") (small_le (by omega))]
    rw [Ok_addS (small_le (by rw [len_app]; omega))]
    refine ⟨?_, Fr.refl⟩
    show AV.str (Str.ofString "drop" ++ Str.ofString " " ++ n) = .str (Str.ofString "drop " ++ n)
    rw [show (Str.ofString "drop " : Str) = Str.ofString "drop" ++ Str.ofString " " by decide +kernel]
  | shw s =>
    have l2 := sumT_len hr
    have l4 : (Str.ofString "show").length = 4 := by decide +kernel
    simp_arith [row0A, show (("show" : Str) == ("set" : Str)) = false by decide +kernel, show (("show" : Str) == ("if" : Str)) = false by decide +kernel, show (("show" : Str) == ("drop" : Str)) = false by decide +kernel, Ok_addS (x := "show") (y := " ") (small_le (by omega))]
    refine (sumtext_ok (SmOk.b hr)).imp fun v S1 ⟨e, f⟩ => ?_
    subst e
    rw [Ok_addS (small_le (by rw [len_app]; omega))]
    refine ⟨?_, f⟩
    show AV.str (Str.ofString "show" ++ Str.ofString " " ++ sumT s) = .str (Str.ofString "show " ++ sumT s)
    rw [show (Str.ofString "show " : Str) = Str.ofString "show" ++ Str.ofString " " by decide +kernel]
theorem rowtext_ok {S : Sto} {r : Row} (hr : RowOk r) : Ok (den_Lrow_text [rowA r] S) fun v S' => v = .str (rowT r) ∧ Fr [] S S' := by
  unfold den_Lrow_text
  cases r with
  | pl r => exact rowtext0_ok hr
  | cond t r =>
    show Ok (rb_Lrow_text (rb_Lrow_text fun _ _ => .bad) [rowA (.cond t r)] S) _
    have h0 := fun S => rowtext0_ok (rec := fun _ _ => .bad) (S := S) hr.2
    generalize rb_Lrow_text (fun _ _ => R.bad) = rec at h0 ⊢
    have l2 := sumT_len hr.1
    have l3 : (Str.ofString "if ").length = 3 := by decide +kernel
    have l4 : (Str.ofString ": ").length = 2 := by decide +kernel
    have l6 := row0T_len hr.2
    (unfold rb_Lrow_text; refine def_ok rfl ?_)
    simp_arith [rowA, show (("if" : Str) == ("set" : Str)) = false by decide +kernel, show (("if" : Str) == ("if" : Str)) = true by decide +kernel]
    refine (sumtext_ok hr.1.b).imp fun v S1 ⟨e, f⟩ => ?_
    subst e
    rw [Ok_addS (small_le (by omega))]
    simp_arith []
    rw [Ok_addS (small_le (by rw [len_app]; omega))]
    refine (h0 S1).imp fun v S2 ⟨e, f2⟩ => ?_
    subst e
    rw [Ok_addS (small_le (by rw [len_app, len_app]; omega))]
    exact ⟨rfl, f.trans f2⟩
theorem text_ok {S : Sto} {rs : List Row} (h : RowsOk rs) : Ok (den_Ltext [rowsA rs] S) fun v S' => v = .str (rowsT rs) ∧ Fr [] S S' := by
  have h6 := h.n
  (unfold den_Ltext; refine def_ok rfl ?_)
  simp_arith [Ok_lc, rowsA, Ok_walkT]
  refine collQ_ok (W := []) rowA (fun r => .str (rowT r)) (by have : sizeLine = 16777216 := sizeLine_eq; omega) (fun r S1 hr f1 => ⟨_, rfl, ?_⟩) fun S1 f1 => ?_
  · simp only [wipeA, Tg.own]
    simp_arith []
    exact rowtext_ok (h.ok r hr)
  · have e : rs.map (fun r => AV.str (rowT r)) = (rs.map rowT).map AV.str := by rw [List.map_map]; rfl
    rw [e, Ok_joinL app_new (joinOk_of (c := 200) (n := 6) (fun z hz => ?_) (by rw [List.length_map]; exact h6) (by decide +kernel))]
    · refine ⟨?_, f1.more⟩
      unfold rowsT
      rw [show tl ("\n" : Str) = [10] by decide +kernel]
    · obtain ⟨r, hr, rfl⟩ := List.mem_map.mp hz
      exact rowT_len (h.ok r hr)

set_option Elab.async false
set_option linter.all false
set_option maxRecDepth 100000
set_option maxHeartbeats 4000000
/-! Q3: rooms. -/
open PySem PySem.Spec PyProof.Rows L2 TL
abbrev Rm := List (Str × Int)
def rk (z : Str) : Key := .inr z
def roomK (r : Rm) : List (Key × AV) := r.map fun p => (rk p.1, .int p.2)
def getR (r : Rm) (z : Str) : Option Int := (r.find? fun p => decide (p.1 = z)).map (·.2)
def putR (r : Rm) (z : Str) (v : Int) : Rm := if (r.any fun p => decide (p.1 = z)) = true then r.map (fun p => if p.1 = z then (p.1, v) else p) else r ++ [(z, v)]
def dropR (r : Rm) (z : Str) : Rm := r.filter fun p => decide (p.1 ≠ z)
theorem rk_inj {a b : Str} : rk a = rk b ↔ a = b := ⟨fun h => Sum.inr.inj h, fun h => by rw [h]⟩
theorem roomK_val (r : Rm) (z : Str) : valA (roomK r) (rk z) = (getR r z).map .int := by
  unfold valA roomK getR
  induction r with
  | nil => rfl
  | cons p r ih =>
    rw [List.map_cons]
    by_cases h : p.1 = z
    · rw [List.find?_cons_of_pos (by rw [decide_eq_true_eq]; exact rk_inj.mpr h), List.find?_cons_of_pos (by rw [decide_eq_true_eq]; exact h)]
      rfl
    · rw [List.find?_cons_of_neg (by rw [decide_eq_true_eq]; exact fun e => h (rk_inj.mp e)), List.find?_cons_of_neg (by rw [decide_eq_true_eq]; exact h)]
      exact ih
theorem roomK_any (r : Rm) (z : Str) : ((roomK r).any fun kv => decide (kv.1 = rk z)) = r.any fun p => decide (p.1 = z) := by
  unfold roomK
  rw [List.any_map]
  congr 1
  funext p
  show decide (rk p.1 = rk z) = _
  by_cases h : p.1 = z
  · rw [decide_eq_true (rk_inj.mpr h), decide_eq_true h]
  · rw [decide_eq_false (fun e => h (rk_inj.mp e)), decide_eq_false h]
theorem roomK_put (r : Rm) (z : Str) (v : Int) : putA (roomK r) (rk z) (.int v) = roomK (putR r z v) := by
  unfold putA putR
  rw [roomK_any]
  split
  · unfold roomK
    rw [List.map_map, List.map_map]
    refine List.map_congr_left fun p _ => ?_
    show (if rk p.1 = rk z then (rk p.1, AV.int v) else (rk p.1, AV.int p.2)) = (fun p => (rk p.1, AV.int p.2)) (if p.1 = z then (p.1, v) else p)
    by_cases h : p.1 = z
    · rw [if_pos (rk_inj.mpr h), if_pos h]
    · rw [if_neg (fun e => h (rk_inj.mp e)), if_neg h]
  · unfold roomK
    rw [List.map_append]
    rfl
theorem roomK_drop (r : Rm) (z : Str) : dropA (roomK r) (rk z) = roomK (dropR r z) := by
  unfold dropA dropR roomK
  rw [List.filter_map]
  congr 1
  refine List.filter_congr fun p _ => ?_
  show decide (rk p.1 ≠ rk z) = decide (p.1 ≠ z)
  rw [Bool.eq_iff_iff, decide_eq_true_eq, decide_eq_true_eq]
  exact not_congr rk_inj
theorem getR_put (r : Rm) (z y : Str) (v : Int) : getR (putR r z v) y = if y = z then some v else getR r y := by
  unfold putR getR
  by_cases ha : (r.any fun p => decide (p.1 = z)) = true
  · rw [if_pos ha]
    induction r with
    | nil => cases ha
    | cons p r ih =>
      rw [List.map_cons]
      by_cases hp : p.1 = z
      · rw [if_pos hp]
        by_cases hy : y = z
        · rw [if_pos hy, List.find?_cons_of_pos (by rw [decide_eq_true_eq]; show p.1 = y; rw [hp, hy])]
          rfl
        · rw [if_neg hy, List.find?_cons_of_neg (by rw [decide_eq_true_eq]; show ¬ p.1 = y; rw [hp]; exact fun e => hy e.symm), List.find?_cons_of_neg (by rw [decide_eq_true_eq]; rw [hp]; exact fun e => hy e.symm)]
          have : ∀ r : Rm, ((r.map fun p => if p.1 = z then (p.1, v) else p).find? fun p => decide (p.1 = y)).map (·.2) = (r.find? fun p => decide (p.1 = y)).map (·.2) := by
            intro r
            induction r with
            | nil => rfl
            | cons q r ih =>
              rw [List.map_cons]
              by_cases hq : q.1 = z
              · rw [if_pos hq, List.find?_cons_of_neg (by rw [decide_eq_true_eq]; show ¬ q.1 = y; rw [hq]; exact fun e => hy e.symm), List.find?_cons_of_neg (by rw [decide_eq_true_eq]; rw [hq]; exact fun e => hy e.symm)]
                exact ih
              · rw [if_neg hq]
                by_cases hq2 : q.1 = y
                · rw [List.find?_cons_of_pos (by rw [decide_eq_true_eq]; exact hq2), List.find?_cons_of_pos (by rw [decide_eq_true_eq]; exact hq2)]
                · rw [List.find?_cons_of_neg (by rw [decide_eq_true_eq]; exact hq2), List.find?_cons_of_neg (by rw [decide_eq_true_eq]; exact hq2)]
                  exact ih
          exact this r
      · rw [if_neg hp]
        have ha' : (r.any fun p => decide (p.1 = z)) = true := by
          rw [List.any_cons, decide_eq_false hp, Bool.false_or] at ha
          exact ha
        by_cases hy : p.1 = y
        · rw [List.find?_cons_of_pos (by rw [decide_eq_true_eq]; exact hy), List.find?_cons_of_pos (by rw [decide_eq_true_eq]; exact hy), if_neg (by rw [← hy]; exact hp)]
        · rw [List.find?_cons_of_neg (by rw [decide_eq_true_eq]; exact hy), List.find?_cons_of_neg (by rw [decide_eq_true_eq]; exact hy)]
          exact ih ha'
  · rw [if_neg ha, List.find?_append]
    by_cases hy : y = z
    · rw [if_pos hy]
      have : r.find? (fun p => decide (p.1 = y)) = none := by
        rw [List.find?_eq_none]
        intro p hp hd
        exact ha (List.any_eq_true.mpr ⟨p, hp, by rw [← hy]; exact hd⟩)
      rw [this, Option.none_or, List.find?_cons_of_pos (by rw [decide_eq_true_eq]; exact hy.symm)]
      rfl
    · rw [if_neg hy, List.find?_cons_of_neg (by rw [decide_eq_true_eq]; exact fun e => hy e.symm), List.find?_nil, Option.or_none]
theorem getR_drop (r : Rm) (z y : Str) : getR (dropR r z) y = if y = z then none else getR r y := by
  unfold dropR getR
  induction r with
  | nil => split <;> rfl
  | cons p r ih =>
    by_cases hp : p.1 = z
    · rw [List.filter_cons_of_neg (by rw [decide_eq_true_eq]; exact fun e => e hp), ih]
      by_cases hy : y = z
      · rw [if_pos hy, if_pos hy]
      · rw [if_neg hy, if_neg hy, List.find?_cons_of_neg (by rw [decide_eq_true_eq, hp]; exact fun e => hy e.symm)]
    · rw [List.filter_cons_of_pos (by rw [decide_eq_true_eq]; exact hp)]
      by_cases hy : p.1 = y
      · rw [List.find?_cons_of_pos (by rw [decide_eq_true_eq]; exact hy), List.find?_cons_of_pos (by rw [decide_eq_true_eq]; exact hy), if_neg (by rw [← hy]; exact hp)]
      · rw [List.find?_cons_of_neg (by rw [decide_eq_true_eq]; exact hy), List.find?_cons_of_neg (by rw [decide_eq_true_eq]; exact hy), ih]
theorem any_get (r : Rm) (z : Str) : (r.any fun p => decide (p.1 = z)) = (getR r z).isSome := by
  unfold getR
  rw [Option.isSome_map, Bool.eq_iff_iff, List.find?_isSome, List.any_eq_true]
/-- each name once, no number above the bound -/
structure RmOk (r : Rm) : Prop where
  nd : (r.map (·.1)).Nodup
  bd : ∀ p ∈ r, p.2.natAbs ≤ 1000000000
theorem putR_len (r : Rm) (z : Str) (v : Int) : (putR r z v).length ≤ r.length + 1 := by
  unfold putR
  split
  · rw [List.length_map]; omega
  · rw [List.length_append]; exact Nat.le_refl _
theorem RmOk.put {r : Rm} (h : RmOk r) (z : Str) {v : Int} (hv : v.natAbs ≤ 1000000000) : RmOk (putR r z v) := by
  unfold putR
  split
  · refine ⟨?_, fun p hp => ?_⟩
    · have e : (r.map fun p => if p.1 = z then (p.1, v) else p).map (·.1) = r.map (·.1) := by
        rw [List.map_map]
        refine List.map_congr_left fun p _ => ?_
        show (if p.1 = z then (p.1, v) else p).1 = p.1
        split <;> rfl
      rw [e]
      exact h.nd
    · obtain ⟨q, hq, rfl⟩ := List.mem_map.mp hp
      have := h.bd q hq
      split
      · exact hv
      · exact this
  · rename_i hn
    refine ⟨?_, fun p hp => ?_⟩
    · rw [List.map_append, List.nodup_append]
      refine ⟨h.nd, by simp, fun a ha b hb e => ?_⟩
      subst e
      have : a = z := by simpa using hb
      subst this
      obtain ⟨p, hp, e⟩ := List.mem_map.mp ha
      exact hn (List.any_eq_true.mpr ⟨p, hp, decide_eq_true e⟩)
    · rcases List.mem_append.mp hp with hp | hp
      · exact h.bd p hp
      · rw [List.mem_singleton.mp hp]; exact hv
theorem RmOk.drop {r : Rm} (h : RmOk r) (z : Str) : RmOk (dropR r z) :=
  ⟨h.nd.sublist (List.filter_sublist.map _), fun p hp => h.bd p (List.mem_filter.mp hp).1⟩
theorem RmOk.nil : RmOk [] := ⟨List.nodup_nil, fun p hp => by cases hp⟩
theorem getR_mem {r : Rm} {z : Str} {v : Int} (h : getR r z = some v) : (z, v) ∈ r := by
  unfold getR at h
  cases e : r.find? fun p => decide (p.1 = z) with
  | none => rw [e] at h; cases h
  | some p =>
    rw [e] at h
    have h1 := List.mem_of_find?_eq_some e
    have h2 : p.1 = z := by simpa using List.find?_some e
    have h3 : p.2 = v := Option.some.inj h
    rw [← h2, ← h3]
    exact h1
theorem RmOk.get {r : Rm} (h : RmOk r) {z : Str} {v : Int} (e : getR r z = some v) : v.natAbs ≤ 1000000000 := h.bd _ (getR_mem e)
/-- a dict is the same as itself -/
theorem same_self {r : Rm} (h : RmOk r) : sameDict (roomK r) (roomK r) = true := by
  unfold sameDict
  rw [Bool.and_eq_true]
  refine ⟨beq_self_eq_true _, List.all_eq_true.mpr fun p hp => ?_⟩
  obtain ⟨q, hq, rfl⟩ := List.mem_map.mp hp
  have hg : getR r q.1 = some q.2 := by
    have nd := h.nd
    clear h hp
    unfold getR
    induction r with
    | nil => cases hq
    | cons x r ih =>
      rw [List.map_cons, List.nodup_cons] at nd
      rcases List.mem_cons.mp hq with rfl | hq
      · rw [List.find?_cons_of_pos (by rw [decide_eq_true_eq])]
        rfl
      · have : x.1 ≠ q.1 := fun e => nd.1 (List.mem_map.mpr ⟨q, hq, e.symm⟩)
        rw [List.find?_cons_of_neg (by rw [decide_eq_true_eq]; exact this)]
        exact ih hq nd.2
  show (match valA (roomK r) (rk q.1) with | some u => eqA (.int q.2) u | none => false) = true
  rw [roomK_val, hg]
  exact beq_self_eq_true q.2
theorem room_ok {S : Sto} {b : Nat} (hb : Bag S b) : Ok (den_Lroom [.ref b] S) fun v S' => ∃ r rm, v = .ref r ∧ S.length ≤ r ∧ S'[r]? = some (.dict (roomK rm)) ∧ RmOk rm ∧ rm.length ≤ 4 ∧ Fr [b] S S' ∧ Bag S' b := by
  have hlt := hb.lt
  have hz : sizeLine = 16777216 := sizeLine_eq
  (unfold den_Lroom; refine def_ok rfl ?_)
  simp_arith [Go_for, names_ok, Ok_lst (xs := names4.map .str) (by decide)]
  have hL : ((S ++ [AO.dict []]) ++ [AO.lst (names4.map .str)])[S.length + 1]? = some (.lst (names4.map .str)) := by
    have := app_new (S := S ++ [AO.dict []]) (o := .lst (names4.map .str))
    rw [app_len] at this
    exact this
  rw [app_len, Ok_walkL hL]
  have hneS : S.length ∉ [b] := by simp; omega
  have hneL : S.length + 1 ∉ [b] := by simp; omega
  refine loopL_ok (xs := names4.map .str) (fun k η S2 => ∃ x2 x3 rm, η = [some (.ref b), some (.ref S.length), x2, x3] ∧ Fr [b] S S2 ∧ Bag S2 b ∧ S2[S.length]? = some (.dict (roomK rm)) ∧ S2[S.length + 1]? = some (.lst (names4.map .str)) ∧ RmOk rm ∧ rm.length ≤ k)
    (fun k η S2 ⟨_, _, _, _, _, _, _, h, _⟩ => h)
    ⟨_, _, [], rfl, (Fr.app _).more, (hb.app).app, app_get app_new, hL, RmOk.nil, Nat.le_refl _⟩ (fun k x η S2 hx ⟨x2, x3, rm, e, f2, hb2, hd2, hl2, ok, hlen⟩ => ?_) fun η S2 ⟨x2, x3, rm, e, f2, hb2, hd2, hl2, ok, hlen⟩ => ?_
  · subst e
    have hk : k < 4 := by
      have := (List.getElem?_eq_some_iff.mp hx).1
      simpa [names4] using this
    obtain ⟨z, hz', rfl⟩ := List.mem_map.mp (mem_get hx)
    simp_arith []
    refine (take_ok hb2 (by decide) (by decide)).imp fun v S3 ⟨d, e, hd, f3, hb3⟩ => ?_
    subst e
    simp_arith []
    split
    · refine (take_ok hb3 (by decide) (by decide)).imp fun v S4 ⟨d4, e, hd4, f4, hb4⟩ => ?_
      subst e
      simp_arith [Ok_pow (i := 10) (j := 9) ⟨by decide, by decide, by decide⟩]
      refine (take_ok hb4 (by decide) (by decide)).imp fun v S5 ⟨d5, e, hd5, f5, hb5⟩ => ?_
      subst e
      simp_arith []
      rw [Ok_lst (by simp)]
      refine pick_ok hb5.app fun d6 v S6 hv f6 hb6 => ?_
      have : ∃ j : Nat, v = .int j ∧ j < 4 := by
        have hv := mem_get hv
        simp only [List.mem_cons, List.not_mem_nil, or_false] at hv
        rcases hv with rfl | rfl | rfl | rfl | rfl | rfl | rfl
        · exact ⟨0, rfl, by decide⟩
        · exact ⟨0, rfl, by decide⟩
        · exact ⟨0, rfl, by decide⟩
        · exact ⟨0, rfl, by decide⟩
        · exact ⟨1, rfl, by decide⟩
        · exact ⟨2, rfl, by decide⟩
        · exact ⟨3, rfl, by decide⟩
      obtain ⟨j, rfl, hj⟩ := this
      have hM : S6[S5.length]? = some (.lst [.int d4, .int d5, .int 0, .int (10 ^ (9 : Int).toNat)]) := f6.get app_new (by have := hb5.lt; simp; omega)
      have hw : ∃ wi : Int, [AV.int d4, .int d5, .int 0, .int (10 ^ (9 : Int).toNat)][j]? = some (.int wi) ∧ wi.natAbs ≤ 1000000000 := by
        have : (10 : Int) ^ (9 : Int).toNat = 1000000000 := by decide
        rw [this] at hd5 ⊢
        match j, hj with
        | 0, _ => exact ⟨d4, rfl, by omega⟩
        | 1, _ => exact ⟨d5, rfl, by omega⟩
        | 2, _ => exact ⟨0, rfl, by decide⟩
        | 3, _ => exact ⟨1000000000, rfl, by decide⟩
      obtain ⟨wi, hew, hwi⟩ := hw
      rw [Ok_ixL hM (atI_nat hew)]
      simp_arith []
      refine pick_ok hb6 fun d7 v S7 hv f7 hb7 => ?_
      have : ∃ c : Int, v = .int c ∧ (c = 1 ∨ c = -1) := by
        have hv := mem_get hv
        simp only [List.mem_cons, List.not_mem_nil, or_false] at hv
        rcases hv with rfl | rfl | rfl
        · exact ⟨1, rfl, .inl rfl⟩
        · exact ⟨1, rfl, .inl rfl⟩
        · exact ⟨-1, rfl, .inr rfl⟩
      obtain ⟨c, rfl, hc⟩ := this
      have f27 := (((f3.trans f4).trans f5).more.trans f6).trans f7
      have hd7 := f27.get hd2 hneS
      have hl7 := f27.get hl2 hneL
      rw [Ok_mul (.inl (by omega))]
      simp_arith []
      rw [putS_dct (k := rk z) hd7 rfl (by unfold roomK; rw [List.length_map]; omega), roomK_put]
      refine ⟨_, _, putR rm z (wi * c), rfl, (f2.trans f27).loc (Nat.le_refl _), hb7.on (Fr.set _ _) (by simp; omega), set_same (lt_of hd7), set_other hl7 (by omega), ok.put z (by rcases hc with rfl | rfl <;> omega), ?_⟩
      exact Nat.le_trans (putR_len _ _ _) (by omega)
    · exact ⟨_, _, rm, rfl, f2.trans f3, hb3, f3.get hd2 hneS, f3.get hl2 hneL, ok, by omega⟩
  · subst e
    simp_arith []
    exact ⟨_, rm, rfl, Nat.le_refl _, hd2, ok, by simpa [names4] using hlen, f2, hb2⟩

set_option Elab.async false
set_option linter.all false
set_option maxRecDepth 100000
set_option maxHeartbeats 4000000
/-! Q4: some rooms; the bag. -/
open PySem PySem.Spec PyProof.Rows L2 TL
/-- a dict of the store that is a room -/
def IsRm (S : Sto) (r : Nat) (rm : Rm) : Prop := S[r]? = some (.dict (roomK rm)) ∧ RmOk rm ∧ rm.length ≤ 4
theorem IsRm.on {S S' : Sto} {r : Nat} {rm : Rm} {W : List Nat} (h : IsRm S r rm) (f : Fr W S S') (hn : r ∉ W) : IsRm S' r rm := ⟨f.get h.1 hn, h.2⟩
theorem IsRm.lt {S : Sto} {r : Nat} {rm : Rm} (h : IsRm S r rm) : r < S.length := lt_of h.1
theorem few_ok {S : Sto} {b : Nat} (hb : Bag S b) : Ok (den_Lfew_rooms [.ref b] S) fun v S' => ∃ l, ∃ rs : List Nat, v = .ref l ∧ S.length ≤ l ∧ S'[l]? = some (.lst (rs.map .ref)) ∧ rs.length = 3 ∧ (∀ r ∈ rs, S.length ≤ r ∧ ∃ rm, IsRm S' r rm) ∧ Fr [b] S S' ∧ Bag S' b := by
  have hlt := hb.lt
  (unfold den_Lfew_rooms; refine def_ok rfl ?_)
  simp_arith []
  refine (room_ok hb).imp fun v S1 ⟨r1, m1, e, l1, h1, ok1, n1, f1, hb1⟩ => ?_
  subst e
  simp_arith []
  refine (room_ok hb1).imp fun v S2 ⟨r2, m2, e, l2, h2, ok2, n2, f2, hb2⟩ => ?_
  subst e
  have hle1 := f1.le
  have hle2 := f2.le
  rw [Ok_lst (by simp)]
  refine ⟨_, [r1, r2, S2.length], rfl, by rw [app_len]; omega, app_new, rfl, fun r hr => ?_, ((f1.trans f2).more).more, hb2.app.app⟩
  simp only [List.mem_cons, List.not_mem_nil, or_false] at hr
  rcases hr with rfl | rfl | rfl
  · exact ⟨l1, m1, app_get (app_get (f2.get h1 (by simp; omega))), ok1, n1⟩
  · exact ⟨by omega, m2, app_get (app_get h2), ok2, n2⟩
  · exact ⟨by omega, [], app_get app_new, RmOk.nil, by simp⟩
theorem bag_ok {S : Sto} {ns : List Int} {k : Nat} (hk : k < 1000) : Ok (den_Lbag [.rl ns, .int k] S) fun v S' => ∃ b, v = .ref b ∧ S.length ≤ b ∧ Bag S' b ∧ Fr [] S S' := by
  (unfold den_Lbag; refine def_ok rfl ?_)
  have hm : (2147483647 : Int) ≠ 0 := by decide
  have fin : ∀ (c g : Int), 0 ≤ g → Ok (aLst [AV.int 2147483647, AV.int 2147483629, AV.int 2147483587, AV.int 2147483579, AV.int 2147483563, AV.int 2147483549, AV.int 2147483543, AV.int 2147483497] S) (fun v S1 => Ok (aMod (.int c) (.int 2147483647) S1) fun u S1 => Ok (aMul u (.int 48611) S1) fun u S1 => Ok (aMul (.int 90007) (.int k) S1) fun u2 S1 => Ok (aMul u2 (.int k) S1) fun u3 S1 => Ok (aAdd u u3 S1) fun u S1 => Ok (aMul (.int 6133) (.int k) S1) fun w S1 => Ok (aAdd u w S1) fun u S1 => Ok (aAdd u (.int 4099) S1) fun u S1 => Ok (aMod (.int k) (.int 8) S1) fun w S1 => Ok (aIx v w S1) fun w S1 => Ok (aMod u w S1) fun x S1 => Ok (aLst [.int g, x] S1) fun v S' => ∃ b, v = .ref b ∧ S.length ≤ b ∧ Bag S' b ∧ Fr [] S S') := by
    intro c g g0
    rw [Ok_lst (by simp)]
    have r0 := Int.fmod_nonneg_of_pos c (b := 2147483647) (by decide)
    have r1 := Int.fmod_lt_of_pos c (b := 2147483647) (by decide)
    rw [Ok_mod hm, Ok_mul (.inr (by decide)), Ok_mul (.inl (by decide)), Ok_mul (.inr (by omega)), Ok_add, Ok_mul (.inl (by decide)), Ok_add, Ok_add, Ok_mod (by decide)]
    have d0 := Int.fmod_nonneg_of_pos (k : Int) (b := 8) (by decide)
    have d1 := Int.fmod_lt_of_pos (k : Int) (b := 8) (by decide)
    obtain ⟨d, ed, hd⟩ := nat_of d0 d1
    rw [ed]
    have hp : ∃ p : Int, [AV.int 2147483647, AV.int 2147483629, AV.int 2147483587, AV.int 2147483579, AV.int 2147483563, AV.int 2147483549, AV.int 2147483543, AV.int 2147483497][d]? = some (.int p) ∧ 0 < p ∧ p < 2147483648 := by
      match d, hd with
      | 0, _ => exact ⟨_, rfl, by decide, by decide⟩
      | 1, _ => exact ⟨_, rfl, by decide, by decide⟩
      | 2, _ => exact ⟨_, rfl, by decide, by decide⟩
      | 3, _ => exact ⟨_, rfl, by decide, by decide⟩
      | 4, _ => exact ⟨_, rfl, by decide, by decide⟩
      | 5, _ => exact ⟨_, rfl, by decide, by decide⟩
      | 6, _ => exact ⟨_, rfl, by decide, by decide⟩
      | 7, _ => exact ⟨_, rfl, by decide, by decide⟩
      | n + 8, h => omega
    obtain ⟨p, ep, p0, p1⟩ := hp
    rw [Ok_ixL app_new (atI_nat ep), Ok_mod (by omega), Ok_lst (by simp)]
    have m0 := Int.fmod_nonneg_of_pos (c.fmod 2147483647 * 48611 + 90007 * (k : Int) * k + 6133 * k + 4099) p0
    have m1 := Int.fmod_lt_of_pos (c.fmod 2147483647 * 48611 + 90007 * (k : Int) * k + 6133 * k + 4099) p0
    exact ⟨_, rfl, by rw [app_len]; omega, ⟨g, _, app_new, g0, m0, by omega⟩, (Fr.app _).more⟩
  have hpow : CPowB 10 18 := ⟨by decide, by decide, by decide⟩
  have ha : ∀ c : Int, 0 ≤ (if c < 0 then -c else c) := fun c => by split <;> omega
  simp_arith []
  by_cases hlt : (k : Int) < ns.length
  · have hk' : k < ns.length := by omega
    rw [if_pos (decide_eq_true hlt), Ok_ixR (atI_nat (List.getElem?_eq_getElem hk'))]
    simp_arith [Ok_pow hpow]
    have a0 := ha ns[k]
    generalize (if ns[k] < 0 then -ns[k] else ns[k]) = a at a0 ⊢
    split
    · exact fin _ _ a0
    · exact fin _ _ (Int.le_refl 0)
  · rw [if_neg (by rw [decide_eq_true_eq]; exact hlt)]
    simp_arith [Ok_pow hpow]
    have a0 := ha 0
    generalize (if (0 : Int) < 0 then -0 else 0) = a at a0 ⊢
    split
    · exact fin _ _ a0
    · exact fin _ _ (Int.le_refl 0)

set_option Elab.async false
set_option linter.all false
set_option maxRecDepth 100000
set_option maxHeartbeats 4000000
/-! Q5: names, atoms, sums read. -/
open PySem PySem.Spec PyProof.Rows L2 TL
theorem strIn_one (c : Nat) (z : Str) : strIn ⟨#[c]⟩ z = decide (c ∈ z.cps.toList) := (PySem.StrLaws.found_one z c)
theorem in_sign {S : Sto} (c : Nat) (z : Str) : inS S (.str ⟨#[c]⟩) (.str z) = some (decide (c ∈ z.cps.toList)) := by
  show some (strIn ⟨#[c]⟩ z) = _
  rw [strIn_one]
theorem in_strs {S : Sto} (z : Str) (ws : List Str) : inS S (.str z) (.tup (ws.map AV.str)) = some (ws.any fun y => y == z) := by
  have h : ((ws.map AV.str).all flatA) = true := List.all_eq_true.mpr fun x hx => by
    obtain ⟨w, _, rfl⟩ := List.mem_map.mp hx
    rfl
  show (if (flatA (.str z) && (ws.map AV.str).all flatA) = true then some ((ws.map AV.str).any fun y => eqA y (.str z)) else none) = _
  rw [show (flatA (.str z) && (ws.map AV.str).all flatA) = true by rw [h]; rfl, if_pos rfl, List.any_map]
  rfl
theorem in_words {S : Sto} {z : Str} : inS S (.str z) (.tup [.str "show", .str "drop", .str "if"]) = some (isWord z) := in_strs z words3
theorem in_joints {S : Sto} {z : Str} : inS S (.str z) (.tup [.str "*", .str "//"]) = some ((["*", "//"] : List Str).any fun y => y == z) := in_strs z ["*", "//"]
theorem kit_ss : kitB "str" "str" = some true := by decide +kernel
theorem kit_si : kitB "str" "int" = some false := by decide +kernel
theorem kit_ii : kitB "int" "int" = some true := by decide +kernel
theorem kit_is : kitB "int" "str" = some false := by decide +kernel
theorem kit_ib : kitB "int" "bool" = some false := by decide +kernel
theorem kit_bi : kitB "bool" "int" = some true := by decide +kernel
theorem kit_bb : kitB "bool" "bool" = some true := by decide +kernel
theorem kit_tt : kitB "tuple" "tuple" = some true := by decide +kernel
theorem kit_dd : kitB "dict" "dict" = some true := by decide +kernel
theorem kit_ll : kitB "list" "list" = some true := by decide +kernel
theorem blsA_map : ∀ bs : List Bool, blsA (bs.map .bl) = some bs
  | [] => rfl
  | b :: bs => by
    show (blsA (bs.map .bl)).map (b :: ·) = _
    rw [blsA_map bs]
    rfl
theorem Ok_allL {S : Sto} {r : Nat} {bs : List Bool} {P : AV → Sto → Prop} (h : S[r]? = some (.lst (bs.map .bl))) : Ok (aAll [.ref r] S) P = P (.bl (bs.all id)) S := by
  unfold aAll aAnyAll seqLA
  simp only [h, blsA_map]
  rfl
theorem Ok_anyL {S : Sto} {r : Nat} {bs : List Bool} {P : AV → Sto → Prop} (h : S[r]? = some (.lst (bs.map .bl))) : Ok (aAny [.ref r] S) P = P (.bl (bs.any id)) S := by
  unfold aAny aAnyAll seqLA
  simp only [h, blsA_map]
  rfl
/-- each sign of a text -/
theorem collZ_ok {S : Sto} {z : Str} {t : Tg} {de : DE} {η0 : Nv} {P : List AV → Sto → Prop} (h : Nat → AV) (hz : z.length < sizeLine)
    (step : ∀ c S1, Fr [] S S1 → ∃ η1, t.put (sgnA c) η0 = some η1 ∧ Ok (de η1 S1) fun y S2 => y = h c ∧ Fr [] S1 S2)
    (fin : ∀ S1, Fr [] S S1 → P (z.cps.toList.map h) S1) : Ok (collF (itZ z) t dYes de η0 (itZ z).n 0 [] S) P := by
  have e : itZ z = itT (z.cps.toList.map sgnA) := by
    unfold itZ itT
    rw [List.length_map, Array.length_toList]
    congr 1
    funext i _
    rw [List.getElem?_map, Array.getElem?_toList]
    rfl
  rw [e]
  refine collQ_ok (W := []) sgnA h (by rw [Array.length_toList]; exact hz) (fun q S1 _ f => step q S1 f) fin
theorem is_name_ok {S : Sto} (z : Str) : Ok (den_is_name [.str z] S) fun v S' => v = .bl (isNm z) ∧ Fr [] S S' := by
  (unfold den_is_name; refine def_ok rfl ?_)
  simp_arith [Ok_isi (u := AV.str z) (k := "str") (T := "str") rfl kit_ss, in_words]
  unfold isNm
  by_cases h1 : (1 : Int) ≤ z.length
  · rw [decide_eq_true h1]
    by_cases h2 : (z.length : Int) ≤ 4
    · rw [decide_eq_true h2]
      simp_arith []
      cases hw : isWord z with
      | true => exact ⟨by simp, Fr.refl⟩
      | false =>
        simp only [Bool.not_false]; rw [if_neg (by simp), if_neg (by simp), if_pos trivial, Ok_lc]
        simp_arith [Ok_walkS]
        refine collZ_ok (fun c => .bl (isLet c)) (by have : sizeLine = 16777216 := sizeLine_eq; omega) (fun c S1 f => ⟨_, rfl, ?_⟩) fun S1 f => ?_
        · simp only [wipeA, Tg.own, sgnA]
          simp_arith [in_sign]
          exact ⟨rfl, Fr.refl⟩
        · have e : z.cps.toList.map (fun c => AV.bl (isLet c)) = (z.cps.toList.map isLet).map .bl := by rw [List.map_map]; rfl
          rw [e, Ok_allL app_new, List.all_map]
          exact ⟨by simp [Function.comp_def], f.more⟩
    · rw [decide_eq_false h2]
      simp_arith []
      exact ⟨by simp, Fr.refl⟩
  · rw [decide_eq_false h1]
    simp_arith []
    exact ⟨by simp, Fr.refl⟩
theorem is_nw_ok {S : Sto} (z : Str) : Ok (plus den_is_number_word [.int 3] [.str z] S) fun v S' => v = .bl (isNW z) ∧ Fr [] S S' := by
  show Ok (den_is_number_word [.str z, .int 3] S) _
  (unfold den_is_number_word; refine def_ok rfl ?_)
  simp_arith []
  unfold isNW
  by_cases h1 : (1 : Int) ≤ z.length
  · rw [decide_eq_true h1]
    by_cases h2 : (z.length : Int) ≤ 3
    · rw [decide_eq_true h2]
      simp_arith []
      rw [if_neg (by decide), Ok_lc]
      simp_arith [Ok_walkS]
      refine collZ_ok (fun c => .bl (isDig c)) (by have : sizeLine = 16777216 := sizeLine_eq; omega) (fun c S1 f => ⟨_, rfl, ?_⟩) fun S1 f => ?_
      · simp only [wipeA, Tg.own, sgnA]
        simp_arith [in_sign]
        exact ⟨rfl, Fr.refl⟩
      · have e : z.cps.toList.map (fun c => AV.bl (isDig c)) = (z.cps.toList.map isDig).map .bl := by rw [List.map_map]; rfl
        rw [e, Ok_allL app_new, List.all_map]
        simp_arith []
        have e2 : z.cps.toList.all (id ∘ isDig) = z.cps.toList.all isDig := rfl
        rw [e2]
        cases ha : z.cps.toList.all isDig with
        | false =>
          rw [if_pos (by simp)]
          exact ⟨by simp, f.more⟩
        | true =>
          rw [if_neg (by simp)]
          cases h0 : z == ("0" : Str) with
          | true => exact ⟨by simp, f.more⟩
          | false =>
            rw [if_neg Bool.false_ne_true]
            have : ∃ c r, z.cps.toList = c :: r := by
              cases e : z.cps.toList with
              | nil =>
                have hl : z.length = 0 := by rw [len_tl]; unfold tl; rw [e]; rfl
                omega
              | cons c r => exact ⟨c, r, rfl⟩
            obtain ⟨c, r, ec⟩ := this
            rw [Ok_ixS (c := c) (by rw [ec]; exact atI_0)]
            simp_arith []
            rw [ec]
            exact ⟨by simp, f.more⟩
    · rw [decide_eq_false h2]
      simp_arith []
      exact ⟨by simp, Fr.refl⟩
  · rw [decide_eq_false h1]
    simp_arith []
    exact ⟨by simp, Fr.refl⟩
theorem read_atom_ok {S : Sto} {a : Atm} (h : atmOk a = true) : Ok (den_read_atom [.str (atmT a)] S) fun v S' => v = atmA a ∧ Fr [] S S' := by
  (unfold den_read_atom; refine def_ok rfl ?_)
  simp_arith []
  refine (is_name_ok _).imp fun v S1 ⟨e, f1⟩ => ?_
  subst e
  simp_arith []
  cases a with
  | nm z =>
    rw [show isNm (atmT (.nm z)) = true from h]
    simp_arith []
    exact ⟨rfl, f1⟩
  | num n =>
    obtain ⟨h1, h2, h3, h4, _⟩ := num_facts n (of_decide_eq_true h)
    rw [show isNm (atmT (.num n)) = false from h1]
    simp_arith []
    refine (is_nw_ok _).imp fun v S2 ⟨e, f2⟩ => ?_
    subst e
    rw [show isNW (atmT (.num n)) = true from h2]
    simp_arith []
    unfold aInt
    have h4' : (atmT (.num n)).length ≤ 640 := Nat.le_trans h4 (by decide)
    have h3' : PySem.intText? (atmT (.num n)) = some ((n : Nat) : Int) := h3
    simp only [h3', if_pos h4']
    exact ⟨rfl, f1.trans f2⟩

set_option Elab.async false
set_option linter.all false
set_option maxRecDepth 100000
set_option maxHeartbeats 4000000
/-! Q6: sums read. -/
open PySem PySem.Spec PyProof.Rows L2 TL
theorem rg2 : ∀ n : Nat, n ≤ 8 → (2 : Int) ≠ 0 ∧ (2 : Int).natAbs < 1073741824 ∧ Builtin.Range.small 0 (2 * (n : Int)) 2 = true ∧ Builtin.Range.rangeSize 0 (2 * (n : Int)) 2 = n := by decide +kernel
theorem headNeg_words {s : Sm} (h : SmOk s) : if headNeg s then wordsS s = flatM (smM s) ∧ ∃ r, wordsS s = ("-" : Str) :: r else flatM (smM s) = ("+" : Str) :: wordsS s ∧ ∃ (w : Str) (r : List Str), wordsS s = w :: r ∧ w ≠ ("-" : Str) := by
  cases s with
  | nil => exact absurd rfl h.ne
  | cons p r =>
    have hp := h.ok p List.mem_cons_self
    unfold prdOk at hp
    simp only [Bool.and_eq_true] at hp
    by_cases hn : p.neg = true
    · have e : headNeg (p :: r) = true := hn
      rw [e, if_pos rfl]
      have e1 : wordsS (p :: r) = flatM (smM (p :: r)) := by unfold wordsS; rw [e, if_pos rfl]
      refine ⟨e1, (flatM (smM (p :: r))).tail, ?_⟩
      rw [e1]
      show sgT p.neg :: _ = _
      rw [hn]
      rfl
    · have e : headNeg (p :: r) = false := Bool.eq_false_iff.mpr hn
      rw [e, if_neg Bool.false_ne_true]
      have e1 : wordsS (p :: r) = (flatM (smM (p :: r))).tail := by unfold wordsS; rw [e, if_neg Bool.false_ne_true]
      have e2 : flatM (smM (p :: r)) = sgT p.neg :: (flatM (smM (p :: r))).tail := rfl
      refine ⟨?_, atmT p.fst, (flatM (smM (p :: r))).tail.tail, ?_, fun q => ?_⟩
      · rw [e1]
        rw [show sgT p.neg = "+" by rw [show p.neg = false from e]; rfl] at e2
        exact e2
      · rw [e1]; rfl
      · exact atm_no45 hp.1 (by rw [q]; decide +kernel)
section
variable {S : Sto} {P : AV → Sto → Prop}
theorem Ok_split {a b : Str} {zs : List Str} (h1 : (b.length == 0) = false) (h2 : a.length ≤ 100000) (h3 : b.cps.all (· < 256) = true) (hz : spl (tl b) 0 [] (tl a) = zs.map tl) : Ok (aSplit (.str a) [.str b] S) P = P (.ref S.length) (S ++ [.lst (zs.map .str)]) := by
  unfold aSplit
  simp only [if_pos (show (b.length == 0) = false ∧ a.length + 2 ≤ sizeLine ∧ b.cps.all (· < 256) = true from ⟨h1, by have : sizeLine = 16777216 := sizeLine_eq; omega, h3⟩), hz]
  rw [List.map_map]
  rfl
theorem Ok_rng2n {n : Nat} {P : AIt → Sto → Prop} (h : n ≤ 8) : Ok (aRng3 [.int 0, .int (2 * (n : Int)), .int 2] S) P = P (itR 0 2 n) S := by
  obtain ⟨h1, h2, h3, h4⟩ := rg2 n h
  unfold aRng3
  simp only [if_pos (show (2 : Int) ≠ 0 ∧ (2 : Int).natAbs < 1073741824 ∧ Builtin.Range.small 0 (2 * (n : Int)) 2 = true from ⟨h1, h2, h3⟩), h4, Int.toNat_natCast]
  rfl
end
local macro_rules
  | `(tactic| simp_arith only [$ts,*]) => `(tactic| simp_arith [Bool.not_true, Bool.not_false, Go_for, Ok_walkT, Ok_walkR, Ok_walkS, Ok_lc, wipeA, Tg.own, $ts,*])
theorem Go.mid {d u : DS} {η : Nv} {S : Sto} {N B C : Nv → Sto → Prop} {T : AV → Sto → Prop} (M : Nv → Sto → Prop) (h : Go (d η S) M T B C) (k : ∀ η S, M η S → Go (u η S) N T B C) : Go (dSeq d u η S) N T B C := by
  rw [Go_seq]
  exact h.imp k (fun _ _ h => h) (fun _ _ h => h) fun _ _ h => h
def pairMA (q : Mk2 × Atm) : AV := .tup [.str (mkT q.1), .str (atmT q.2)]
/-- places 2k, 2k + 1 -/
theorem collP_ok {S : Sto} {n : Nat} {t : Tg} {de : DE} {η0 : Nv} {P : List AV → Sto → Prop} (h : Nat → AV) (hz : n ≤ 1000)
    (step : ∀ k S1, k < n → Fr [] S S1 → ∃ η1, t.put (.int (2 * (k : Nat))) η0 = some η1 ∧ Ok (de η1 S1) fun y S2 => y = h k ∧ Fr [] S1 S2)
    (fin : ∀ S1, Fr [] S S1 → P ((List.range n).map h) S1) : Ok (collF (itR 0 2 n) t dYes de η0 (itR 0 2 n).n 0 [] S) P := by
  have hs : sizeLine = 16777216 := sizeLine_eq
  refine coll_ok (n := n) (fun k acc S1 => Fr [] S S1 ∧ acc = (List.range k).map h) rfl ⟨Fr.refl, rfl⟩ (fun k acc S1 hk ⟨h1, h2⟩ => ?_) fun acc S1 ⟨h1, h2⟩ => ⟨?_, by rw [h2]; exact fin S1 h1⟩
  · obtain ⟨η1, e1, h4⟩ := step k S1 hk h1
    refine ⟨.int (2 * (k : Nat)), η1, ?_, e1, ?_⟩
    · unfold itR
      simp only [if_pos hk, Int.zero_add, Int.mul_comm]
    · rw [show dYes η1 S1 = .ok true S1 from rfl, Ok_ok, if_pos rfl]
      refine h4.imp fun y S2 ⟨h5, h6⟩ => ⟨by rw [h2]; simp; omega, h1.trans h6, ?_⟩
      rw [h2, h5, List.range_succ, List.map_append]
      rfl
  · unfold itR
    simp only [Nat.lt_irrefl, if_false]
theorem atI_mapN {α β : Type} {xs : List α} {f : α → β} {k : Nat} {x : α} (h : xs[k]? = some x) : atI (xs.map f) ((k : Nat) : Int) = some (f x) := atI_nat (by rw [List.getElem?_map, h]; rfl)
theorem marked_ok {S : Sto} {s : Sm} (h : SmOk s) : Ok (den_marked_words [.str (sumT s)] S) fun v S' => ∃ r : Nat, v = .ref r ∧ S.length ≤ r ∧ S'[r]? = some (.lst ((smM s).map pairMA)) ∧ Fr [] S S' := by
  have hl := sumT_len h
  have hw := headNeg_words h
  have hn : (flatM (smM s)).length = 2 * smN s := by rw [flatM_length, smM_length]
  have h8 := h.n
  (unfold den_marked_words; refine def_ok rfl ?_)
  refine Go.mid (fun η1 S1 => ∃ L, η1 = [some (.str (sumT s)), some (.ref L), none] ∧ S1[L]? = some (.lst ((wordsS s).map .str)) ∧ Fr [] S S1) ?_ fun η1 S1 ⟨L, e, hL, f1⟩ => ?_
  · simp_arith []
    rw [Ok_split (zs := wordsS s) (by decide +kernel) (by omega) (by decide +kernel) (by rw [show tl (Str.ofString " ") = [32] by decide +kernel]; exact spl_sumT h)]
    exact ⟨_, rfl, app_new, Fr.app _⟩
  subst e
  refine Go.mid (fun η1 S1 => ∃ L, η1 = [some (.str (sumT s)), some (.ref L), none] ∧ S1[L]? = some (.lst ((flatM (smM s)).map .str)) ∧ Fr [] S S1) ?_ fun η1 S1 ⟨L, e, hL, f1⟩ => ?_
  · simp_arith []
    cases hh : headNeg s with
    | true =>
      rw [hh, if_pos rfl] at hw
      obtain ⟨e1, r, e2⟩ := hw
      rw [Ok_ixL hL (by rw [e2]; exact atI_0)]
      simp_arith [show (("-" : Str) == ("-" : Str)) = true by decide +kernel]
      exact ⟨L, rfl, by rw [← e1]; exact hL, f1⟩
    | false =>
      rw [hh, if_neg Bool.false_ne_true] at hw
      obtain ⟨e1, u, r, e2, hu⟩ := hw
      rw [Ok_ixL hL (by rw [e2]; exact atI_0)]
      simp_arith [show (u == ("-" : Str)) = false from beq_false_of_ne hu]
      rw [Ok_lst (by simp)]
      rw [Ok_addL (app_new) (app_get hL) (by rw [List.length_map]; have : (wordsS s).length ≤ 16 := by { have := congrArg List.length e1; rw [hn, List.length_cons] at this; omega }; exact small_le (by simp; omega))]
      simp_arith []
      exact ⟨_, rfl, by rw [app_new, e1]; rfl, f1.more.more⟩
  · subst e
    have hlen : ((flatM (smM s)).map AV.str).length = 2 * smN s := by rw [List.length_map, hn]
    simp_arith [Ok_lenL hL, hlen]
    rw [Ok_mul (by decide)]
    simp_arith []
    rw [if_neg (by simp; omega)]
    simp_arith [Ok_lenL hL, hlen]
    rw [Ok_mod (by decide)]
    simp_arith []
    rw [if_neg (by simp), Ok_lc]
    simp_arith [Ok_lenL hL, hlen]
    rw [show ((2 * smN s : Nat) : Int) = 2 * (smN s : Int) by omega, Ok_rng2n h8]
    refine collP_ok (fun k => match (smM s)[k]? with | some q => pairMA q | none => .non) (by omega) (fun k S2 hk f2 => ⟨_, rfl, ?_⟩) fun S2 f2 => ?_
    · have hk' : k < (smM s).length := by rw [smM_length]; exact hk
      obtain ⟨a1, a2⟩ := flatM_at (smM s) k _ (List.getElem?_eq_getElem hk')
      have g := f2.get hL (by simp)
      simp only [wipeA, Tg.own]
      simp_arith []
      rw [Ok_ixL g (by rw [show (2 * (k : Int)) = ((2 * k : Nat) : Int) by omega]; exact atI_mapN a1)]
      simp_arith []
      rw [Ok_ixL g (by rw [show (2 * (k : Int) + 1) = ((2 * k + 1 : Nat) : Int) by omega]; exact atI_mapN a2)]
      simp_arith []
      rw [List.getElem?_eq_getElem hk']
      exact ⟨rfl, Fr.refl⟩
    · refine ⟨_, rfl, Nat.le_trans f1.le f2.le, ?_, (f1.trans f2).more⟩
      rw [app_new]
      congr 2
      refine List.ext_getElem? fun k => ?_
      rw [List.getElem?_map, List.getElem?_map]
      by_cases hk : k < smN s
      · have hk' : k < (smM s).length := by rw [smM_length]; exact hk
        rw [List.getElem?_range hk, List.getElem?_eq_getElem hk']
        simp only [Option.map_some, List.getElem?_eq_getElem hk']
      · rw [List.getElem?_eq_none (by simp; omega), List.getElem?_eq_none (by rw [smM_length]; omega)]
        rfl

/-! ### the products as they grow -/
def prdZ (z : Prd × Nat) : AV := .tup [.int (sgI z.1.neg), atmA z.1.fst, .ref z.2]
structure Pz (S : Sto) (L : Nat) (zs : List (Prd × Nat)) : Prop where
  lst : S[L]? = some (.lst (zs.map prdZ))
  at_ : ∀ z ∈ zs, L < z.2 ∧ S[z.2]? = some (.lst (z.1.prs.map prA))
  inc : zs.Pairwise fun a b => a.2 < b.2
theorem Pz.on {S S' : Sto} {L : Nat} {zs : List (Prd × Nat)} (h : Pz S L zs) (f : Fr [] S S') : Pz S' L zs :=
  ⟨f.get h.lst (by simp), fun z hz => ⟨(h.at_ z hz).1, f.get (h.at_ z hz).2 (by simp)⟩, h.inc⟩
theorem stepP_ne : ∀ (l : List (Mk2 × Atm)) (acc : Sm), acc ≠ [] → l.foldl stepP acc ≠ []
  | [], acc, h => h
  | (m, a) :: r, acc, h => stepP_ne r _ (by
    cases m with
    | sg b => exact fun e => by simp [stepP] at e
    | jn b =>
      rcases List.eq_nil_or_concat acc with e | ⟨x, y, e⟩
      · exact absurd e h
      · subst e
        rw [List.concat_eq_append, stepP_jn]
        simp)
theorem fold_some {s : Sm} {k : Nat} {b : Bool} {a : Atm} (h : (smM s)[k]? = some (.jn b, a)) : ((smM s).take k).foldl stepP [] ≠ [] := by
  cases s with
  | nil => simp [smM] at h
  | cons p r =>
    have e : smM (p :: r) = (.sg p.neg, p.fst) :: ((p.prs.map fun q => (Mk2.jn q.1, q.2)) ++ smM r) := rfl
    rw [e] at h ⊢
    cases k with
    | zero => cases h
    | succ k =>
      rw [List.take_succ_cons, List.foldl_cons]
      exact stepP_ne _ _ (by simp [stepP])
theorem sgn_in {S : Sto} (b : Bool) : inS S (.str (sgT b)) (.kd kd_SIGNS) = some true := by
  show (kd_SIGNS.lookup (sgT b)).map (·.isSome) = some true
  cases b <;> decide +kernel
theorem sgn_at {S : Sto} {P : AV → Sto → Prop} (b : Bool) : Ok (aIx (.kd kd_SIGNS) (.str (sgT b)) S) P = P (.int (sgI b)) S := by
  cases b
  · exact Ok_ixK (by decide +kernel)
  · exact Ok_ixK (by decide +kernel)
theorem jn_in {S : Sto} (b : Bool) : inS S (.str (jS b)) (.kd kd_SIGNS) = some false := by
  show (kd_SIGNS.lookup (jS b)).map (·.isSome) = some false
  cases b <;> decide +kernel
theorem jn_in2 {S : Sto} (b : Bool) : inS S (.str (jS b)) (.tup [.str "*", .str "//"]) = some true := by
  rw [in_joints]; cases b <;> decide +kernel
theorem read_sum_ok {S : Sto} {s : Sm} (h : SmOk s) : Ok (den_read_sum [.str (sumT s)] S) fun v S' => v = smA s ∧ Fr [] S S' := by
  have hz : sizeLine = 16777216 := sizeLine_eq
  have h8 := h.n
  have hok := okM_of h.ok
  (unfold den_read_sum; refine def_ok rfl ?_)
  rw [Go_seq]
  simp_arith [Ok_isi (u := AV.str (sumT s)) (k := "str") (T := "str") rfl kit_ss]
  simp_arith only []
  rw [Ok_lst (by simp)]
  refine (marked_ok h).imp fun v S1 ⟨r, e, hr, er, f1⟩ => ?_
  subst e
  rw [Ok_walkL er]
  have eL : S1[S.length]? = some (.lst []) := f1.get app_new (by simp)
  refine loopL_ok (fun k η S2 => ∃ x2 x3 x4 zs, η = [some (.str (sumT s)), some (.ref S.length), x2, x3, x4, none, none] ∧ Fr [] S S2 ∧ S2[r]? = some (.lst ((smM s).map pairMA)) ∧ Pz S2 S.length zs ∧ zs.map (·.1) = ((smM s).take k).foldl stepP [] ∧ zs.length ≤ k ∧ ∀ z ∈ zs, z.2 ≠ r ∧ z.1.prs.length ≤ k)
    (fun k η S2 ⟨_, _, _, _, _, _, h, _⟩ => h) ⟨_, _, _, [], rfl, (Fr.app _).trans f1, er, ⟨eL, fun z hz => (by cases hz), List.Pairwise.nil⟩, rfl, Nat.le_refl _, fun z hz => (by cases hz)⟩ (fun k x η S2 hx ⟨x2, x3, x4, zs, e, f2, er2, pz, ez, hk, hp⟩ => ?_) fun η S2 ⟨x2, x3, x4, zs, e, f2, er2, pz, ez, hk, hp⟩ => ?_
  · subst e
    rw [List.getElem?_map] at hx
    obtain ⟨q, hq, rfl⟩ := Option.map_eq_some_iff.mp hx
    have hkk : k < (smM s).length := (List.getElem?_eq_some_iff.mp hq).1
    rw [smM_length] at hkk
    have htake : (smM s).take (k + 1) = (smM s).take k ++ [q] := by rw [List.take_add_one, hq]; rfl
    have okq : atmOk q.2 = true := hok q (mem_get hq)
    have hrL : r ≠ S.length := by simp at hr; omega
    simp_arith [pairMA]
    refine (read_atom_ok okq).imp fun v S3 ⟨e, f3⟩ => ?_
    subst e
    have pz3 := pz.on f3
    have er3 := f3.get er2 (by simp)
    obtain ⟨m, a⟩ := q
    cases m with
    | sg b =>
      simp_arith [mkT, sgn_in, lstAt_of pz3.lst, Option.isSome, sgn_at]
      rw [Ok_lst (by simp)]
      simp_arith []
      rw [Ok_append (app_get pz3.lst) (by rw [List.length_map]; omega)]
      refine ⟨_, _, _, zs ++ [(⟨b, a, []⟩, S3.length)], rfl, ((f2.trans f3).more).loc (Nat.le_refl _), set_other (app_get er3) hrL, ⟨?_, fun z hz => ?_, ?_⟩, ?_, ?_, fun z hz => ?_⟩
      · rw [set_same (lt_of (app_get pz3.lst)), List.map_append]
        rfl
      · rcases List.mem_append.mp hz with hz | hz
        · obtain ⟨g1, g2⟩ := pz3.at_ z hz
          exact ⟨g1, set_other (app_get g2) (by omega)⟩
        · rw [List.mem_singleton.mp hz]
          have := lt_of pz3.lst
          exact ⟨this, set_other app_new (by show S3.length ≠ S.length; omega)⟩
      · refine List.pairwise_append.mpr ⟨pz3.inc, List.pairwise_singleton _ _, fun x hx y hy => ?_⟩
        rw [List.mem_singleton.mp hy]
        exact lt_of (pz3.at_ x hx).2
      · rw [htake, List.foldl_append, ← ez, List.map_append]
        rfl
      · rw [List.length_append]; simp; exact hk
      · rcases List.mem_append.mp hz with hz | hz
        · exact ⟨(hp z hz).1, Nat.le_succ_of_le (hp z hz).2⟩
        · rw [List.mem_singleton.mp hz]
          have := lt_of er3
          exact ⟨by show S3.length ≠ r; omega, Nat.zero_le _⟩
    | jn b =>
      have hne := fold_some hq
      rw [← ez] at hne
      rcases List.eq_nil_or_concat zs with e0 | ⟨zs', z, e0⟩
      · rw [e0] at hne; exact absurd rfl hne
      rw [List.concat_eq_append] at e0
      subst e0
      have hl3 := pz3.lst
      rw [List.map_append] at hl3
      simp_arith [mkT, jn_in, jn_in2]
      rw [Ok_ixL hl3 (atI_m1 _ _)]
      obtain ⟨g1, g2⟩ := pz3.at_ z (by simp)
      simp_arith [prdZ, lstAt_of g2, Option.isSome]
      rw [Ok_append g2 (by rw [List.length_map]; have := (hp z (by simp)).2; omega)]
      refine ⟨_, _, _, zs' ++ [(⟨z.1.neg, z.1.fst, z.1.prs ++ [(b, a)]⟩, z.2)], rfl, (f2.trans f3).loc (by omega), set_other er3 ?_, ⟨?_, fun y hy => ?_, ?_⟩, ?_, ?_, fun y hy => ?_⟩
      · exact fun e => (hp z (by simp)).1 e.symm
      · rw [set_other pz3.lst (by omega), List.map_append, List.map_append]
        rfl
      · rcases List.mem_append.mp hy with hy | hy
        · obtain ⟨g3, g4⟩ := pz3.at_ y (List.mem_append_left _ hy)
          have := (List.pairwise_append.mp pz3.inc).2.2 y hy z (by simp)
          exact ⟨g3, set_other g4 (by omega)⟩
        · rw [List.mem_singleton.mp hy]
          refine ⟨g1, ?_⟩
          rw [set_same (lt_of g2), List.map_append]
          rfl
      · have := pz3.inc
        refine List.pairwise_append.mpr ⟨(List.pairwise_append.mp this).1, List.pairwise_singleton _ _, fun x hx y hy => ?_⟩
        rw [List.mem_singleton.mp hy]
        exact (List.pairwise_append.mp this).2.2 x hx z (by simp)
      · rw [htake, List.foldl_append, ← ez, List.map_append, List.map_append]
        show _ = stepP (zs'.map (·.1) ++ [z.1]) (.jn b, a)
        rw [stepP_jn]
        rfl
      · rw [List.length_append] at hk ⊢; simp at hk ⊢; omega
      · rcases List.mem_append.mp hy with hy | hy
        · exact ⟨(hp y (List.mem_append_left _ hy)).1, Nat.le_succ_of_le (hp y (List.mem_append_left _ hy)).2⟩
        · rw [List.mem_singleton.mp hy]
          refine ⟨(hp z (by simp)).1, ?_⟩
          show (z.1.prs ++ [(b, a)]).length ≤ k + 1
          rw [List.length_append]
          exact Nat.succ_le_succ (hp z (by simp)).2
  · subst e
    rw [List.length_map, List.take_length, fold_sm, List.nil_append] at ez
    simp_arith only []
    rw [Ok_walkL pz.lst]
    refine collQL_ok (W := []) prdZ (fun z => prdA z.1) pz.lst (by simp) (by rw [List.length_map, smM_length] at hk; omega) (fun z S3 hz f3 => ⟨_, rfl, ?_⟩) fun S3 f3 => ?_
    · simp_arith only []
      rw [Ok_tupleL ((pz.on f3).at_ z hz).2]
      simp_arith []
      exact ⟨rfl, Fr.refl⟩
    · rw [Ok_tupleL app_new]
      refine ⟨?_, (f2.trans f3).more⟩
      rw [← ez, smA, List.map_map]
      rfl

set_option Elab.async false
set_option linter.all false
set_option maxRecDepth 100000
set_option maxHeartbeats 4000000
/-! Q7: rows read, cells. -/
open PySem PySem.Spec PyProof.Rows L2 TL
theorem tup_row0 (r : Row0) : ∃ xs, row0A r = .tup xs := by cases r <;> exact ⟨_, rfl⟩
theorem tup_row (r : Row) : ∃ xs, rowA r = .tup xs := by
  cases r with
  | pl r => exact tup_row0 r
  | cond t r => exact ⟨_, rfl⟩
theorem isNon_sm (s : Sm) : isNon (smA s) = false := rfl
theorem isNon_row0 (r : Row0) : isNon (row0A r) = false := by cases r <;> rfl
theorem isNon_row (r : Row) : isNon (rowA r) = false := by
  cases r with
  | pl r => exact isNon_row0 r
  | cond t r => rfl
section
variable {S : Sto} {P : AV → Sto → Prop}
theorem Ok_starts {a b : Str} {c : Bool} (h : pre (tl b) (tl a) = c) : Ok (aStarts (.str a) [.str b] S) P = P (.bl c) S := by subst h; rfl
theorem Ok_rmpre {a w r : Str} (h : a = w ++ r) : Ok (aRmPre (.str a) [.str w] S) P = P (.str r) S := by
  subst h
  unfold aRmPre
  have e : pre (tl w) (tl (w ++ r)) = true := by rw [tl_append]; exact pre_self _ _
  have e2 : mkS ((tl (w ++ r)).drop w.length) = r := by
    refine ext_tl ?_
    rw [tl_mkS, tl_append, len_tl, List.drop_left]
  simp only [if_pos e, e2]
  rfl
theorem Ok_part {y a b : Str} {s : Nat} {R : List Nat} (ey : tl y = s :: R) (h : s ∉ tl a) : Ok (aPart (.str (a ++ y ++ b)) [.str y] S) P = P (.tup [.str a, .str y, .str b]) S := by
  unfold aPart
  have e : par (tl y) [] (tl (a ++ y ++ b)) = some (tl a, tl b) := by
    rw [tl_append, tl_append, List.append_assoc, ey, par_part1 h]
    rfl
  have e0 : (y.length == 0) = false := by
    rw [len_tl, ey]
    rfl
  simp only [if_pos e0, e]
  show P (.tup [.str (mkS (tl a)), .str y, .str (mkS (tl b))]) S = _
  rw [show mkS (tl a) = a from ext_tl (tl_mkS _), show mkS (tl b) = b from ext_tl (tl_mkS _)]
end
theorem sum_or_none_ok {S : Sto} {s : Sm} (h : SmOk s) : Ok (den_sum_or_none [.str (sumT s)] S) fun v S' => v = smA s ∧ Fr [] S S' := by
  (unfold den_sum_or_none; refine def_ok rfl ?_)
  simp_arith []
  exact read_sum_ok h
theorem asc3 (a b c : Str) : a ++ b ++ c = a ++ (b ++ c) := ext_tl (by rw [tl_append, tl_append, tl_append, tl_append, List.append_assoc])
theorem plain_row_ok {S : Sto} {r : Row0} (h : Row0Ok r) : Ok (den_read_plain_row [.str (row0T r)] S) fun v S' => v = row0A r ∧ Fr [] S S' := by
  obtain ⟨w1, w2, w3⟩ := sw_row0 r h
  (unfold den_read_plain_row; refine def_ok rfl ?_)
  cases r with
  | drop n =>
    have e : row0T (.drop n) = Str.ofString "drop " ++ n := rfl
    simp_arith [Ok_starts w1, isDrop]
    rw [Ok_rmpre e]
    simp_arith []
    refine (is_name_ok n).imp fun v S1 ⟨e, f⟩ => ?_
    subst e
    rw [show isNm n = true from h]
    simp_arith []
    exact ⟨rfl, f⟩
  | shw s =>
    have e : row0T (.shw s) = Str.ofString "show " ++ sumT s := rfl
    simp_arith [Ok_starts w1, isDrop, Ok_starts w2, isShw]
    rw [Ok_rmpre e]
    simp_arith []
    refine (sum_or_none_ok h).imp fun v S1 ⟨e, f⟩ => ?_
    subst e
    simp_arith [-isNon, isNon_sm]
    exact ⟨rfl, f⟩
  | set n s =>
    have e : row0T (.set n s) = n ++ Str.ofString " = " ++ sumT s := rfl
    simp_arith [Ok_starts w1, isDrop, Ok_starts w2, isShw]
    rw [e, Ok_part (s := 32) (R := [61, 32]) (by decide +kernel) (nm_free h.1 (.inl (by decide)))]
    simp_arith []
    refine (sum_or_none_ok h.2).imp fun v S1 ⟨e, f⟩ => ?_
    subst e
    simp_arith []
    refine (is_name_ok n).imp fun v S2 ⟨e, f2⟩ => ?_
    subst e
    rw [show isNm n = true from h.1]
    simp_arith [-isNon, isNon_sm, Bool.not_false]
    exact ⟨rfl, f.trans f2⟩
theorem read_row_ok {S : Sto} {r : Row} (h : RowOk r) : Ok (den_read_row [.str (rowT r)] S) fun v S' => v = rowA r ∧ Fr [] S S' := by
  (unfold den_read_row; refine def_ok rfl ?_)
  cases r with
  | pl r =>
    have w3 : pre (tl (Str.ofString "if ")) (tl (rowT (.pl r))) = false := (sw_row0 r h).2.2
    simp_arith [Ok_starts w3, Bool.not_false]
    exact plain_row_ok h
  | cond t r =>
    have e : rowT (.cond t r) = Str.ofString "if " ++ (sumT t ++ Str.ofString ": " ++ row0T r) := by
      show Str.ofString "if " ++ sumT t ++ Str.ofString ": " ++ row0T r = _
      rw [asc3, asc3, asc3]
    have w3 : pre (tl (Str.ofString "if ")) (tl (rowT (.cond t r))) = true := by rw [e, tl_append]; exact pre_self _ _
    simp_arith [Ok_starts w3, Bool.not_true]
    rw [Ok_rmpre e, Ok_part (s := 58) (R := [32]) (by decide +kernel) (words_signs h.1 (.inl rfl))]
    simp_arith []
    refine (sum_or_none_ok h.1).imp fun v S1 ⟨e, f⟩ => ?_
    subst e
    simp_arith []
    refine (plain_row_ok h.2).imp fun v S2 ⟨e, f2⟩ => ?_
    subst e
    obtain ⟨xs, hxs⟩ := tup_row0 r
    rw [hxs]
    simp_arith [smA]
    refine ⟨?_, f.trans f2⟩
    rw [← hxs]
    rfl
theorem read_rows_ok {S : Sto} {rs : List Row} (h : RowsOk rs) : Ok (den_read_rows [.str (rowsT rs)] S) fun v S' => v = rowsA rs ∧ Fr [] S S' := by
  have hz : sizeLine = 16777216 := sizeLine_eq
  have h6 := h.n
  (unfold den_read_rows; refine def_ok rfl ?_)
  rw [Go_seq]
  simp_arith [Ok_isi (u := AV.str (rowsT rs)) (k := "str") (T := "str") rfl kit_ss]
  simp_arith only []
  rw [Ok_lst (by simp)]
  simp_arith []
  rw [Ok_split (zs := rs.map rowT) (by decide +kernel) (by have := rowsT_len h; omega) (by decide +kernel) (by rw [show tl (Str.ofString "\n") = [10] by decide +kernel]; exact spl_rowsT h)]
  have eL : (S ++ [AO.lst []] ++ [AO.lst ((rs.map rowT).map .str)])[S.length]? = some (.lst []) := app_get app_new
  have er : (S ++ [AO.lst []] ++ [AO.lst ((rs.map rowT).map .str)])[(S ++ [AO.lst []]).length]? = some (.lst ((rs.map rowT).map .str)) := app_new
  have hne : (S ++ [AO.lst []]).length ≠ S.length := by simp
  have f0 : Fr [] S (S ++ [AO.lst []] ++ [AO.lst ((rs.map rowT).map .str)]) := (Fr.app _).more
  generalize S ++ [AO.lst []] ++ [AO.lst ((rs.map rowT).map .str)] = S1 at eL er f0 ⊢
  generalize (S ++ [AO.lst []]).length = r at er hne ⊢
  rw [Ok_enum er]
  refine loopE_ok (fun k η S2 => ∃ x2 x3 x4, η = [some (.str (rowsT rs)), some (.ref S.length), x2, x3, x4] ∧ Fr [] S S2 ∧ S2[r]? = some (.lst ((rs.map rowT).map .str)) ∧ S2[S.length]? = some (.lst ((rs.take k).map rowA)))
    (fun k η S2 ⟨_, _, _, _, _, h, _⟩ => h) ⟨_, _, _, rfl, f0, er, eL⟩ (fun k x η S2 hx ⟨x2, x3, x4, e, f2, er2, e2⟩ => ?_) fun η S2 ⟨x2, x3, x4, e, f2, er2, e2⟩ => ?_
  · subst e
    rw [List.getElem?_map, List.getElem?_map] at hx
    have hkk : k < rs.length := by
      rcases Nat.lt_or_ge k rs.length with h | h
      · exact h
      · rw [List.getElem?_eq_none h] at hx; cases hx
    have hq := List.getElem?_eq_getElem hkk
    rw [hq] at hx
    obtain rfl : AV.str (rowT rs[k]) = x := Option.some.inj hx
    simp_arith []
    rw [if_pos (by simp; omega)]
    refine (read_row_ok (h.ok _ (List.getElem_mem hkk))).imp fun v S3 ⟨e, f3⟩ => ?_
    subst e
    have e3 := f3.get e2 (by simp)
    obtain ⟨xs, hxs⟩ := tup_row rs[k]
    rw [hxs]
    simp_arith [lstAt_of e3, Option.isSome]
    rw [← hxs, Ok_append e3 (by rw [List.length_map, List.length_take]; omega)]
    refine ⟨_, _, _, rfl, (f2.trans f3).loc (Nat.le_refl _), set_other (f3.get er2 (by simp)) hne, ?_⟩
    rw [set_same (lt_of e3), List.take_add_one, hq, List.map_append]
    rfl
  · subst e
    rw [List.length_map, List.length_map, List.take_length] at e2
    simp_arith []
    rw [Ok_tupleL e2]
    exact ⟨rfl, f2⟩
theorem fldS_of {cs : List Str} {f c : Str} {n : Nat} {v : AV} {fs : List (Str × AV)} {S : Sto} {P : Sto → Prop} (h : S[n]? = some (.ins c fs)) (hc : c ∈ cs) (hl : fs.length < 900) : fldS cs f (.ref n) v S P = P (S.set n (.ins c (putFA f v fs))) := by
  unfold fldS setFld
  simp only [h, if_pos (show c ∈ cs ∧ fs.length < 900 from ⟨hc, hl⟩)]
/-- a cell -/
def cellO (t : Str) (v : AV) : AO := .ins "Cell" [("text", .str t), ("rows", v)]
def IsCell (S : Sto) (c : Nat) (rs : List Row) : Prop := S[c]? = some (cellO (rowsT rs) (rowsA rs))
theorem IsCell.on {S S' : Sto} {c : Nat} {rs : List Row} {W : List Nat} (h : IsCell S c rs) (f : Fr W S S') (hn : c ∉ W) : IsCell S' c rs := f.get h hn
theorem cell_init {S : Sto} {rs : List Row} (h : RowsOk rs) : Ok (den_Cell___init__ [.ref S.length, .str (rowsT rs)] (S ++ [.ins "Cell" []])) fun r S2 => r = .non ∧ Fr [] S S2 ∧ IsCell S2 S.length rs := by
  (unfold den_Cell___init__; refine def_ok rfl ?_)
  simp_arith []
  rw [fldS_of app_new (by simp) (by simp)]
  simp_arith []
  refine (read_rows_ok h).imp fun v S2 ⟨e, f2⟩ => ?_
  subst e
  simp_arith []
  have g : ((S ++ [AO.ins "Cell" []]).set S.length (AO.ins "Cell" (putFA "text" (.str (rowsT rs)) [])))[S.length]? = some (AO.ins "Cell" (putFA "text" (.str (rowsT rs)) [])) := set_same (by simp)
  have g2 := f2.get g (by simp)
  rw [fldS_of g2 (by simp) (by simp [putFA])]
  simp_arith []
  refine ⟨trivial, (((Fr.app _).loc (Nat.le_refl _)).trans f2).loc (Nat.le_refl _), ?_⟩
  unfold IsCell
  rw [set_same (lt_of g2)]
  rfl
theorem Ok_cell {S : Sto} {rs : List Row} {dl : DL} {η : Nv} {P : AV → Sto → Prop} (h : RowsOk rs) (hd : Ok (dl η S) fun as S1 => as = [.str (rowsT rs)] ∧ ∀ S', Fr [] S1 S' → IsCell S' S1.length rs → P (.ref S1.length) S') :
    Ok (dMake "Cell" dl den_Cell___init__ η S) P := by
  rw [Ok_make]
  refine hd.imp fun as S1 ⟨e, k⟩ => ?_
  subst e
  refine (cell_init h).imp fun v S2 ⟨e, f, hc⟩ => ?_
  subst e
  exact k _ f hc

set_option Elab.async false
set_option linter.all false
set_option maxRecDepth 100000
set_option maxHeartbeats 4000000
/-! Q8: sums worked out. -/
open PySem PySem.Spec PyProof.Rows L2 TL
inductive Flt
  | lack (z : Str)
  | nought
  | great
  deriving DecidableEq
def fltA : Flt → AV
  | .lack z => .tup [.str "lack", .str z]
  | .nought => .tup [.str "nought"]
  | .great => .tup [.str "great"]
def ofltA : Option Flt → AV
  | none => .non
  | some f => fltA f
inductive Res
  | ok (i : Int)
  | no (f : Flt)
  deriving DecidableEq
def resV : Res → AV
  | .ok i => .int i
  | .no _ => .non
def resF : Res → AV
  | .ok _ => .non
  | .no f => fltA f
def resA (r : Res) : AV := .tup [resV r, resF r]
def lim (i : Int) : Res := if -1000000000 ≤ i ∧ i ≤ 1000000000 then .ok i else .no .great
theorem lim_ok {i j : Int} (h : lim i = .ok j) : j = i ∧ -1000000000 ≤ i ∧ i ≤ 1000000000 := by
  unfold lim at h
  split at h
  · rename_i hc
    cases h
    exact ⟨rfl, hc⟩
  · cases h
def atomN (rm : Rm) : Atm → Res
  | .num n => .ok n
  | .nm z => match getR rm z with
    | some i => .ok i
    | none => .no (.lack z)
def atomS : Atm → List Str
  | .num _ => []
  | .nm z => [z]
def join2 (p : Int) (mul : Bool) (x : Int) : Res := if mul then lim (p * x) else if x = 0 then .no .nought else lim (p.fdiv x)
/-- a product's rest from p on: what it is worth, and the names read -/
def prodE (rm : Rm) : Int → List (Bool × Atm) → Res × List Str
  | p, [] => (.ok p, [])
  | p, (m, a) :: r => match atomN rm a with
    | .no f => (.no f, atomS a)
    | .ok x => match join2 p m x with
      | .no f => (.no f, atomS a)
      | .ok q => ((prodE rm q r).1, atomS a ++ (prodE rm q r).2)
def prdE (rm : Rm) (p : Prd) : Res × List Str := prodE rm 1 ((true, p.fst) :: p.prs)
def sumE (rm : Rm) : Int → Sm → Res × List Str
  | t, [] => (.ok t, [])
  | t, p :: r => match (prdE rm p).1 with
    | .no f => (.no f, (prdE rm p).2)
    | .ok v => match lim (t + sgI p.neg * v) with
      | .no f => (.no f, (prdE rm p).2)
      | .ok t' => ((sumE rm t' r).1, (prdE rm p).2 ++ (sumE rm t' r).2)
theorem prodE_no {rm : Rm} {p : Int} {m : Bool} {a : Atm} {r : List (Bool × Atm)} {f : Flt} (h : atomN rm a = .no f) : prodE rm p ((m, a) :: r) = (.no f, atomS a) := by
  show (match atomN rm a with | .no f => (Res.no f, atomS a) | .ok x => _) = _
  rw [h]
theorem prodE_no2 {rm : Rm} {p x : Int} {m : Bool} {a : Atm} {r : List (Bool × Atm)} {f : Flt} (h : atomN rm a = .ok x) (h2 : join2 p m x = .no f) : prodE rm p ((m, a) :: r) = (.no f, atomS a) := by
  show (match atomN rm a with | .no f => (Res.no f, atomS a) | .ok x => match join2 p m x with | .no f => (.no f, atomS a) | .ok q => ((prodE rm q r).1, atomS a ++ (prodE rm q r).2)) = _
  rw [h]
  show (match join2 p m x with | .no f => (Res.no f, atomS a) | .ok q => ((prodE rm q r).1, atomS a ++ (prodE rm q r).2)) = _
  rw [h2]
theorem prodE_ok {rm : Rm} {p x q : Int} {m : Bool} {a : Atm} {r : List (Bool × Atm)} (h : atomN rm a = .ok x) (h2 : join2 p m x = .ok q) : prodE rm p ((m, a) :: r) = ((prodE rm q r).1, atomS a ++ (prodE rm q r).2) := by
  show (match atomN rm a with | .no f => (Res.no f, atomS a) | .ok x => match join2 p m x with | .no f => (.no f, atomS a) | .ok q => ((prodE rm q r).1, atomS a ++ (prodE rm q r).2)) = _
  rw [h]
  show (match join2 p m x with | .no f => (Res.no f, atomS a) | .ok q => ((prodE rm q r).1, atomS a ++ (prodE rm q r).2)) = _
  rw [h2]
theorem sumE_no {rm : Rm} {t : Int} {p : Prd} {r : Sm} {f : Flt} (h : (prdE rm p).1 = .no f) : sumE rm t (p :: r) = (.no f, (prdE rm p).2) := by
  show (match (prdE rm p).1 with | .no f => (Res.no f, (prdE rm p).2) | .ok v => _) = _
  rw [h]
theorem sumE_no2 {rm : Rm} {t v : Int} {p : Prd} {r : Sm} {f : Flt} (h : (prdE rm p).1 = .ok v) (h2 : lim (t + sgI p.neg * v) = .no f) : sumE rm t (p :: r) = (.no f, (prdE rm p).2) := by
  show (match (prdE rm p).1 with | .no f => (Res.no f, (prdE rm p).2) | .ok v => match lim (t + sgI p.neg * v) with | .no f => (.no f, (prdE rm p).2) | .ok t' => ((sumE rm t' r).1, (prdE rm p).2 ++ (sumE rm t' r).2)) = _
  rw [h]
  show (match lim (t + sgI p.neg * v) with | .no f => (Res.no f, (prdE rm p).2) | .ok t' => ((sumE rm t' r).1, (prdE rm p).2 ++ (sumE rm t' r).2)) = _
  rw [h2]
theorem sumE_ok {rm : Rm} {t v t' : Int} {p : Prd} {r : Sm} (h : (prdE rm p).1 = .ok v) (h2 : lim (t + sgI p.neg * v) = .ok t') : sumE rm t (p :: r) = ((sumE rm t' r).1, (prdE rm p).2 ++ (sumE rm t' r).2) := by
  show (match (prdE rm p).1 with | .no f => (Res.no f, (prdE rm p).2) | .ok v => match lim (t + sgI p.neg * v) with | .no f => (.no f, (prdE rm p).2) | .ok t' => ((sumE rm t' r).1, (prdE rm p).2 ++ (sumE rm t' r).2)) = _
  rw [h]
  show (match lim (t + sgI p.neg * v) with | .no f => (Res.no f, (prdE rm p).2) | .ok t' => ((sumE rm t' r).1, (prdE rm p).2 ++ (sumE rm t' r).2)) = _
  rw [h2]
/-! bounds of whole numbers -/
def RmB (rm : Rm) : Prop := ∀ p ∈ rm, p.2.natAbs < 2 ^ 64
theorem RmB.get {rm : Rm} (h : RmB rm) {z : Str} {v : Int} (e : getR rm z = some v) : v.natAbs < 2 ^ 64 := h _ (getR_mem e)
theorem RmOk.b {rm : Rm} (h : RmOk rm) : RmB rm := fun p hp => Nat.lt_of_le_of_lt (h.bd p hp) (by decide)
theorem lim_abs {i j : Int} (h : lim i = .ok j) : j.natAbs ≤ 1000000000 := by
  have := lim_ok h
  omega
theorem join2_abs {p x q : Int} {m : Bool} (h : join2 p m x = .ok q) : q.natAbs ≤ 1000000000 := by
  unfold join2 at h
  split at h
  · exact lim_abs h
  · split at h
    · cases h
    · exact lim_abs h
theorem atomN_abs {rm : Rm} {a : Atm} {x : Int} (hb : RmB rm) (ok : atmOk a = true) (h : atomN rm a = .ok x) : x.natAbs < 2 ^ 64 := by
  cases a with
  | num n =>
    obtain rfl : ((n : Nat) : Int) = x := by injection h
    have := of_decide_eq_true (show decide (n < 1000) = true from ok)
    omega
  | nm z =>
    have h' : (match getR rm z with | some i => Res.ok i | none => .no (.lack z)) = .ok x := h
    cases e : getR rm z with
    | none => rw [e] at h'; cases h'
    | some i =>
      rw [e] at h'
      cases h'
      exact hb.get e
def limB (i : Int) : Bool := decide (-1000000000 ≤ i ∧ i ≤ 1000000000)
theorem lim_true {i : Int} (h : limB i = true) : lim i = .ok i := if_pos (of_decide_eq_true h)
theorem lim_false {i : Int} (h : limB i = false) : lim i = .no .great := if_neg (of_decide_eq_false h)
theorem Ok_within {η : Nv} {k : Nat} {S : Sto} {P : Bool → Sto → Prop} : Ok (dNotB (bind1 (dChain aLe aLe (bind1 (dC (.int 1000000000)) aNeg) (dV k) (dC (.int 1000000000))) asB) η S) P = match η[k]? with | some (some (.int i)) => P (!limB i) S | _ => False := by
  simp_arith []
  rcases h : η[k]? with _ | _ | v
  · rfl
  · rfl
  · cases v with
    | int i =>
      show Ok (aLe (.int (-1000000000)) (.int i) S) _ = _
      simp_arith []
      by_cases h1 : (-1000000000 : Int) ≤ i
      · rw [decide_eq_true h1, if_pos rfl]
        by_cases h2 : i ≤ 1000000000
        · rw [decide_eq_true h2, show limB i = true from decide_eq_true ⟨h1, h2⟩]
        · rw [decide_eq_false h2, show limB i = false from decide_eq_false fun h => h2 h.2]
      · rw [decide_eq_false h1, if_neg Bool.false_ne_true, show limB i = false from decide_eq_false fun h => h1 h.1]
    | _ => rfl
theorem in_room {S : Sto} {u : AV} {rm : Rm} {z : Str} (h : dictAt S u = some (roomK rm)) : inS S (.str z) u = some (getR rm z).isSome := by
  unfold inS
  simp only [h]
  show some (valA (roomK rm) (rk z)).isSome = _
  rw [roomK_val]
  cases getR rm z <;> rfl
theorem Ok_room {S : Sto} {u : AV} {rm : Rm} {z : Str} {i : Int} {P : AV → Sto → Prop} (h : dictAt S u = some (roomK rm)) (e : getR rm z = some i) : Ok (aIx u (.str z) S) P = P (.int i) S :=
  Ok_ixD h (k := rk z) rfl (by rw [roomK_val, e]; rfl)
theorem dictAt_dct {S : Sto} {r : Nat} {kvs : List (Key × AV)} (h : S[r]? = some (.dict kvs)) : dictAt S (.ref r) = some kvs := by
  unfold dictAt
  simp only [h]
theorem dictAt_lck {S : Sto} {r : Nat} {kvs : List (Key × AV)} (h : S[r]? = some (.lck kvs)) : dictAt S (.ref r) = some kvs := by
  unfold dictAt
  simp only [h]
/-- a dict stays, as what else isn't written -/
theorem dictAt_on {S S' : Sto} {W : List Nat} {r : Nat} {kvs : List (Key × AV)} (h : dictAt S (.ref r) = some kvs) (f : Fr W S S') (hn : r ∉ W) : dictAt S' (.ref r) = some kvs := by
  have hl : r < S.length := by
    rcases Nat.lt_or_ge r S.length with g | g
    · exact g
    · change (match S[r]? with | some (.dict kvs) => some kvs | some (.lck kvs) => some kvs | _ => none) = some kvs at h
      rw [List.getElem?_eq_none g] at h; cases h
  change (match S[r]? with | some (.dict kvs) => some kvs | some (.lck kvs) => some kvs | _ => none) = some kvs at h
  change (match S'[r]? with | some (.dict kvs) => some kvs | some (.lck kvs) => some kvs | _ => none) = some kvs
  rw [f.at_ r hl hn]
  exact h
def allOk (l : List (Bool × Atm)) : Prop := ∀ q ∈ l, atmOk q.2 = true
theorem fltA_tup (f : Flt) : ∃ xs, fltA f = .tup xs := by cases f <;> exact ⟨_, rfl⟩
theorem product_ok {S : Sto} {a : Atm} {prs : List (Bool × Atm)} {r n : Nat} {rm : Rm} {ns : List Str} (hr : dictAt S (.ref r) = some (roomK rm)) (hb : RmB rm) (hn : S[n]? = some (.lst (ns.map .str))) (hne : r ≠ n) (hl : ns.length ≤ 1000) (hp : prs.length ≤ 100) (hok : allOk ((true, a) :: prs)) :
    Ok (den_product_in [atmA a, .tup (prs.map prA), .ref r, .ref n] S) fun v S' => v = resA (prodE rm 1 ((true, a) :: prs)).1 ∧ Fr [n] S S' ∧ S'[n]? = some (.lst ((ns ++ (prodE rm 1 ((true, a) :: prs)).2).map .str)) := by
  (unfold den_product_in; refine def_ok rfl ?_)
  simp_arith only [itemsS]
  have e0 : AV.tup [.str "*", atmA a] :: (prs.map prA ++ []) = ((true, a) :: prs).map prA := by rw [List.append_nil]; rfl
  rw [e0]
  generalize hall : (true, a) :: prs = all at hok ⊢
  have lall : all.length ≤ 101 := by rw [← hall]; simp; omega
  rw [Ok_tup (by rw [List.length_map]; omega)]
  simp_arith only []
  refine loopT_ok (fun k η S1 => ∃ x5 x6 x7 p ms, η = [some (atmA a), some (.tup (prs.map prA)), some (.ref r), some (.ref n), some (.int p), x5, x6, x7] ∧ Fr [n] S S1 ∧ S1[n]? = some (.lst ((ns ++ ms).map .str)) ∧ p.natAbs ≤ 1000000000 ∧ ms.length ≤ k ∧ prodE rm 1 all = ((prodE rm p (all.drop k)).1, ms ++ (prodE rm p (all.drop k)).2))
    ⟨_, _, _, 1, [], rfl, Fr.refl, by rw [List.append_nil]; exact hn, by decide, Nat.le_refl _, rfl⟩ (fun k x η S1 hx ⟨x5, x6, x7, p, ms, e, f1, hn1, hpb, hml, ep⟩ => ?_) fun η S1 ⟨x5, x6, x7, p, ms, e, f1, hn1, hpb, hml, ep⟩ => ?_
  · subst e
    rw [List.getElem?_map] at hx
    obtain ⟨q, hq, rfl⟩ := Option.map_eq_some_iff.mp hx
    have hk : k < all.length := (List.getElem?_eq_some_iff.mp hq).1
    have hq' : all[k] = q := (List.getElem?_eq_some_iff.mp hq).2
    obtain ⟨m, b⟩ := q
    have okb : atmOk b = true := hok _ (mem_get hq)
    have hz : sizeLine = 16777216 := sizeLine_eq
    rw [List.drop_eq_getElem_cons hk, hq'] at ep
    have hml2 : (ms ++ atomS b).length ≤ k + 1 := by
      rw [List.length_append]
      cases b with
      | num _ => exact Nat.le_succ_of_le hml
      | nm _ => exact Nat.succ_le_succ hml
    -- the mark, and what stands behind it
    obtain ⟨T, hT⟩ : ∃ T : DS, T = (dSeq (dIfS (bind1 (bind2 (dV 5) (dC (.str "*")) aEq) asB) (dSet 4 (bind2 (dV 4) (dV 7) aMul)) (dIfS (bind1 (bind2 (dV 7) (dC (.int 0)) aEq) asB) (dRt (bind1 (dCons (dC .non) (dCons (bind1 (dCons (dC (.str "nought")) dNil) aTup) dNil)) aTup)) (dSet 4 (bind2 (dV 4) (dV 7) aFdiv))))
          (dIfS (dNotB (bind1 (dChain aLe aLe (bind1 (dC (.int 1000000000)) aNeg) (dV 4) (dC (.int 1000000000))) asB)) (dRt (bind1 (dCons (dC .non) (dCons (bind1 (dCons (dC (.str "great")) dNil) aTup) dNil)) aTup)) dNx)) := ⟨_, rfl⟩
    rw [← hT]
    have rest : ∀ (x : Int) (S2 : Sto), atomN rm b = .ok x → x.natAbs < 2 ^ 64 → Fr [n] S S2 → S2[n]? = some (.lst ((ns ++ (ms ++ atomS b)).map .str)) →
        (∀ w : AV, Go (T [some (atmA a), some (.tup (prs.map prA)), some (.ref r), some (.ref n), some (.int p), some (.str (jS m)), some w, some (.int x)] S2)
          (fun η S1 => ∃ x5 x6 x7 p ms, η = [some (atmA a), some (.tup (prs.map prA)), some (.ref r), some (.ref n), some (.int p), x5, x6, x7] ∧ Fr [n] S S1 ∧ S1[n]? = some (.lst ((ns ++ ms).map .str)) ∧ p.natAbs ≤ 1000000000 ∧ ms.length ≤ k + 1 ∧ prodE rm 1 all = ((prodE rm p (all.drop (k + 1))).1, ms ++ (prodE rm p (all.drop (k + 1))).2))
          (fun v S' => v = resA (prodE rm 1 all).1 ∧ Fr [n] S S' ∧ S'[n]? = some (.lst ((ns ++ (prodE rm 1 all).2).map .str))) (fun _ _ => False)
          (fun η S1 => ∃ x5 x6 x7 p ms, η = [some (atmA a), some (.tup (prs.map prA)), some (.ref r), some (.ref n), some (.int p), x5, x6, x7] ∧ Fr [n] S S1 ∧ S1[n]? = some (.lst ((ns ++ ms).map .str)) ∧ p.natAbs ≤ 1000000000 ∧ ms.length ≤ k + 1 ∧ prodE rm 1 all = ((prodE rm p (all.drop (k + 1))).1, ms ++ (prodE rm p (all.drop (k + 1))).2))) := by
      intro x S2 ea hxb f2 hn2 w
      subst hT
      cases ej : join2 p m x with
      | no f =>
        have ep' : prodE rm 1 all = (.no f, ms ++ atomS b) := by rw [ep, prodE_no2 ea ej]
        rw [ep']
        unfold join2 at ej
        cases m with
        | true =>
          simp_arith [show (jS true == ("*" : Str)) = true by decide +kernel, Ok_mul (show CMulB p x from .inl (by omega)), ↓ Ok_within]
          cases hl : limB (p * x) with
          | true => rw [if_pos rfl, lim_true hl] at ej; cases ej
          | false =>
            rw [if_pos rfl, lim_false hl] at ej; cases ej
            exact ⟨rfl, f2, hn2⟩
        | false =>
          rw [if_neg Bool.false_ne_true] at ej
          by_cases h0 : x = 0
          · subst h0
            rw [if_pos rfl] at ej; cases ej
            simp_arith [show (jS false == ("*" : Str)) = false by decide +kernel, show ((0 : Int) == 0) = true by decide]
            exact ⟨rfl, f2, hn2⟩
          · rw [if_neg h0] at ej
            have hx0 : (x == (0 : Int)) = false := beq_false_of_ne h0
            have hd : CDivB p x := ⟨h0, hxb⟩
            simp_arith [show (jS false == ("*" : Str)) = false by decide +kernel, hx0, Ok_fdiv hd, ↓ Ok_within]
            cases hl : limB (p.fdiv x) with
            | true => rw [lim_true hl] at ej; cases ej
            | false =>
              rw [lim_false hl] at ej; cases ej
              exact ⟨rfl, f2, hn2⟩
      | ok q =>
        have ep' : prodE rm 1 all = ((prodE rm q (all.drop (k + 1))).1, (ms ++ atomS b) ++ (prodE rm q (all.drop (k + 1))).2) := by rw [ep, prodE_ok ea ej, List.append_assoc]
        have hq1 := join2_abs ej
        unfold join2 at ej
        cases m with
        | true =>
          simp_arith [show (jS true == ("*" : Str)) = true by decide +kernel, Ok_mul (show CMulB p x from .inl (by omega)), ↓ Ok_within]
          cases hl : limB (p * x) with
          | true =>
            rw [if_pos rfl, lim_true hl] at ej; cases ej
            exact ⟨_, _, _, _, _, rfl, f2, hn2, hq1, hml2, ep'⟩
          | false => rw [if_pos rfl, lim_false hl] at ej; cases ej
        | false =>
          rw [if_neg Bool.false_ne_true] at ej
          by_cases h0 : x = 0
          · rw [if_pos h0] at ej; cases ej
          · rw [if_neg h0] at ej
            have hx0 : (x == (0 : Int)) = false := beq_false_of_ne h0
            have hd : CDivB p x := ⟨h0, hxb⟩
            simp_arith [show (jS false == ("*" : Str)) = false by decide +kernel, hx0, Ok_fdiv hd, ↓ Ok_within]
            cases hl : limB (p.fdiv x) with
            | true =>
              rw [lim_true hl] at ej; cases ej
              exact ⟨_, _, _, _, _, rfl, f2, hn2, hq1, hml2, ep'⟩
            | false => rw [lim_false hl] at ej; cases ej
    cases b with
    | num c =>
      have r2 := rest c S1 rfl (atomN_abs hb okb rfl) f1 (by rw [show atomS (.num c) = [] from rfl, List.append_nil]; exact hn1) (.int c)
      simp_arith [prA, show atmA (.num c) = .int c from rfl, Ok_isi (u := AV.int c) (k := "int") (T := "str") rfl kit_is]
      exact r2.imp (fun _ _ h => h) (fun _ _ h => h) (fun _ _ h => h.elim) (fun _ _ h => h)
    | nm z =>
      have hap : (ns ++ ms).length < 100000 := by rw [List.length_append]; omega
      simp_arith [prA, show atmA (.nm z) = .str z from rfl, Ok_isi (u := AV.str z) (k := "str") (T := "str") rfl kit_ss, lstAt_of hn1, Option.isSome]
      rw [Ok_append hn1 (by rw [List.length_map]; omega)]
      have hr1 := dictAt_on hr f1 (by simpa using hne)
      have hr2 : dictAt (S1.set n (.lst ((ns ++ ms).map .str ++ [.str z]))) (.ref r) = some (roomK rm) := dictAt_on hr1 (Fr.set n _) (by simpa using hne)
      have hn2 : (S1.set n (.lst ((ns ++ ms).map .str ++ [.str z])))[n]? = some (.lst ((ns ++ (ms ++ [z])).map .str)) := by rw [set_same (lt_of hn1), ← List.append_assoc, List.map_append (l₁ := ns ++ ms)]; rfl
      have f2 : Fr [n] S (S1.set n (.lst ((ns ++ ms).map .str ++ [.str z]))) := f1.trans (Fr.set n _)
      generalize S1.set n (.lst ((ns ++ ms).map .str ++ [.str z])) = S2 at hr2 hn2 f2 ⊢
      simp_arith [in_room hr2]
      cases ez : getR rm z with
      | none =>
        have ea : atomN rm (.nm z) = .no (.lack z) := by show (match getR rm z with | some i => Res.ok i | none => .no (.lack z)) = _; rw [ez]
        simp_arith [Option.isSome, Bool.not_false]
        rw [ep, prodE_no ea]
        exact ⟨rfl, f2, hn2⟩
      | some i =>
        have ea : atomN rm (.nm z) = .ok i := by show (match getR rm z with | some i => Res.ok i | none => .no (.lack z)) = _; rw [ez]
        simp_arith [Option.isSome, Bool.not_true]
        rw [Ok_room hr2 ez]
        simp_arith []
        exact (rest i S2 ea (atomN_abs hb okb ea) f2 hn2 (.str z)).imp (fun _ _ h => h) (fun _ _ h => h) (fun _ _ h => h.elim) (fun _ _ h => h)
  · subst e
    rw [List.length_map, List.drop_length] at ep
    simp_arith []
    have ep' : prodE rm 1 all = (.ok p, ms) := by rw [ep]; unfold prodE; rw [List.append_nil]
    rw [ep']
    exact ⟨rfl, f1, hn1⟩

theorem prodE_len (rm : Rm) : ∀ (l : List (Bool × Atm)) (p : Int), (prodE rm p l).2.length ≤ l.length
  | [], p => Nat.le_refl _
  | (m, a) :: r, p => by
    have ha : (atomS a).length ≤ 1 := by cases a <;> simp [atomS]
    rw [List.length_cons]
    cases e : atomN rm a with
    | no f => rw [prodE_no e]; show (atomS a).length ≤ _; omega
    | ok x =>
      cases e2 : join2 p m x with
      | no f => rw [prodE_no2 e e2]; show (atomS a).length ≤ _; omega
      | ok q =>
        rw [prodE_ok e e2, List.length_append]
        have := prodE_len rm r q
        omega
theorem prdE_len (rm : Rm) (p : Prd) : (prdE rm p).2.length ≤ prdN p := by
  have := prodE_len rm ((true, p.fst) :: p.prs) 1
  unfold prdN
  rw [List.length_cons] at this
  show (prodE rm 1 ((true, p.fst) :: p.prs)).2.length ≤ _
  omega
theorem sumE_len (rm : Rm) : ∀ (s : Sm) (t : Int), (sumE rm t s).2.length ≤ smN s
  | [], t => Nat.zero_le _
  | p :: r, t => by
    have h1 := prdE_len rm p
    have h2 : smN (p :: r) = prdN p + smN r := rfl
    cases e : (prdE rm p).1 with
    | no f => rw [sumE_no e]; show (prdE rm p).2.length ≤ _; omega
    | ok v =>
      cases e2 : lim (t + sgI p.neg * v) with
      | no f => rw [sumE_no2 e e2]; show (prdE rm p).2.length ≤ _; omega
      | ok t' =>
        rw [sumE_ok e e2, List.length_append]
        have := sumE_len rm r t'
        omega
/-- what is new may be written -/
theorem Fr.new {W : List Nat} {S S2 : Sto} {o : AO} (f : Fr (S.length :: W) (S ++ [o]) S2) : Fr W S S2 := by
  have h := f.le
  rw [List.length_append] at h
  refine ⟨by omega, fun n hl hn => ?_⟩
  rw [f.at_ n (by rw [List.length_append]; omega) (fun hm => ?_), List.getElem?_append_left hl]
  rcases List.mem_cons.mp hm with e | hm
  · omega
  · exact hn hm
theorem worked_ok {S : Sto} {s : Sm} {r : Nat} {rm : Rm} (hs : SmOkB s) (hr : dictAt S (.ref r) = some (roomK rm)) (hb : RmB rm) :
    Ok (den_worked_out [smA s, .ref r] S) fun v S' => ∃ n : Nat, v = .tup [resV (sumE rm 0 s).1, resF (sumE rm 0 s).1, .ref n] ∧ S.length ≤ n ∧ S'[n]? = some (.lst ((sumE rm 0 s).2.map .str)) ∧ Fr [] S S' := by
  have hlt : r < S.length := by
    rcases Nat.lt_or_ge r S.length with g | g
    · exact g
    · change (match S[r]? with | some (.dict kvs) => some kvs | some (.lck kvs) => some kvs | _ => none) = _ at hr
      rw [List.getElem?_eq_none g] at hr; cases hr
  have h20 := hs.n
  (unfold den_worked_out; refine def_ok rfl ?_)
  simp_arith []
  rw [Ok_lst (by simp)]
  simp_arith only [smA]
  have hne : r ≠ S.length := by omega
  refine loopT_ok (fun k η S1 => ∃ x4 x5 x6 x7 x8 t ms, η = [some (smA s), some (.ref r), some (.ref S.length), some (.int t), x4, x5, x6, x7, x8] ∧ Fr [S.length] (S ++ [.lst []]) S1 ∧ S1[S.length]? = some (.lst (ms.map .str)) ∧ t.natAbs ≤ 1000000000 ∧ ms.length ≤ smN (s.take k) ∧ sumE rm 0 s = ((sumE rm t (s.drop k)).1, ms ++ (sumE rm t (s.drop k)).2))
    ⟨_, _, _, _, _, 0, [], rfl, Fr.refl, app_new, by decide, Nat.zero_le _, rfl⟩ (fun k x η S1 hx ⟨x4, x5, x6, x7, x8, t, ms, e, f1, hn1, htb, hml, ep⟩ => ?_) fun η S1 ⟨x4, x5, x6, x7, x8, t, ms, e, f1, hn1, htb, hml, ep⟩ => ?_
  · subst e
    rw [List.getElem?_map] at hx
    obtain ⟨p, hq, rfl⟩ := Option.map_eq_some_iff.mp hx
    have hk : k < s.length := (List.getElem?_eq_some_iff.mp hq).1
    have hq' : s[k] = p := (List.getElem?_eq_some_iff.mp hq).2
    have okp := hs.ok p (mem_get hq)
    have ok2 : allOk ((true, p.fst) :: p.prs) := by
      unfold prdOk at okp
      rw [Bool.and_eq_true, List.all_eq_true] at okp
      intro q hq
      rcases List.mem_cons.mp hq with rfl | hq
      · exact okp.1
      · exact okp.2 q hq
    have fr := fun {S2 : Sto} (f2 : Fr [S.length] S1 S2) => Fr.new (f1.trans f2)
    have hN := smN_mem (mem_get hq)
    have hpN : prdN p = 1 + p.prs.length := rfl
    have htk : smN (s.take k) ≤ smN s := by
      have e : smN s = smN (s.take k) + smN (s.drop k) := by
        unfold smN
        rw [← List.sum_append, ← List.map_append, List.take_append_drop]
      omega
    have htk1 : smN (s.take (k + 1)) = smN (s.take k) + prdN p := by
      rw [List.take_add_one, hq]
      unfold smN
      rw [List.map_append, List.sum_append]
      rfl
    rw [List.drop_eq_getElem_cons hk, hq'] at ep
    have hr1 : dictAt S1 (.ref r) = some (roomK rm) := dictAt_on (dictAt_on hr (Fr.app (W := []) _) (by simp)) f1 (by simpa using hne)
    simp_arith [prdA]
    refine (product_ok hr1 hb hn1 hne (by omega) (by omega) ok2).imp fun v S2 ⟨e, f2, hn2⟩ => ?_
    subst e
    have hml2 : (ms ++ (prdE rm p).2).length ≤ smN (s.take (k + 1)) := by
      rw [List.length_append, htk1]
      have := prdE_len rm p
      omega
    have e1 : (prodE rm 1 ((true, p.fst) :: p.prs)) = prdE rm p := rfl
    rw [e1] at hn2 ⊢
    cases ea : (prdE rm p).1 with
    | no f =>
      have ep' : sumE rm 0 s = (.no f, ms ++ (prdE rm p).2) := by rw [ep, sumE_no ea]
      obtain ⟨xs, hxs⟩ := fltA_tup f
      simp_arith [resA, resV, resF, hxs, Bool.not_false]
      refine ⟨S.length, by rw [ep', ← hxs], Nat.le_refl _, by rw [ep']; exact hn2, fr f2⟩
    | ok x =>
      have hmu : CMulB (sgI p.neg) x := .inl (by cases p.neg <;> decide)
      simp_arith [resA, resV, resF, Bool.not_true, Ok_mul hmu]
      have bad : lim (t + sgI p.neg * x) = .no .great → ∃ n, AV.tup [AV.non, AV.tup [AV.str "great"], AV.ref S.length] = AV.tup [resV (sumE rm 0 s).1, resF (sumE rm 0 s).1, AV.ref n] ∧ S.length ≤ n ∧ S2[n]? = some (.lst ((sumE rm 0 s).2.map .str)) ∧ Fr [] S S2 := by
        intro ej
        have ep' : sumE rm 0 s = (.no .great, ms ++ (prdE rm p).2) := by rw [ep, sumE_no2 ea ej]
        exact ⟨S.length, by rw [ep']; rfl, Nat.le_refl _, by rw [ep']; exact hn2, fr f2⟩
      by_cases h1 : (-1000000000 : Int) ≤ t + sgI p.neg * x
      · by_cases h2 : t + sgI p.neg * x ≤ 1000000000
        · have ej : lim (t + sgI p.neg * x) = .ok (t + sgI p.neg * x) := if_pos ⟨h1, h2⟩
          rw [decide_eq_true h1, if_pos rfl, decide_eq_true h2, if_neg (by decide)]
          exact ⟨_, _, _, _, _, _, ms ++ (prdE rm p).2, rfl, f1.trans f2, hn2, lim_abs ej, hml2, by rw [ep, sumE_ok ea ej, List.append_assoc]⟩
        · rw [decide_eq_true h1, if_pos rfl, decide_eq_false h2, if_pos (by decide)]
          exact bad (if_neg fun h => h2 h.2)
      · rw [decide_eq_false h1, if_neg Bool.false_ne_true, if_pos (by decide)]
        exact bad (if_neg fun h => h1 h.1)
  · subst e
    have fr0 := fun {S2 : Sto} (f2 : Fr [S.length] S1 S2) => Fr.new (f1.trans f2)
    rw [List.length_map, List.drop_length] at ep
    simp_arith []
    have ep' : sumE rm 0 s = (.ok t, ms) := by rw [ep]; show (Res.ok t, ms ++ []) = _; rw [List.append_nil]
    rw [ep']
    refine ⟨S.length, rfl, Nat.le_refl _, hn1, ?_⟩
    exact fr0 Fr.refl

set_option Elab.async false
set_option linter.all false
set_option maxRecDepth 100000
set_option maxHeartbeats 4000000
/-! Q9: runs. -/
open PySem PySem.Spec PyProof.Rows L2 TL
section
variable {α : Type}
def kvG (g : α → AV) (r : List (Str × α)) : List (Key × AV) := r.map fun p => (rk p.1, g p.2)
def getG (r : List (Str × α)) (z : Str) : Option α := (r.find? fun p => decide (p.1 = z)).map (·.2)
def putG (r : List (Str × α)) (z : Str) (v : α) : List (Str × α) := if (r.any fun p => decide (p.1 = z)) = true then r.map (fun p => if p.1 = z then (p.1, v) else p) else r ++ [(z, v)]
theorem kvG_val (g : α → AV) (r : List (Str × α)) (z : Str) : valA (kvG g r) (rk z) = (getG r z).map g := by
  unfold valA kvG getG
  induction r with
  | nil => rfl
  | cons p r ih =>
    rw [List.map_cons]
    by_cases h : p.1 = z
    · rw [List.find?_cons_of_pos (by rw [decide_eq_true_eq]; exact rk_inj.mpr h), List.find?_cons_of_pos (by rw [decide_eq_true_eq]; exact h)]
      rfl
    · rw [List.find?_cons_of_neg (by rw [decide_eq_true_eq]; exact fun e => h (rk_inj.mp e)), List.find?_cons_of_neg (by rw [decide_eq_true_eq]; exact h)]
      exact ih
theorem kvG_any (g : α → AV) (r : List (Str × α)) (z : Str) : ((kvG g r).any fun kv => decide (kv.1 = rk z)) = r.any fun p => decide (p.1 = z) := by
  unfold kvG
  rw [List.any_map]
  congr 1
  funext p
  show decide (rk p.1 = rk z) = _
  by_cases h : p.1 = z
  · rw [decide_eq_true (rk_inj.mpr h), decide_eq_true h]
  · rw [decide_eq_false (fun e => h (rk_inj.mp e)), decide_eq_false h]
theorem kvG_put (g : α → AV) (r : List (Str × α)) (z : Str) (v : α) : putA (kvG g r) (rk z) (g v) = kvG g (putG r z v) := by
  unfold putA putG
  rw [kvG_any]
  split
  · unfold kvG
    rw [List.map_map, List.map_map]
    refine List.map_congr_left fun p _ => ?_
    show (if rk p.1 = rk z then (rk p.1, g v) else (rk p.1, g p.2)) = (fun p => (rk p.1, g p.2)) (if p.1 = z then (p.1, v) else p)
    by_cases h : p.1 = z
    · rw [if_pos (rk_inj.mpr h), if_pos h]
    · rw [if_neg (fun e => h (rk_inj.mp e)), if_neg h]
  · unfold kvG
    rw [List.map_append]
    rfl
theorem putG_len (r : List (Str × α)) (z : Str) (v : α) : (putG r z v).length ≤ r.length + 1 := by
  unfold putG
  split
  · rw [List.length_map]; omega
  · rw [List.length_append]; exact Nat.le_refl _
theorem kvG_len (g : α → AV) (r : List (Str × α)) : (kvG g r).length = r.length := List.length_map ..
theorem keys_kvG (g : α → AV) : ∀ r : List (Str × α), keysS (kvG g r) = some (r.map (·.1))
  | [] => rfl
  | p :: r => by
    show keysS ((rk p.1, g p.2) :: kvG g r) = _
    unfold keysS
    simp only [rk, keys_kvG g r]
    rfl
end
structure Rst where
  room : Rm
  shown : List Int
  reads : List (Str × Option Int)
  chg : List (Str × Unit)
def oA : Option Int → AV
  | none => .non
  | some i => .int i
def bA (_ : Unit) : AV := .bl true
def readE (st : Rst) (ns : List Str) : List (Str × Option Int) := ns.foldl (fun rd n => if (getG st.chg n).isSome then rd else putG rd n (getR st.room n)) st.reads
def workE (st : Rst) (s : Sm) : Rst := { st with reads := readE st (sumE st.room 0 s).2 }
def changeE (st : Rst) (n : Str) (v : Option Int) : Rst :=
  { st with chg := putG st.chg n (), room := match v with
    | none => dropR st.room n
    | some i => putR st.room n i }
def follow0 (st : Rst) : Row0 → Option Flt × Rst
  | .drop n => (none, changeE st n none)
  | .set n s => match (sumE st.room 0 s).1 with
    | .no f => (some f, workE st s)
    | .ok v => (none, changeE (workE st s) n (some v))
  | .shw s => match (sumE st.room 0 s).1 with
    | .no f => (some f, workE st s)
    | .ok v => (none, { workE st s with shown := st.shown ++ [v] })
def followE (st : Rst) : Row → Option Flt × Rst
  | .pl r => follow0 st r
  | .cond t r => match (sumE st.room 0 t).1 with
    | .no f => (some f, workE st t)
    | .ok v => if v = 0 then (none, workE st t) else follow0 (workE st t) r
def runE : Rst → List Row → Option Flt × Rst
  | st, [] => (none, st)
  | st, r :: rs => match (followE st r).1 with
    | some f => (some f, (followE st r).2)
    | none => runE (followE st r).2 rs
def st0 (rm : Rm) : Rst := ⟨rm, [], [], []⟩
structure RsB (st : Rst) (L k e : Nat) : Prop where
  b : RmB st.room
  rl : st.room.length ≤ L + k
  sl : st.shown.length ≤ k
  el : st.reads.length ≤ e
  cl : st.chg.length ≤ k
theorem sumE_abs {rm : Rm} {v : Int} : ∀ {s : Sm} {t : Int}, t.natAbs ≤ 1000000000 → (sumE rm t s).1 = .ok v → v.natAbs ≤ 1000000000
  | [], t, ht, h => by cases h; exact ht
  | p :: r, t, ht, h => by
    cases e : (prdE rm p).1 with
    | no f => rw [sumE_no e] at h; cases h
    | ok w =>
      cases e2 : lim (t + sgI p.neg * w) with
      | no f => rw [sumE_no2 e e2] at h; cases h
      | ok t' =>
        rw [sumE_ok e e2] at h
        exact sumE_abs (lim_abs e2) h
theorem RmB.put {r : Rm} (h : RmB r) (z : Str) {v : Int} (hv : v.natAbs < 2 ^ 64) : RmB (putR r z v) := by
  intro p hp
  unfold putR at hp
  split at hp
  · obtain ⟨q, hq, rfl⟩ := List.mem_map.mp hp
    split
    · exact hv
    · exact h q hq
  · rcases List.mem_append.mp hp with hp | hp
    · exact h p hp
    · rw [List.mem_singleton.mp hp]; exact hv
theorem dropR_len (r : Rm) (z : Str) : (dropR r z).length ≤ r.length := List.length_filter_le _ _
theorem RsB.change {st : Rst} {L k e : Nat} (h : RsB st L k e) (n : Str) {v : Option Int} (hv : ∀ i, v = some i → i.natAbs < 2 ^ 64) : RsB (changeE st n v) L (k + 1) e := by
  refine ⟨?_, ?_, Nat.le_succ_of_le h.sl, h.el, Nat.le_trans (putG_len ..) (Nat.succ_le_succ h.cl)⟩
  · cases v with
    | none => exact fun p hp => h.b p (List.mem_filter.mp hp).1
    | some i => exact h.b.put n (hv i rfl)
  · cases v with
    | none => exact Nat.le_trans (dropR_len ..) (Nat.le_succ_of_le h.rl)
    | some i => exact Nat.le_trans (putR_len ..) (Nat.succ_le_succ h.rl)
theorem readE_len (st : Rst) : ∀ (ns : List Str), (readE st ns).length ≤ st.reads.length + ns.length := by
  have : ∀ (ns : List Str) (rd : List (Str × Option Int)), (ns.foldl (fun rd n => if (getG st.chg n).isSome then rd else putG rd n (getR st.room n)) rd).length ≤ rd.length + ns.length := by
    intro ns
    induction ns with
    | nil => intro rd; exact Nat.le_refl _
    | cons n r ih =>
      intro rd
      rw [List.foldl_cons, List.length_cons]
      refine Nat.le_trans (ih _) ?_
      split
      · omega
      · have := putG_len rd n (getR st.room n)
        omega
  exact fun ns => this ns _
theorem RsB.work {st : Rst} {L k e : Nat} (h : RsB st L k e) {s : Sm} (hs : SmOkB s) : RsB (workE st s) L k (e + 20) := by
  refine ⟨h.b, h.rl, h.sl, ?_, h.cl⟩
  have := readE_len st (sumE st.room 0 s).2
  have := sumE_len st.room s 0
  have := hs.n
  have := h.el
  show (readE st (sumE st.room 0 s).2).length ≤ _
  omega
def Row0OkB : Row0 → Prop
  | .set _ s => SmOkB s
  | .drop _ => True
  | .shw s => SmOkB s
def RowOkB : Row → Prop
  | .pl r => Row0OkB r
  | .cond t r => SmOkB t ∧ Row0OkB r
theorem Row0Ok.b {r : Row0} (h : Row0Ok r) : Row0OkB r := by
  cases r with
  | set n s => exact h.2.b
  | drop n => trivial
  | shw s => exact SmOk.b h
theorem RowOk.b {r : Row} (h : RowOk r) : RowOkB r := by
  cases r with
  | pl r => exact Row0Ok.b h
  | cond t r => exact ⟨h.1.b, h.2.b⟩
theorem RsB.f0 {st : Rst} {L k e : Nat} (h : RsB st L k e) {r : Row0} (hr : Row0OkB r) : RsB (follow0 st r).2 L (k + 1) (e + 20) := by
  cases r with
  | drop n =>
    have := h.change n (v := none) (fun i hi => by cases hi)
    exact ⟨this.b, this.rl, this.sl, Nat.le_trans this.el (Nat.le_add_right _ _), this.cl⟩
  | set n s =>
    have hw := h.work hr
    show RsB (match (sumE st.room 0 s).1 with | .no f => (some f, workE st s) | .ok v => (none, changeE (workE st s) n (some v))).2 L (k + 1) (e + 20)
    cases evl : (sumE st.room 0 s).1 with
    | no f => exact ⟨hw.b, Nat.le_succ_of_le hw.rl, Nat.le_succ_of_le hw.sl, hw.el, Nat.le_succ_of_le hw.cl⟩
    | ok v => exact hw.change n (v := some v) fun i hi => by cases hi; have := sumE_abs (by decide) evl; omega
  | shw s =>
    have hw := h.work hr
    show RsB (match (sumE st.room 0 s).1 with | .no f => (some f, workE st s) | .ok v => (none, { workE st s with shown := st.shown ++ [v] })).2 L (k + 1) (e + 20)
    cases evl : (sumE st.room 0 s).1 with
    | no f => exact ⟨hw.b, Nat.le_succ_of_le hw.rl, Nat.le_succ_of_le hw.sl, hw.el, Nat.le_succ_of_le hw.cl⟩
    | ok v => exact ⟨hw.b, Nat.le_succ_of_le hw.rl, by show (st.shown ++ [v]).length ≤ _; rw [List.length_append]; exact Nat.succ_le_succ h.sl, hw.el, Nat.le_succ_of_le hw.cl⟩
theorem RsB.follow {st : Rst} {L k e : Nat} (h : RsB st L k e) {r : Row} (hr : RowOkB r) : RsB (followE st r).2 L (k + 1) (e + 40) := by
  cases r with
  | pl r =>
    have := h.f0 hr
    exact ⟨this.b, this.rl, this.sl, Nat.le_trans this.el (by omega), this.cl⟩
  | cond t r =>
    have hw := h.work hr.1
    have wk : RsB (workE st t) L (k + 1) (e + 40) := ⟨hw.b, Nat.le_succ_of_le hw.rl, Nat.le_succ_of_le hw.sl, Nat.le_trans hw.el (by omega), Nat.le_succ_of_le hw.cl⟩
    show RsB (match (sumE st.room 0 t).1 with | .no f => (some f, workE st t) | .ok v => if v = 0 then (none, workE st t) else follow0 (workE st t) r).2 L (k + 1) (e + 40)
    cases (sumE st.room 0 t).1 with
    | no f => exact wk
    | ok v =>
      show RsB (if v = 0 then (none, workE st t) else follow0 (workE st t) r).2 L (k + 1) (e + 40)
      split
      · exact wk
      · exact hw.f0 hr.2

set_option Elab.async false
set_option linter.all false
set_option maxRecDepth 100000
set_option maxHeartbeats 4000000
/-! Q10: the runs' methods. -/
open PySem PySem.Spec PyProof.Rows L2 TL
section
variable {S : Sto} {η : Nv} {P : AV → Sto → Prop}
def popS (o k z : AV) (S : Sto) (P : AV → Sto → Prop) : Prop := match dctAt S o with
  | some (n, kvs) => match keyA k with
    | some q => match valA kvs q with
      | some v => P v (S.set n (.dict (dropA kvs q)))
      | none => P z S
    | none => False
  | none => False
theorem Ok_pop2 (do_ dk dz : DE) : Ok (dPop2 do_ dk dz η S) P = Ok (do_ η S) fun o S1 => if (dictAt S1 o).isSome = true then Ok (dk η S1) fun k S2 => Ok (dz η S2) fun z S3 => popS o k z S3 P else False := by
  unfold dPop2
  rw [Ok_bind]
  congr 1; funext o S1
  rw [Ok_ite]
  split
  · rw [Ok_bind]
    congr 1; funext k S2
    rw [Ok_bind]
    congr 1; funext z S3
    unfold popS
    cases dctAt S3 o with
    | none => rfl
    | some p =>
      obtain ⟨n, kvs⟩ := p
      cases hk : keyA k with
      | none => simp only [hk]; rfl
      | some q =>
        simp only [hk]
        cases hv : valA kvs q <;> simp only [hv] <;> rfl
  · rfl
def getS (o k : AV) (z : AV) (S : Sto) (P : AV → Sto → Prop) : Prop := match dictAt S o with
  | some kvs => match keyA k with
    | some q => P ((valA kvs q).getD z) S
    | none => False
  | none => False
theorem Ok_get1 (do_ dk : DE) : Ok (dGet1 do_ dk η S) P = Ok (do_ η S) fun o S1 => if (dictAt S1 o).isSome = true then Ok (dk η S1) fun k S2 => getS o k .non S2 P else False := by
  unfold dGet1
  rw [Ok_bind]
  congr 1; funext o S1
  rw [Ok_ite]
  split
  · rw [Ok_bind]
    congr 1; funext k S2
    unfold getS
    cases dictAt S2 o with
    | none => rfl
    | some kvs => cases hk : keyA k <;> simp only [hk] <;> rfl
  · rfl
theorem Ok_get2 (do_ dk dz : DE) : Ok (dGet2 do_ dk dz η S) P = Ok (do_ η S) fun o S1 => if (dictAt S1 o).isSome = true then Ok (dk η S1) fun k S2 => Ok (dz η S2) fun z S3 => getS o k z S3 P else False := by
  unfold dGet2
  rw [Ok_bind]
  congr 1; funext o S1
  rw [Ok_ite]
  split
  · rw [Ok_bind]
    congr 1; funext k S2
    rw [Ok_bind]
    congr 1; funext z S3
    unfold getS
    cases dictAt S3 o with
    | none => rfl
    | some kvs => cases hk : keyA k <;> simp only [hk] <;> rfl
  · rfl
theorem getS_of {α : Type} {g : α → AV} {r : List (Str × α)} {o z : AV} {k : Str} (h : dictAt S o = some (kvG g r)) : getS o (.str k) z S P = P (((getG r k).map g).getD z) S := by
  unfold getS
  simp only [h]
  show P ((valA (kvG g r) (rk k)).getD z) S = _
  rw [kvG_val]
theorem dctAt_of {n : Nat} {kvs : List (Key × AV)} (h : S[n]? = some (.dict kvs)) : dctAt S (.ref n) = some (n, kvs) := by
  unfold dctAt
  simp only [h]
theorem Ok_lit (d : DE) : Ok (dLit d η S) P = Ok (d η S) fun o S1 => match dctAt S1 o with
  | some (_, kvs) => P (.ref S1.length) (S1 ++ [.lst (kvs.map pairA)])
  | none => False := by
  unfold dLit
  rw [Ok_b1]
  congr 1; funext o S1
  cases h : dctAt S1 o <;> simp only [h] <;> rfl
theorem Ok_sortedD {u : AV} {kvs : List (Key × AV)} {zs : List Str} (h : dictAt S u = some kvs) (h2 : keysS kvs = some zs) (hl : zs.length < 1000) : Ok (aSorted [u] S) P = P (.ref S.length) (S ++ [.lst ((sortS zs).map .str)]) := by
  unfold aSorted
  simp only [h, h2, if_pos hl]
  rfl
end
def runFs (a b c d : Nat) : List (Str × AV) := [("standing", .ref a), ("shown", .ref b), ("first_reads", .ref c), ("changed", .ref d)]
structure RunAt (S : Sto) (n a b c d : Nat) (st : Rst) : Prop where
  ins : S[n]? = some (.ins "Run" (runFs a b c d))
  room : S[a]? = some (.dict (roomK st.room))
  shown : S[b]? = some (.lst (st.shown.map .int))
  reads : S[c]? = some (.dict (kvG oA st.reads))
  chg : S[d]? = some (.dict (kvG bA st.chg))
  na : n < a
  ab : a < b
  bc : b < c
  cd : c < d
section
variable {S S' : Sto} {n a b c d : Nat} {st : Rst} {P : AV → Sto → Prop} {cs : List Str}
theorem RunAt.on (h : RunAt S n a b c d st) (f : Fr [] S S') : RunAt S' n a b c d st :=
  ⟨f.get h.ins (by simp), f.get h.room (by simp), f.get h.shown (by simp), f.get h.reads (by simp), f.get h.chg (by simp), h.na, h.ab, h.bc, h.cd⟩
theorem lk_st : (runFs a b c d).lookup ("standing" : Str) = some (.ref a) := by
  unfold runFs
  rw [List.lookup_cons, show (("standing" : Str) == ("standing" : Str)) = true by decide +kernel]
theorem lk_sh : (runFs a b c d).lookup ("shown" : Str) = some (.ref b) := by
  unfold runFs
  rw [List.lookup_cons, show (("shown" : Str) == ("standing" : Str)) = false by decide +kernel, List.lookup_cons, show (("shown" : Str) == ("shown" : Str)) = true by decide +kernel]
theorem lk_fr : (runFs a b c d).lookup ("first_reads" : Str) = some (.ref c) := by
  unfold runFs
  rw [List.lookup_cons, show (("first_reads" : Str) == ("standing" : Str)) = false by decide +kernel, List.lookup_cons, show (("first_reads" : Str) == ("shown" : Str)) = false by decide +kernel, List.lookup_cons, show (("first_reads" : Str) == ("first_reads" : Str)) = true by decide +kernel]
theorem lk_ch : (runFs a b c d).lookup ("changed" : Str) = some (.ref d) := by
  unfold runFs
  rw [List.lookup_cons, show (("changed" : Str) == ("standing" : Str)) = false by decide +kernel, List.lookup_cons, show (("changed" : Str) == ("shown" : Str)) = false by decide +kernel, List.lookup_cons, show (("changed" : Str) == ("first_reads" : Str)) = false by decide +kernel, List.lookup_cons, show (("changed" : Str) == ("changed" : Str)) = true by decide +kernel]
theorem lk_no {m : Str} (h : m ∉ (["standing", "shown", "first_reads", "changed"] : List Str)) : (runFs a b c d).lookup m = none := by
  simp only [List.mem_cons, List.not_mem_nil, or_false, not_or] at h
  unfold runFs
  rw [List.lookup_cons, beq_false_of_ne h.1, List.lookup_cons, beq_false_of_ne h.2.1, List.lookup_cons, beq_false_of_ne h.2.2.1, List.lookup_cons, beq_false_of_ne h.2.2.2]
  rfl
theorem RunAt.f_st (h : RunAt S n a b c d st) (hc : ("Run" : Str) ∈ cs) : Ok (aFld cs "standing" (.ref n) S) P = P (.ref a) S := Ok_aFld h.ins lk_st hc
theorem RunAt.f_sh (h : RunAt S n a b c d st) (hc : ("Run" : Str) ∈ cs) : Ok (aFld cs "shown" (.ref n) S) P = P (.ref b) S := Ok_aFld h.ins lk_sh hc
theorem RunAt.f_fr (h : RunAt S n a b c d st) (hc : ("Run" : Str) ∈ cs) : Ok (aFld cs "first_reads" (.ref n) S) P = P (.ref c) S := Ok_aFld h.ins lk_fr hc
theorem RunAt.f_ch (h : RunAt S n a b c d st) (hc : ("Run" : Str) ∈ cs) : Ok (aFld cs "changed" (.ref n) S) P = P (.ref d) S := Ok_aFld h.ins lk_ch hc
theorem RunAt.m (h : RunAt S n a b c d st) {m : Str} (hm : m ∉ (["standing", "shown", "first_reads", "changed"] : List Str)) : insB S "Run" m (.ref n) = true := insB_of h.ins (lk_no hm)
theorem in2a : (("Run" : Str)) ∈ (["Run", "State"] : List Str) := by simp
theorem in1a : (("Run" : Str)) ∈ (["Run"] : List Str) := by simp
end
theorem change_ok {S : Sto} {n a b c d : Nat} {st : Rst} {z : Str} {v : Option Int} {L k e : Nat} (h : RunAt S n a b c d st) (hB : RsB st L k e) (hL : L + k ≤ 1000000) :
    Ok (den_Run_change [.ref n, .str z, oA v] S) fun r S' => r = .non ∧ RunAt S' n a b c d (changeE st z v) ∧ Fr [a, b, c, d] S S' := by
  have hz : sizeLine = 16777216 := sizeLine_eq
  have o1 := h.na
  have o2 := h.ab
  have o3 := h.bc
  have o4 := h.cd
  have hcl := hB.cl
  have hrl := hB.rl
  (unfold den_Run_change; refine def_ok rfl ?_)
  simp_arith [h.f_ch in1a]
  rw [putS_dct h.chg (k := rk z) rfl (by rw [kvG_len]; omega)]
  have e1 : putA (kvG bA st.chg) (rk z) (.bl true) = kvG bA (putG st.chg z ()) := kvG_put bA st.chg z ()
  rw [e1]
  have h1 : RunAt (S.set d (.dict (kvG bA (putG st.chg z ())))) n a b c d { st with chg := putG st.chg z () } :=
    ⟨set_other h.ins (by omega), set_other h.room (by omega), set_other h.shown (by omega), set_other h.reads (by omega), set_same (lt_of h.chg), o1, o2, o3, o4⟩
  have f1 : Fr [a, b, c, d] S (S.set d (.dict (kvG bA (putG st.chg z ())))) := (Fr.set d _).mono fun m hm _ => by simp at hm; simp [hm]
  generalize S.set d (.dict (kvG bA (putG st.chg z ()))) = S1 at h1 f1 ⊢
  cases v with
  | none =>
    simp_arith [oA]
    simp_arith [Ok_pop2, h1.f_st in2a, dictAt_dct h1.room, Option.isSome]
    unfold popS
    simp only [dctAt_of h1.room, show keyA (.str z) = some (rk z) from rfl, roomK_val]
    have h2 : RunAt (S1.set a (.dict (roomK (dropR st.room z)))) n a b c d (changeE st z none) :=
      ⟨set_other h1.ins (by omega), set_same (lt_of h1.room), set_other h1.shown (by omega), set_other h1.reads (by omega), set_other h1.chg (by omega), o1, o2, o3, o4⟩
    cases hg : getR st.room z with
    | none =>
      simp only [Option.map_none]
      refine ⟨trivial, ⟨h1.ins, ?_, h1.shown, h1.reads, h1.chg, o1, o2, o3, o4⟩, f1⟩
      rw [h1.room]
      show some (AO.dict (roomK st.room)) = some (.dict (roomK (dropR st.room z)))
      have : dropR st.room z = st.room := by
        unfold dropR
        rw [List.filter_eq_self]
        intro p hp
        rw [decide_eq_true_eq]
        intro e
        have := any_get st.room z
        rw [hg] at this
        have h3 : (st.room.any fun p => decide (p.1 = z)) = true := List.any_eq_true.mpr ⟨p, hp, decide_eq_true e⟩
        rw [h3] at this
        cases this
      rw [this]
    | some i =>
      simp only [Option.map_some, roomK_drop]
      exact ⟨trivial, h2, f1.trans ((Fr.set a _).mono fun m hm _ => by simp at hm; simp [hm])⟩
  | some i =>
    simp_arith [oA]
    simp_arith [h1.f_st in2a]
    rw [putS_dct h1.room (k := rk z) rfl (by show (roomK st.room).length < _; unfold roomK; rw [List.length_map]; omega)]
    have e2 : putA (roomK st.room) (rk z) (.int i) = roomK (putR st.room z i) := roomK_put ..
    refine ⟨trivial, ⟨set_other h1.ins (by omega), ?_, set_other h1.shown (by omega), set_other h1.reads (by omega), set_other h1.chg (by omega), o1, o2, o3, o4⟩, f1.trans ((Fr.set a _).mono fun m hm _ => by simp at hm; simp [hm])⟩
    rw [set_same (lt_of h1.room)]
    show some (AO.dict (putA (roomK st.room) (rk z) (.int i))) = _
    rw [e2]
    rfl

theorem readE_snoc (st : Rst) (ms : List Str) (z : Str) : readE st (ms ++ [z]) = if (getG st.chg z).isSome then readE st ms else putG (readE st ms) z (getR st.room z) := by
  unfold readE
  rw [List.foldl_append]
  rfl
theorem in_chg {S : Sto} {d : Nat} {z : Str} {r : List (Str × Unit)} (h : S[d]? = some (.dict (kvG bA r))) : inS S (.str z) (.ref d) = some (getG r z).isSome := by
  unfold inS
  simp only [dictAt_dct h]
  show some (valA (kvG bA r) (rk z)).isSome = _
  rw [kvG_val]
  cases getG r z <;> rfl
theorem work_ok {S : Sto} {n a b c d : Nat} {st : Rst} {s : Sm} {L k e : Nat} (h : RunAt S n a b c d st) (hB : RsB st L k e) (he : e ≤ 100000) (hs : SmOkB s) :
    Ok (den_Run_work_out [.ref n, smA s] S) fun r S' => r = resA (sumE st.room 0 s).1 ∧ RunAt S' n a b c d (workE st s) ∧ Fr [a, b, c, d] S S' := by
  have hz : sizeLine = 16777216 := sizeLine_eq
  have o1 := h.na
  have o2 := h.ab
  have o3 := h.bc
  have o4 := h.cd
  have hel := hB.el
  have hlen := sumE_len st.room s 0
  have h20 := hs.n
  (unfold den_Run_work_out; refine def_ok rfl ?_)
  simp_arith [h.f_st in2a]
  refine (worked_ok hs (dictAt_dct h.room) hB.b).imp fun v S1 ⟨m, ev_, hm, em, f1⟩ => ?_
  subst ev_
  have h1 := h.on f1
  have hd := lt_of h.chg
  have hc := lt_of h.reads
  simp_arith only []
  rw [Ok_walkL em]
  refine loopL_ok (fun j η S2 => ∃ x5, η = [some (.ref n), some (smA s), some (resV (sumE st.room 0 s).1), some (resF (sumE st.room 0 s).1), some (.ref m), x5] ∧ S2[m]? = some (.lst ((sumE st.room 0 s).2.map .str)) ∧ Fr [a, b, c, d] S S2 ∧ RunAt S2 n a b c d { st with reads := readE st ((sumE st.room 0 s).2.take j) })
    (fun j η S2 ⟨_, _, h, _⟩ => h) ⟨_, rfl, em, f1.nil, h1⟩ (fun j x η S2 hx ⟨x5, e, em2, f2, h2⟩ => ?_) fun η S2 ⟨x5, e, em2, f2, h2⟩ => ?_
  · subst e
    rw [List.getElem?_map] at hx
    obtain ⟨z, hq, rfl⟩ := Option.map_eq_some_iff.mp hx
    have htk : (sumE st.room 0 s).2.take (j + 1) = (sumE st.room 0 s).2.take j ++ [z] := by rw [List.take_add_one, hq]; rfl
    have hsn := readE_snoc st ((sumE st.room 0 s).2.take j) z
    rw [← htk] at hsn
    have hl2 := readE_len st ((sumE st.room 0 s).2.take j)
    have hl3 : ((sumE st.room 0 s).2.take j).length ≤ 20 := by rw [List.length_take]; omega
    simp_arith [h2.f_ch in1a, in_chg h2.chg]
    cases hg : getG st.chg z with
    | some u =>
      rw [hg] at hsn
      simp_arith [Option.isSome, Bool.not_true]
      refine ⟨_, rfl, em2, f2, ?_⟩
      rw [hsn]
      exact h2
    | none =>
      rw [hg] at hsn
      simp_arith [Option.isSome, Bool.not_false]
      simp_arith [Ok_get1, h2.f_st in2a, dictAt_dct h2.room, Option.isSome]
      rw [getS_of (g := AV.int) (dictAt_dct h2.room)]
      simp_arith [h2.f_fr in1a]
      rw [putS_dct h2.reads (k := rk z) rfl (by rw [kvG_len]; show (readE st _).length < _; omega)]
      have ek : ((getG st.room z).map AV.int).getD .non = oA (getR st.room z) := by
        show ((getR st.room z).map AV.int).getD .non = _
        cases getR st.room z <;> rfl
      have e1 : putA (kvG oA (readE st ((sumE st.room 0 s).2.take j))) (rk z) (((getG st.room z).map AV.int).getD .non) = kvG oA (readE st ((sumE st.room 0 s).2.take (j + 1))) := by
        rw [ek, kvG_put, hsn]
        rfl
      refine ⟨_, rfl, set_other em2 (by omega), f2.trans ((Fr.set c _).mono fun m hm _ => by simp at hm; simp [hm]), ⟨set_other h2.ins (by omega), set_other h2.room (by omega), set_other h2.shown (by omega), ?_, set_other h2.chg (by omega), o1, o2, o3, o4⟩⟩
      rw [set_same (lt_of h2.reads)]
      show some (AO.dict (putA (kvG oA (readE st ((sumE st.room 0 s).2.take j))) (rk z) (((getG st.room z).map AV.int).getD .non))) = _
      rw [e1]
  · subst e
    rw [List.length_map, List.take_length] at h2
    simp_arith []
    exact ⟨rfl, h2, f2⟩
theorem oA_non : oA none = .non := rfl
def W4 (a b c d : Nat) : List Nat := [a, b, c, d]
theorem follow0_ok {rec : List AV → M AV} {S : Sto} {n a b c d : Nat} {st : Rst} {r : Row0} {L k e : Nat} (h : RunAt S n a b c d st) (hB : RsB st L k e) (hL : L + k ≤ 100000) (he : e ≤ 10000) (hr : Row0OkB r) :
    Ok (rb_Run_follow rec [.ref n, row0A r] S) fun v S' => v = ofltA (follow0 st r).1 ∧ RunAt S' n a b c d (follow0 st r).2 ∧ Fr [a, b, c, d] S S' := by
  have hz : sizeLine = 16777216 := sizeLine_eq
  (unfold rb_Run_follow; refine def_ok rfl ?_)
  cases r with
  | drop z =>
    simp_arith [row0A, show (("drop" : Str) == ("drop" : Str)) = true by decide +kernel, Ok_meth, h.m (m := "change") (by decide +kernel)]
    refine (change_ok (v := none) h hB (by omega)).imp fun v S1 ⟨_, h1, f1⟩ => ?_
    exact ⟨rfl, h1, f1⟩
  | set z s =>
    have hw := hB.work hr
    simp_arith [row0A, show (("set" : Str) == ("drop" : Str)) = false by decide +kernel, show (("set" : Str) == ("set" : Str)) = true by decide +kernel, Ok_meth, h.m (m := "work_out") (by decide +kernel)]
    refine (work_ok h hB (by omega) hr).imp fun v S1 ⟨e, h1, f1⟩ => ?_
    subst e
    have ef : follow0 st (.set z s) = match (sumE st.room 0 s).1 with | .no f => (some f, workE st s) | .ok v => (none, changeE (workE st s) z (some v)) := rfl
    cases ev_ : (sumE st.room 0 s).1 with
    | no f =>
      obtain ⟨xs, hxs⟩ := fltA_tup f
      rw [ev_] at ef
      simp_arith [resA, resV, resF, hxs, Bool.not_false]
      rw [ef]
      exact ⟨hxs.symm, h1, f1⟩
    | ok i =>
      rw [ev_] at ef
      simp_arith [resA, resV, resF, Bool.not_true, h1.m (m := "change") (by decide +kernel)]
      refine (change_ok (v := some i) h1 hw (by omega)).imp fun v S2 ⟨_, h2, f2⟩ => ?_
      rw [ef]
      exact ⟨rfl, h2, f1.trans f2⟩
  | shw s =>
    have hw := hB.work hr
    have hsl := hB.sl
    simp_arith [row0A, show (("show" : Str) == ("drop" : Str)) = false by decide +kernel, show (("show" : Str) == ("set" : Str)) = false by decide +kernel, show (("show" : Str) == ("show" : Str)) = true by decide +kernel, Ok_meth, h.m (m := "work_out") (by decide +kernel)]
    refine (work_ok h hB (by omega) hr).imp fun v S1 ⟨e, h1, f1⟩ => ?_
    subst e
    have ef : follow0 st (.shw s) = match (sumE st.room 0 s).1 with | .no f => (some f, workE st s) | .ok v => (none, { workE st s with shown := st.shown ++ [v] }) := rfl
    cases ev_ : (sumE st.room 0 s).1 with
    | no f =>
      obtain ⟨xs, hxs⟩ := fltA_tup f
      rw [ev_] at ef
      simp_arith [resA, resV, resF, hxs, Bool.not_false]
      rw [ef]
      exact ⟨hxs.symm, h1, f1⟩
    | ok i =>
      rw [ev_] at ef
      simp_arith [resA, resV, resF, Bool.not_true, h1.f_sh in1a, lstAt_of h1.shown, Option.isSome]
      have o1 := h.na
      have o2 := h.ab
      have o3 := h.bc
      have o4 := h.cd
      have hs1 : S1[b]? = some (.lst (st.shown.map .int)) := h1.shown
      rw [Ok_append hs1 (by rw [List.length_map]; omega)]
      rw [ef]
      refine ⟨rfl, ⟨set_other h1.ins (by omega), set_other h1.room (by omega), ?_, set_other h1.reads (by omega), set_other h1.chg (by omega), o1, o2, o3, o4⟩, f1.trans ((Fr.set b _).mono fun m hm _ => by simp at hm; simp [hm])⟩
      rw [set_same (lt_of hs1)]
      show _ = some (AO.lst ((st.shown ++ [i]).map .int))
      rw [List.map_append]
      rfl
theorem follow_ok {S : Sto} {n a b c d : Nat} {st : Rst} {r : Row} {L k e : Nat} (h : RunAt S n a b c d st) (hB : RsB st L k e) (hL : L + k ≤ 100000) (he : e ≤ 9000) (hr : RowOkB r) :
    Ok (den_Run_follow [.ref n, rowA r] S) fun v S' => v = ofltA (followE st r).1 ∧ RunAt S' n a b c d (followE st r).2 ∧ Fr [a, b, c, d] S S' := by
  unfold den_Run_follow
  cases r with
  | pl r => exact follow0_ok h hB hL (by omega) hr
  | cond t r =>
    show Ok (rb_Run_follow (rb_Run_follow fun _ _ => .bad) [.ref n, rowA (.cond t r)] S) _
    have h0 := fun (S : Sto) (st : Rst) (L k e : Nat) (h : RunAt S n a b c d st) (hB : RsB st L k e) (hL : L + k ≤ 100000) (he : e ≤ 10000) => follow0_ok (rec := fun _ _ => .bad) h hB hL he hr.2
    generalize rb_Run_follow (fun _ _ => R.bad) = rec at h0 ⊢
    have hw := hB.work hr.1
    (unfold rb_Run_follow; refine def_ok rfl ?_)
    simp_arith [rowA, show (("if" : Str) == ("drop" : Str)) = false by decide +kernel, show (("if" : Str) == ("set" : Str)) = false by decide +kernel, show (("if" : Str) == ("show" : Str)) = false by decide +kernel, Ok_meth, h.m (m := "work_out") (by decide +kernel)]
    refine (work_ok h hB (by omega) hr.1).imp fun v S1 ⟨e, h1, f1⟩ => ?_
    subst e
    have ef : followE st (.cond t r) = match (sumE st.room 0 t).1 with | .no f => (some f, workE st t) | .ok v => if v = 0 then (none, workE st t) else follow0 (workE st t) r := rfl
    cases ev_ : (sumE st.room 0 t).1 with
    | no f =>
      obtain ⟨xs, hxs⟩ := fltA_tup f
      rw [ev_] at ef
      simp_arith [resA, resV, resF, hxs, Bool.not_false]
      rw [ef]
      exact ⟨hxs.symm, h1, f1⟩
    | ok i =>
      rw [ev_] at ef
      simp_arith [resA, resV, resF, Bool.not_true]
      by_cases hi : i = 0
      · subst hi
        simp_arith [show ((0 : Int) == 0) = true by decide, Bool.not_true]
        rw [ef]
        exact ⟨rfl, h1, f1⟩
      · simp_arith [show (i == (0 : Int)) = false from beq_false_of_ne hi, Bool.not_false, h1.m (m := "follow") (by decide +kernel)]
        rw [ef]
        show Ok _ fun v S' => v = ofltA (if i = 0 then (none, workE st t) else follow0 (workE st t) r).1 ∧ RunAt S' n a b c d (if i = 0 then (none, workE st t) else follow0 (workE st t) r).2 ∧ _
        rw [if_neg hi]
        exact (h0 S1 _ _ _ _ h1 hw (by omega) (by omega)).imp fun v S2 ⟨e, h2, f2⟩ => ⟨e, h2, f1.trans f2⟩

set_option Elab.async false
set_option linter.all false
set_option maxRecDepth 100000
set_option maxHeartbeats 4000000
/-! Q11: whole runs. -/
open PySem PySem.Spec PyProof.Rows L2 TL
def outA (o : Option Flt) (shown : List Int) : AV := .tup [.tup (shown.map .int), ofltA o]
def pairV (p : Str × Option Int) : AV := .tup [.str p.1, oA p.2]
def pairsV (l : List (Str × Option Int)) : AV := .tup (l.map pairV)
def setsE (st : Rst) : List (Str × Option Int) := (sortS (st.chg.map (·.1))).map fun z => (z, getR st.room z)
def runF (rm : Rm) (rs : List Row) : Option Flt × Rst := runE (st0 rm) rs
theorem runE_some {st : Rst} {r : Row} {rs : List Row} {f : Flt} (h : (followE st r).1 = some f) : runE st (r :: rs) = (some f, (followE st r).2) := by
  show (match (followE st r).1 with | some f => (some f, (followE st r).2) | none => runE (followE st r).2 rs) = _
  rw [h]
theorem runE_none {st : Rst} {r : Row} {rs : List Row} (h : (followE st r).1 = none) : runE st (r :: rs) = runE (followE st r).2 rs := by
  show (match (followE st r).1 with | some f => (some f, (followE st r).2) | none => runE (followE st r).2 rs) = _
  rw [h]
theorem RsB.run {L : Nat} : ∀ {rs : List Row} {st : Rst} {k e : Nat}, RsB st L k e → (∀ r ∈ rs, RowOkB r) → RsB (runE st rs).2 L (k + rs.length) (e + 40 * rs.length)
  | [], st, k, e, h, _ => h
  | r :: rs, st, k, e, h, hr => by
    have h1 := h.follow (hr r (List.mem_cons_self ..))
    cases ef : (followE st r).1 with
    | some f =>
      rw [runE_some ef]
      refine ⟨h1.b, Nat.le_trans h1.rl ?_, Nat.le_trans h1.sl ?_, Nat.le_trans h1.el ?_, Nat.le_trans h1.cl ?_⟩ <;> (rw [List.length_cons]; omega)
    | none =>
      rw [runE_none ef]
      have := RsB.run h1 fun x hx => hr x (List.mem_cons_of_mem _ hx)
      refine ⟨this.b, Nat.le_trans this.rl ?_, Nat.le_trans this.sl ?_, Nat.le_trans this.el ?_, Nat.le_trans this.cl ?_⟩ <;> (rw [List.length_cons]; omega)
theorem pairA_kvG (r : List (Str × Option Int)) : (kvG oA r).map pairA = r.map pairV := by
  unfold kvG
  rw [List.map_map]
  rfl
theorem sort_len : ∀ zs : List Str, (sortS zs).length = zs.length
  | [] => rfl
  | z :: zs => by
    have h := (ins_perm z (sortS zs)).length_eq
    show (insS z (sortS zs)).length = _
    rw [h, List.length_cons, List.length_cons, sort_len zs]
theorem fld_step {S : Sto} {n : Nat} {c : Str} {fs fs' : List (Str × AV)} {o : AO} (h : S[n]? = some (.ins c fs)) :
    ((S ++ [o]).set n (.ins c fs'))[n]? = some (.ins c fs') ∧ ((S ++ [o]).set n (.ins c fs'))[S.length]? = some o ∧ (∀ m x, m ≠ n → S[m]? = some x → ((S ++ [o]).set n (.ins c fs'))[m]? = some x) ∧ Fr [n] S ((S ++ [o]).set n (.ins c fs')) ∧ ((S ++ [o]).set n (.ins c fs')).length = S.length + 1 := by
  have hn := lt_of h
  exact ⟨set_same (by rw [List.length_append]; omega), set_other app_new (by omega), fun m x hm hx => set_other (app_get hx) hm, (Fr.app (W := [n]) o).trans (Fr.set n _), by rw [List.length_set, List.length_append]; rfl⟩
theorem runinit_ok {S : Sto} {n r : Nat} {rm : Rm} (h : S[n]? = some (.ins "Run" [])) (hr : dictAt S (.ref r) = some (roomK rm)) :
    Ok (den_Run___init__ [.ref n, .ref r] S) fun v S' => v = .non ∧ ∃ a b c d, RunAt S' n a b c d (st0 rm) ∧ Fr [n] S S' := by
  have hn := lt_of h
  (unfold den_Run___init__; refine def_ok rfl ?_)
  simp_arith [Ok_dict hr]
  rw [fldS_of (app_get h) (by simp) (by simp)]
  obtain ⟨a1, a2, _, a4, a5⟩ := fld_step (o := .dict (roomK rm)) (fs' := putFA "standing" (.ref S.length) []) h
  generalize ((S ++ [AO.dict (roomK rm)]).set n (.ins "Run" (putFA "standing" (.ref S.length) []))) = S1 at a1 a2 a4 a5 ⊢
  simp_arith []
  rw [Ok_lst (by simp), fldS_of (app_get a1) (by simp) (by simp [putFA])]
  obtain ⟨b1, b2, b3, b4, b5⟩ := fld_step (o := .lst []) (fs' := putFA "shown" (.ref S1.length) (putFA "standing" (.ref S.length) [])) a1
  generalize ((S1 ++ [AO.lst []]).set n (.ins "Run" (putFA "shown" (.ref S1.length) (putFA "standing" (.ref S.length) [])))) = S2 at b1 b2 b3 b4 b5 ⊢
  simp_arith []
  rw [fldS_of (app_get b1) (by simp) (by show (putFA _ _ (putFA _ _ [])).length < 900; exact Nat.lt_of_le_of_lt (putFA_len ..) (by simp [putFA]))]
  obtain ⟨c1, c2, c3, c4, c5⟩ := fld_step (o := .dict []) (fs' := putFA "first_reads" (.ref S2.length) (putFA "shown" (.ref S1.length) (putFA "standing" (.ref S.length) []))) b1
  generalize ((S2 ++ [AO.dict []]).set n (.ins "Run" (putFA "first_reads" (.ref S2.length) (putFA "shown" (.ref S1.length) (putFA "standing" (.ref S.length) []))))) = S3 at c1 c2 c3 c4 c5 ⊢
  simp_arith []
  rw [fldS_of (app_get c1) (by simp) (by
    have h1 := putFA_len "first_reads" (.ref S2.length) (putFA "shown" (.ref S1.length) (putFA "standing" (.ref S.length) []))
    have h2 := putFA_len "shown" (.ref S1.length) (putFA "standing" (.ref S.length) [])
    have h3 := putFA_len "standing" (.ref S.length) []
    rw [List.length_nil] at h3
    omega)]
  obtain ⟨d1, d2, d3, d4, d5⟩ := fld_step (o := .dict []) (fs' := putFA "changed" (.ref S3.length) (putFA "first_reads" (.ref S2.length) (putFA "shown" (.ref S1.length) (putFA "standing" (.ref S.length) [])))) c1
  generalize ((S3 ++ [AO.dict []]).set n (.ins "Run" (putFA "changed" (.ref S3.length) (putFA "first_reads" (.ref S2.length) (putFA "shown" (.ref S1.length) (putFA "standing" (.ref S.length) [])))))) = S4 at d1 d2 d3 d4 d5 ⊢
  have ef : putFA "changed" (.ref S3.length) (putFA "first_reads" (.ref S2.length) (putFA "shown" (.ref S1.length) (putFA "standing" (.ref S.length) []))) = runFs S.length S1.length S2.length S3.length := by
    unfold runFs
    simp only [putFA, show ¬ (("standing" : Str) = ("shown" : Str)) by decide +kernel, show ¬ (("standing" : Str) = ("first_reads" : Str)) by decide +kernel, show ¬ (("standing" : Str) = ("changed" : Str)) by decide +kernel, show ¬ (("shown" : Str) = ("first_reads" : Str)) by decide +kernel, show ¬ (("shown" : Str) = ("changed" : Str)) by decide +kernel, show ¬ (("first_reads" : Str) = ("changed" : Str)) by decide +kernel, if_false]
  rw [ef] at d1
  have n1 := lt_of a1
  have n2 := lt_of b1
  have n3 := lt_of c1
  refine ⟨trivial, S.length, S1.length, S2.length, S3.length, ⟨d1, ?_, ?_, ?_, d2, hn, by omega, by omega, by omega⟩, ((a4.trans b4).trans c4).trans d4⟩
  · exact d3 _ _ (by omega) (c3 _ _ (by omega) (b3 _ _ (by omega) a2))
  · exact d3 _ _ (by omega) (c3 _ _ (by omega) b2)
  · exact d3 _ _ (by omega) c2
/-- what is new may be written -/
theorem Fr.fresh {W : List Nat} {S S0 S' : Sto} (f0 : Fr [] S S0) (f : Fr W S0 S') (h : ∀ m ∈ W, S.length ≤ m) : Fr [] S S' :=
  ⟨Nat.le_trans f0.le f.le, fun n hl _ => by
    rw [f.at_ n (Nat.lt_of_lt_of_le hl f0.le) (fun hm => by have := h n hm; omega), f0.at_ n hl (by simp)]⟩
theorem Go.cut {r : Rt} {N B C : Nv → Sto → Prop} {T : AV → Sto → Prop} (M : Nv → Sto → Prop) (h : Go r M T B C) (k : ∀ η S, M η S → N η S) : Go r N T B C := h.imp k (fun _ _ h => h) (fun _ _ h => h) fun _ _ h => h
theorem run_in_ok {S : Sto} {cl r : Nat} {rs : List Row} {rm : Rm} (hc : IsCell S cl rs) (hr : dictAt S (.ref r) = some (roomK rm)) (hb : RmB rm) (hl : rm.length ≤ 50000) (h6 : rs.length ≤ 6) (hok : ∀ r ∈ rs, RowOkB r) :
    Ok (den_run_in [.ref cl, .ref r] S) fun v S' => ∃ q : Nat, v = .tup [outA (runF rm rs).1 (runF rm rs).2.shown, pairsV (runF rm rs).2.reads, pairsV (setsE (runF rm rs).2), .ref q] ∧ S.length ≤ q ∧ S'[q]? = some (.dict (roomK (runF rm rs).2.room)) ∧ Fr [] S S' := by
  have hz : sizeLine = 16777216 := sizeLine_eq
  have hlc := lt_of hc
  (unfold den_run_in; refine def_ok rfl ?_)
  refine Go.mid (fun η1 S1 => ∃ a b c d, η1 = [some (.ref cl), some (.ref r), some (.ref S.length), none, none, none, none, none, none] ∧ RunAt S1 S.length a b c d (st0 rm) ∧ Fr [S.length] (S ++ [.ins "Run" []]) S1) ?_ fun η1 S1 ⟨a, b, c, d, e, h1, f1⟩ => ?_
  · simp_arith [Ok_make]
    refine (runinit_ok app_new (dictAt_on hr (Fr.app (W := []) _) (by simp))).imp fun v S1 ⟨e, a, b, c, d, h1, f1⟩ => ?_
    subst e
    exact ⟨a, b, c, d, trivial, h1, f1⟩
  subst e
  have hcell : ∀ {S2 : Sto}, Fr [S.length] (S ++ [.ins "Run" []]) S2 → IsCell S2 cl rs := fun f => (hc.on (Fr.app (W := []) _) (by simp)).on f (by simp; omega)
  rw [Go_seq]
  simp_arith []
  have B0 : RsB (st0 rm) rm.length 0 0 := ⟨hb, Nat.le_refl _, Nat.le_refl _, Nat.le_refl _, Nat.le_refl _⟩
  have BE := B0.run hok
  refine Go.cut (fun η2 S2 => ∃ x4, η2 = [some (.ref cl), some (.ref r), some (.ref S.length), some (ofltA (runF rm rs).1), x4, none, none, none, none] ∧ RunAt S2 S.length a b c d (runF rm rs).2 ∧ Fr (S.length :: [a, b, c, d]) (S ++ [.ins "Run" []]) S2) ?_ fun η2 S2 ⟨x4, e, h2, f2⟩ => ?_
  · simp_arith only [Ok_aFld (hcell f1) (cs := ["Cell"]) (f := "rows") (v := rowsA rs) rfl (by simp), rowsA]
    refine loopT_ok (fun k η S2 => ∃ x4 st, η = [some (.ref cl), some (.ref r), some (.ref S.length), some .non, x4, none, none, none, none] ∧ RunAt S2 S.length a b c d st ∧ RsB st rm.length k (40 * k) ∧ runF rm rs = runE st (rs.drop k) ∧ Fr (S.length :: [a, b, c, d]) (S ++ [.ins "Run" []]) S2)
      ⟨_, st0 rm, rfl, h1, B0, rfl, f1.mono fun m hm _ => by simp at hm; simp [hm]⟩ (fun k x η S2 hx ⟨x4, st, e, h2, B2, er, f2⟩ => ?_) fun η S2 ⟨x4, st, e, h2, B2, er, f2⟩ => ?_
    · subst e
      rw [List.getElem?_map] at hx
      obtain ⟨row, hq, rfl⟩ := Option.map_eq_some_iff.mp hx
      have hk : k < rs.length := (List.getElem?_eq_some_iff.mp hq).1
      have hq' : rs[k] = row := (List.getElem?_eq_some_iff.mp hq).2
      rw [List.drop_eq_getElem_cons hk, hq'] at er
      have okr := hok row (mem_get hq)
      simp_arith [Ok_meth, h2.m (m := "follow") (by decide +kernel)]
      refine (follow_ok h2 B2 (by omega) (by omega) okr).imp fun v S3 ⟨e, h3, f3⟩ => ?_
      subst e
      have B3 := B2.follow okr
      have f23 : Fr (S.length :: [a, b, c, d]) (S ++ [.ins "Run" []]) S3 := f2.trans (f3.mono fun m hm _ => List.mem_cons_of_mem _ hm)
      cases ef : (followE st row).1 with
      | none =>
        rw [runE_none ef] at er
        simp_arith [ofltA, Bool.not_true]
        exact ⟨_, _, rfl, h3, ⟨B3.b, B3.rl, B3.sl, Nat.le_trans B3.el (by omega), B3.cl⟩, er, f23⟩
      | some f =>
        rw [runE_some ef] at er
        obtain ⟨xs, hxs⟩ := fltA_tup f
        simp_arith [ofltA, hxs, Bool.not_false]
        rw [er]
        refine ⟨some (rowA row), ?_, h3, f23⟩
        rw [← hxs]
    · subst e
      rw [List.length_map, List.drop_length] at er
      rw [er]
      exact ⟨_, rfl, h2, f2⟩
  · subst e
    simp_arith [h2.f_sh in1a]
    rw [Ok_tupleL h2.shown]
    simp_arith [Ok_lit, h2.f_fr in1a, dctAt_of h2.reads]
    rw [Ok_tupleL app_new]
    have h3 := h2.on (Fr.app (.lst ((kvG oA (runF rm rs).2.reads).map pairA)))
    have f3 : Fr (S.length :: [a, b, c, d]) (S ++ [.ins "Run" []]) (S2 ++ [.lst ((kvG oA (runF rm rs).2.reads).map pairA)]) := f2.more
    generalize S2 ++ [.lst ((kvG oA (runF rm rs).2.reads).map pairA)] = S3 at h3 f3 ⊢
    simp_arith only [h3.f_ch in1a]
    have hcl := BE.cl
    have hlen : ((runF rm rs).2.chg.map (·.1)).length ≤ 6 := by
      rw [List.length_map]
      exact Nat.le_trans hcl (by omega)
    rw [Ok_sortedD (dictAt_dct h3.chg) (keys_kvG bA _) (by omega)]
    have h4 := h3.on (Fr.app (.lst ((sortS ((runF rm rs).2.chg.map (·.1))).map .str)))
    have e4 : (S3 ++ [AO.lst ((sortS ((runF rm rs).2.chg.map (·.1))).map .str)])[S3.length]? = some (.lst ((sortS ((runF rm rs).2.chg.map (·.1))).map .str)) := app_new
    have f4 : Fr (S.length :: [a, b, c, d]) (S ++ [.ins "Run" []]) (S3 ++ [AO.lst ((sortS ((runF rm rs).2.chg.map (·.1))).map .str)]) := f3.more
    generalize S3 ++ [AO.lst ((sortS ((runF rm rs).2.chg.map (·.1))).map .str)] = S4 at h4 e4 f4 ⊢
    rw [Ok_walkL e4]
    refine collQL_ok (W := []) AV.str (fun z => pairV (z, getR (runF rm rs).2.room z)) e4 (by simp) (by rw [sort_len]; omega) (fun z S5 hz f5 => ⟨_, rfl, ?_⟩) fun S5 f5 => ?_
    · have h5 := h4.on f5
      simp_arith only [Ok_get1, h5.f_st in2a, dictAt_dct h5.room, Option.isSome]
      rw [getS_of (g := AV.int) (dictAt_dct h5.room)]
      simp_arith []
      refine ⟨?_, Fr.refl⟩
      show AV.tup [.str z, ((getR (runF rm rs).2.room z).map AV.int).getD .non] = .tup [.str z, oA (getR (runF rm rs).2.room z)]
      cases getR (runF rm rs).2.room z <;> rfl
    · rw [Ok_tupleL app_new]
      have h6 := (h4.on f5).on (Fr.app (.lst ((sortS ((runF rm rs).2.chg.map (·.1))).map fun z => pairV (z, getR (runF rm rs).2.room z))))
      simp_arith [h6.f_st in2a]
      have o1 := h6.na
      refine ⟨a, ?_, by omega, h6.room, ?_⟩
      · rw [pairA_kvG]
        unfold setsE outA pairsV
        rw [List.map_map]
        rfl
      · have ff := ((f4.trans f5.nil).trans (Fr.app (.lst ((sortS ((runF rm rs).2.chg.map (·.1))).map fun z => pairV (z, getR (runF rm rs).2.room z)))))
        refine Fr.fresh (Fr.app (W := []) _) ff fun m hm => ?_
        have o2 := h6.ab
        have o3 := h6.bc
        have o4 := h6.cd
        simp only [List.mem_cons, List.not_mem_nil, or_false] at hm
        omega

set_option Elab.async false
set_option linter.all false
set_option maxRecDepth 100000
set_option maxHeartbeats 4000000
/-! R1: what a run hangs on; runs one behind another. -/
open PySem PySem.Spec PyProof.Rows L2 TL
section
variable {α : Type}
theorem getG_cons (p : Str × α) (r : List (Str × α)) (y : Str) : getG (p :: r) y = if p.1 = y then some p.2 else getG r y := by
  unfold getG
  by_cases h : p.1 = y
  · rw [List.find?_cons_of_pos (by rw [decide_eq_true_eq]; exact h), if_pos h]
    rfl
  · rw [List.find?_cons_of_neg (by rw [decide_eq_true_eq]; exact h), if_neg h]
theorem getG_app (r t : List (Str × α)) (y : Str) : getG (r ++ t) y = (getG r y).or (getG t y) := by
  induction r with
  | nil => rfl
  | cons p r ih =>
    rw [List.cons_append, getG_cons, getG_cons, ih]
    split <;> rfl
theorem any_getG (r : List (Str × α)) (z : Str) : (r.any fun p => decide (p.1 = z)) = (getG r z).isSome := by
  unfold getG
  rw [Option.isSome_map, Bool.eq_iff_iff, List.find?_isSome, List.any_eq_true]
theorem getG_upd (r : List (Str × α)) (z y : Str) (v : α) : getG (r.map fun p => if p.1 = z then (p.1, v) else p) y = if y = z then (getG r y).map fun _ => v else getG r y := by
  induction r with
  | nil => split <;> rfl
  | cons p r ih =>
    rw [List.map_cons, getG_cons, getG_cons, ih]
    by_cases h1 : p.1 = z
    · rw [if_pos h1]
      by_cases h2 : p.1 = y
      · rw [if_pos h2, if_pos (by rw [← h1, h2]), if_pos h2]
        rfl
      · rw [if_neg h2, if_neg h2]
    · rw [if_neg h1]
      by_cases h2 : p.1 = y
      · rw [if_pos h2, if_pos h2, if_neg (by rw [← h2]; exact h1)]
      · rw [if_neg h2, if_neg h2]
theorem getG_put (r : List (Str × α)) (z y : Str) (v : α) : getG (putG r z v) y = if y = z then some v else getG r y := by
  unfold putG
  split
  · rename_i h
    rw [getG_upd]
    split
    · rename_i e
      subst e
      rw [any_getG] at h
      cases e2 : getG r y with
      | none => rw [e2] at h; cases h
      | some w => rfl
    · rfl
  · rename_i h
    rw [getG_app, getG_cons]
    by_cases e : y = z
    · subst e
      rw [if_pos rfl, if_pos rfl]
      rw [any_getG] at h
      cases e2 : getG r y with
      | none => rfl
      | some w => rw [e2] at h; exact absurd rfl h
    · rw [if_neg (fun q => e q.symm), if_neg e]
      show (getG r y).or none = _
      rw [Option.or_none]
theorem mem_putG {r : List (Str × α)} {z : Str} {v : α} {p : Str × α} (h : p ∈ putG r z v) : p ∈ r ∨ p = (z, v) := by
  unfold putG at h
  split at h
  · obtain ⟨q, hq, rfl⟩ := List.mem_map.mp h
    split
    · rename_i e
      exact .inr (by rw [← e])
    · exact .inl hq
  · rcases List.mem_append.mp h with h | h
    · exact .inl h
    · exact .inr (List.mem_singleton.mp h)
theorem putG_key {r : List (Str × α)} {z y : Str} {v : α} (h : (getG r y).isSome = true) : (getG (putG r z v) y).isSome = true := by
  rw [getG_put]
  split
  · rfl
  · exact h
end
theorem getRG (r : Rm) (z : Str) : getR r z = getG r z := rfl
theorem prodE_congr {rm rm' : Rm} : ∀ (l : List (Bool × Atm)) (p : Int), (∀ z ∈ (prodE rm p l).2, getR rm' z = getR rm z) → prodE rm' p l = prodE rm p l
  | [], p, _ => rfl
  | (m, a) :: r, p, h => by
    have ha : ∀ r2 : List Str, (∀ z ∈ atomS a ++ r2, getR rm' z = getR rm z) → atomN rm' a = atomN rm a := by
      intro r2 hz
      cases a with
      | num n => rfl
      | nm z =>
        show (match getR rm' z with | some i => Res.ok i | none => .no (.lack z)) = (match getR rm z with | some i => Res.ok i | none => .no (.lack z))
        rw [hz z (by simp [atomS])]
    cases e : atomN rm a with
    | no f =>
      rw [prodE_no e] at h
      rw [prodE_no e, prodE_no (by rw [ha [] (by rw [List.append_nil]; exact h)]; exact e)]
    | ok x =>
      cases e2 : join2 p m x with
      | no f =>
        rw [prodE_no2 e e2] at h
        rw [prodE_no2 e e2, prodE_no2 (by rw [ha [] (by rw [List.append_nil]; exact h)]; exact e) e2]
      | ok q =>
        rw [prodE_ok e e2] at h
        rw [prodE_ok e e2, prodE_ok (by rw [ha _ h]; exact e) e2, prodE_congr r q fun z hz => h z (List.mem_append_right _ hz)]
theorem prdE_congr {rm rm' : Rm} {p : Prd} (h : ∀ z ∈ (prdE rm p).2, getR rm' z = getR rm z) : prdE rm' p = prdE rm p := prodE_congr _ _ h
/-- a sum hangs on the names read alone -/
theorem sumE_congr {rm rm' : Rm} : ∀ (s : Sm) (t : Int), (∀ z ∈ (sumE rm t s).2, getR rm' z = getR rm z) → sumE rm' t s = sumE rm t s
  | [], t, _ => rfl
  | p :: r, t, h => by
    cases e : (prdE rm p).1 with
    | no f =>
      rw [sumE_no e] at h
      have ep := prdE_congr h
      rw [sumE_no e, sumE_no (by rw [ep]; exact e), ep]
    | ok v =>
      cases e2 : lim (t + sgI p.neg * v) with
      | no f =>
        rw [sumE_no2 e e2] at h
        have ep := prdE_congr h
        rw [sumE_no2 e e2, sumE_no2 (by rw [ep]; exact e) e2, ep]
      | ok t' =>
        rw [sumE_ok e e2] at h
        have ep : prdE rm' p = prdE rm p := prdE_congr fun z hz => h z (List.mem_append_left _ hz)
        rw [sumE_ok e e2, sumE_ok (by rw [ep]; exact e) e2, ep, sumE_congr r t' fun z hz => h z (List.mem_append_right _ hz)]
/-- a run begun in rm, on its way -/
structure Way (rm : Rm) (st : Rst) : Prop where
  keep : ∀ z, getG st.chg z = none → getR st.room z = getR rm z
  val : ∀ p ∈ st.reads, p.2 = getR rm p.1
theorem foldRd_mem {chg : List (Str × Unit)} {room rm : Rm} (hk : ∀ z, getG chg z = none → getR room z = getR rm z) : ∀ (ns : List Str) (rd : List (Str × Option Int)), (∀ p ∈ rd, p.2 = getR rm p.1) →
    ∀ p ∈ ns.foldl (fun rd n => if (getG chg n).isSome then rd else putG rd n (getR room n)) rd, p.2 = getR rm p.1
  | [], rd, h => h
  | n :: ns, rd, h => by
    rw [List.foldl_cons]
    refine foldRd_mem hk ns _ fun p hp => ?_
    split at hp
    · exact h p hp
    · rename_i hn
      rcases mem_putG hp with hp | rfl
      · exact h p hp
      · exact hk n (by cases e : getG chg n with | none => rfl | some u => rw [e] at hn; exact absurd rfl hn)
theorem foldRd_key {chg : List (Str × Unit)} {room : Rm} {z : Str} : ∀ (ns : List Str) (rd : List (Str × Option Int)), (getG rd z).isSome = true ∨ (z ∈ ns ∧ getG chg z = none) →
    (getG (ns.foldl (fun rd n => if (getG chg n).isSome then rd else putG rd n (getR room n)) rd) z).isSome = true
  | [], rd, h => by
    rcases h with h | ⟨h, _⟩
    · exact h
    · cases h
  | n :: ns, rd, h => by
    rw [List.foldl_cons]
    refine foldRd_key ns _ ?_
    rcases h with h | ⟨h, hc⟩
    · left
      split
      · exact h
      · exact putG_key h
    · rcases List.mem_cons.mp h with rfl | h
      · left
        rw [hc]
        show (getG (putG rd z (getR room z)) z).isSome = true
        rw [getG_put, if_pos rfl]
        rfl
      · exact .inr ⟨h, hc⟩
theorem Way.work {rm : Rm} {st : Rst} (h : Way rm st) (s : Sm) : Way rm (workE st s) := ⟨h.keep, foldRd_mem h.keep _ _ h.val⟩
theorem getR_dropR (r : Rm) (z y : Str) : getR (dropR r z) y = if y = z then none else getR r y := getR_drop r z y
theorem Way.change {rm : Rm} {st : Rst} (h : Way rm st) (z : Str) (v : Option Int) : Way rm (changeE st z v) := by
  refine ⟨fun y hy => ?_, h.val⟩
  have hy' : getG (putG st.chg z ()) y = none := hy
  rw [getG_put] at hy'
  split at hy'
  · cases hy'
  · rename_i hn
    rw [← h.keep y hy']
    cases v with
    | none =>
      show getR (dropR st.room z) y = _
      rw [getR_drop, if_neg hn]
    | some i =>
      show getR (putR st.room z i) y = _
      rw [getR_put, if_neg hn]
theorem Way.f0 {rm : Rm} {st : Rst} (h : Way rm st) (r : Row0) : Way rm (follow0 st r).2 := by
  cases r with
  | drop z => exact h.change z none
  | set z s =>
    show Way rm (match (sumE st.room 0 s).1 with | .no f => (some f, workE st s) | .ok v => (none, changeE (workE st s) z (some v))).2
    cases (sumE st.room 0 s).1 with
    | no f => exact h.work s
    | ok v => exact (h.work s).change z (some v)
  | shw s =>
    show Way rm (match (sumE st.room 0 s).1 with | .no f => (some f, workE st s) | .ok v => (none, { workE st s with shown := st.shown ++ [v] })).2
    cases (sumE st.room 0 s).1 with
    | no f => exact h.work s
    | ok v => exact ⟨(h.work s).keep, (h.work s).val⟩
theorem Way.follow {rm : Rm} {st : Rst} (h : Way rm st) (r : Row) : Way rm (followE st r).2 := by
  cases r with
  | pl r => exact h.f0 r
  | cond t r =>
    show Way rm (match (sumE st.room 0 t).1 with | .no f => (some f, workE st t) | .ok v => if v = 0 then (none, workE st t) else follow0 (workE st t) r).2
    cases (sumE st.room 0 t).1 with
    | no f => exact h.work t
    | ok v =>
      show Way rm (if v = 0 then (none, workE st t) else follow0 (workE st t) r).2
      split
      · exact h.work t
      · exact (h.work t).f0 r
theorem Way.run {rm : Rm} : ∀ {rs : List Row} {st : Rst}, Way rm st → Way rm (runE st rs).2
  | [], st, h => h
  | r :: rs, st, h => by
    cases e : (followE st r).1 with
    | some f => rw [runE_some e]; exact h.follow r
    | none => rw [runE_none e]; exact Way.run (h.follow r)
/-- names read stay read -/
def KeyLe (st st' : Rst) : Prop := ∀ z, (getG st.reads z).isSome = true → (getG st'.reads z).isSome = true
theorem KeyLe.work (st : Rst) (s : Sm) : KeyLe st (workE st s) := fun z h => foldRd_key _ _ (.inl h)
theorem KeyLe.f0 (st : Rst) (r : Row0) : KeyLe st (follow0 st r).2 := by
  cases r with
  | drop z => exact fun z h => h
  | set z s =>
    show KeyLe st (match (sumE st.room 0 s).1 with | .no f => (some f, workE st s) | .ok v => (none, changeE (workE st s) z (some v))).2
    cases (sumE st.room 0 s).1 with
    | no f => exact .work st s
    | ok v => exact KeyLe.work st s
  | shw s =>
    show KeyLe st (match (sumE st.room 0 s).1 with | .no f => (some f, workE st s) | .ok v => (none, { workE st s with shown := st.shown ++ [v] })).2
    cases (sumE st.room 0 s).1 with
    | no f => exact .work st s
    | ok v => exact KeyLe.work st s
theorem KeyLe.follow (st : Rst) (r : Row) : KeyLe st (followE st r).2 := by
  cases r with
  | pl r => exact .f0 st r
  | cond t r =>
    show KeyLe st (match (sumE st.room 0 t).1 with | .no f => (some f, workE st t) | .ok v => if v = 0 then (none, workE st t) else follow0 (workE st t) r).2
    cases (sumE st.room 0 t).1 with
    | no f => exact .work st t
    | ok v =>
      show KeyLe st (if v = 0 then (none, workE st t) else follow0 (workE st t) r).2
      split
      · exact .work st t
      · exact fun z h => KeyLe.f0 (workE st t) r z (KeyLe.work st t z h)
theorem KeyLe.run : ∀ (rs : List Row) (st : Rst), KeyLe st (runE st rs).2
  | [], st => fun z h => h
  | r :: rs, st => by
    cases e : (followE st r).1 with
    | some f => rw [runE_some e]; exact .follow st r
    | none => rw [runE_none e]; exact fun z h => KeyLe.run rs _ z (KeyLe.follow st r z h)
/-- the same run in another room -/
structure Two (rm' : Rm) (st st' : Rst) : Prop where
  shown : st'.shown = st.shown
  reads : st'.reads = st.reads
  chg : st'.chg = st.chg
  keep : ∀ z, getG st.chg z = none → getR st'.room z = getR rm' z
  same : ∀ z, (getG st.chg z).isSome = true → getR st'.room z = getR st.room z
theorem foldRd_congr {chg : List (Str × Unit)} {room room' : Rm} : ∀ (ns : List Str) (rd : List (Str × Option Int)), (∀ z ∈ ns, getR room' z = getR room z) →
    ns.foldl (fun rd n => if (getG chg n).isSome then rd else putG rd n (getR room' n)) rd = ns.foldl (fun rd n => if (getG chg n).isSome then rd else putG rd n (getR room n)) rd
  | [], rd, _ => rfl
  | n :: ns, rd, h => by
    rw [List.foldl_cons, List.foldl_cons, h n (List.mem_cons_self ..), foldRd_congr ns _ fun z hz => h z (List.mem_cons_of_mem _ hz)]
section
variable {rm rm' : Rm} {st st' : Rst}
theorem Two.work (w : Way rm st) (t : Two rm' st st') (s : Sm) (h : ∀ z, (getG (workE st s).reads z).isSome = true → getR rm' z = getR rm z) : sumE st'.room 0 s = sumE st.room 0 s ∧ Two rm' (workE st s) (workE st' s) := by
  have hz : ∀ z ∈ (sumE st.room 0 s).2, getR st'.room z = getR st.room z := by
    intro z hz
    cases e : getG st.chg z with
    | some u => exact t.same z (by rw [e]; rfl)
    | none => rw [t.keep z e, w.keep z e]; exact h z (foldRd_key _ _ (.inr ⟨hz, e⟩))
  have es := sumE_congr s 0 hz
  refine ⟨es, t.shown, ?_, t.chg, t.keep, t.same⟩
  show readE st' (sumE st'.room 0 s).2 = readE st (sumE st.room 0 s).2
  rw [es]
  unfold readE
  rw [t.reads, t.chg]
  exact foldRd_congr _ _ hz
theorem Two.change (t : Two rm' st st') (n : Str) (v : Option Int) : Two rm' (changeE st n v) (changeE st' n v) := by
  refine ⟨t.shown, t.reads, ?_, fun z hz => ?_, fun z hz => ?_⟩
  · show putG st'.chg n () = putG st.chg n ()
    rw [t.chg]
  · have hz' : getG (putG st.chg n ()) z = none := hz
    rw [getG_put] at hz'
    split at hz'
    · cases hz'
    · rename_i hn
      rw [← t.keep z hz']
      cases v with
      | none => show getR (dropR st'.room n) z = _; rw [getR_drop, if_neg hn]
      | some i => show getR (putR st'.room n i) z = _; rw [getR_put, if_neg hn]
  · have hz' : (getG (putG st.chg n ()) z).isSome = true := hz
    rw [getG_put] at hz'
    cases v with
    | none =>
      show getR (dropR st'.room n) z = getR (dropR st.room n) z
      rw [getR_drop, getR_drop]
      split
      · rfl
      · rename_i hn
        rw [if_neg hn] at hz'
        exact t.same z hz'
    | some i =>
      show getR (putR st'.room n i) z = getR (putR st.room n i) z
      rw [getR_put, getR_put]
      split
      · rfl
      · rename_i hn
        rw [if_neg hn] at hz'
        exact t.same z hz'
theorem Two.f0 (w : Way rm st) (t : Two rm' st st') (r : Row0) (h : ∀ z, (getG (follow0 st r).2.reads z).isSome = true → getR rm' z = getR rm z) : (follow0 st' r).1 = (follow0 st r).1 ∧ Two rm' (follow0 st r).2 (follow0 st' r).2 := by
  cases r with
  | drop z => exact ⟨rfl, t.change z none⟩
  | set z s =>
    have e1 : follow0 st (.set z s) = match (sumE st.room 0 s).1 with | .no f => (some f, workE st s) | .ok v => (none, changeE (workE st s) z (some v)) := rfl
    have e2 : follow0 st' (.set z s) = match (sumE st'.room 0 s).1 with | .no f => (some f, workE st' s) | .ok v => (none, changeE (workE st' s) z (some v)) := rfl
    have hr : (follow0 st (.set z s)).2.reads = (workE st s).reads := by
      rw [e1]
      cases (sumE st.room 0 s).1 <;> rfl
    rw [hr] at h
    obtain ⟨h1, h2⟩ := t.work w s h
    rw [e1, e2, h1]
    cases (sumE st.room 0 s).1 with
    | no f => exact ⟨rfl, h2⟩
    | ok v => exact ⟨rfl, h2.change z (some v)⟩
  | shw s =>
    have e1 : follow0 st (.shw s) = match (sumE st.room 0 s).1 with | .no f => (some f, workE st s) | .ok v => (none, { workE st s with shown := st.shown ++ [v] }) := rfl
    have e2 : follow0 st' (.shw s) = match (sumE st'.room 0 s).1 with | .no f => (some f, workE st' s) | .ok v => (none, { workE st' s with shown := st'.shown ++ [v] }) := rfl
    have hr : (follow0 st (.shw s)).2.reads = (workE st s).reads := by
      rw [e1]
      cases (sumE st.room 0 s).1 <;> rfl
    rw [hr] at h
    obtain ⟨h1, h2⟩ := t.work w s h
    rw [e1, e2, h1]
    cases (sumE st.room 0 s).1 with
    | no f => exact ⟨rfl, h2⟩
    | ok v => exact ⟨rfl, by show st'.shown ++ [v] = st.shown ++ [v]; rw [t.shown], h2.reads, h2.chg, h2.keep, h2.same⟩
theorem Two.follow (w : Way rm st) (t : Two rm' st st') (r : Row) (h : ∀ z, (getG (followE st r).2.reads z).isSome = true → getR rm' z = getR rm z) : (followE st' r).1 = (followE st r).1 ∧ Two rm' (followE st r).2 (followE st' r).2 := by
  cases r with
  | pl r => exact t.f0 w r h
  | cond s r =>
    have e1 : followE st (.cond s r) = match (sumE st.room 0 s).1 with | .no f => (some f, workE st s) | .ok v => if v = 0 then (none, workE st s) else follow0 (workE st s) r := rfl
    have e2 : followE st' (.cond s r) = match (sumE st'.room 0 s).1 with | .no f => (some f, workE st' s) | .ok v => if v = 0 then (none, workE st' s) else follow0 (workE st' s) r := rfl
    have hk : KeyLe (workE st s) (followE st (.cond s r)).2 := by
      rw [e1]
      cases (sumE st.room 0 s).1 with
      | no f => exact fun z h => h
      | ok v =>
        show KeyLe (workE st s) (if v = 0 then (none, workE st s) else follow0 (workE st s) r).2
        split
        · exact fun z h => h
        · exact .f0 _ _
    obtain ⟨h1, h2⟩ := t.work w s fun z hz => h z (hk z hz)
    rw [e1] at h
    rw [e1, e2, h1]
    cases hv : (sumE st.room 0 s).1 with
    | no f => exact ⟨rfl, h2⟩
    | ok v =>
      rw [hv] at h
      have h' : ∀ z, (getG (if v = 0 then ((none : Option Flt), workE st s) else follow0 (workE st s) r).2.reads z).isSome = true → getR rm' z = getR rm z := h
      show (if v = 0 then (none, workE st' s) else follow0 (workE st' s) r).1 = (if v = 0 then (none, workE st s) else follow0 (workE st s) r).1 ∧ Two rm' (if v = 0 then (none, workE st s) else follow0 (workE st s) r).2 (if v = 0 then (none, workE st' s) else follow0 (workE st' s) r).2
      by_cases h0 : v = 0
      · rw [if_pos h0, if_pos h0]
        exact ⟨rfl, h2⟩
      · rw [if_neg h0] at h'
        rw [if_neg h0, if_neg h0]
        exact h2.f0 (w.work s) r h'
theorem Two.run : ∀ {rs : List Row} {st st' : Rst}, Way rm st → Two rm' st st' → (∀ z, (getG (runE st rs).2.reads z).isSome = true → getR rm' z = getR rm z) → (runE st' rs).1 = (runE st rs).1 ∧ Two rm' (runE st rs).2 (runE st' rs).2
  | [], st, st', w, t, h => ⟨rfl, t⟩
  | r :: rs, st, st', w, t, h => by
    have hk : KeyLe (followE st r).2 (runE st (r :: rs)).2 := by
      cases e : (followE st r).1 with
      | some f => rw [runE_some e]; exact fun z h => h
      | none => rw [runE_none e]; exact .run rs _
    obtain ⟨h1, h2⟩ := t.follow w r fun z hz => h z (hk z hz)
    cases e : (followE st r).1 with
    | some f =>
      rw [runE_some e, runE_some (h1.trans e)]
      exact ⟨rfl, h2⟩
    | none =>
      rw [runE_none e] at h
      rw [runE_none e, runE_none (h1.trans e)]
      exact Two.run (w.follow r) h2 h
end
theorem Way.zero (rm : Rm) : Way rm (st0 rm) := ⟨fun _ _ => rfl, fun _ h => by cases h⟩
theorem Two.zero (rm rm' : Rm) : Two rm' (st0 rm) (st0 rm') := ⟨rfl, rfl, rfl, fun _ _ => rfl, fun _ h => by cases h⟩
/-- THE RUN HANGS ON ITS READS -/
theorem run_reads {rm rm' : Rm} {rs : List Row} (h : ∀ p ∈ (runF rm rs).2.reads, getR rm' p.1 = p.2) :
    (runF rm' rs).1 = (runF rm rs).1 ∧ (runF rm' rs).2.shown = (runF rm rs).2.shown ∧ (runF rm' rs).2.reads = (runF rm rs).2.reads ∧ setsE (runF rm' rs).2 = setsE (runF rm rs).2 := by
  have w : Way rm (runF rm rs).2 := (Way.zero rm).run
  obtain ⟨h1, h2⟩ := (Two.zero rm rm').run (Way.zero rm) (rs := rs) fun z hz => by
    have : ∃ p ∈ (runE (st0 rm) rs).2.reads, p.1 = z := by
      rw [← any_getG, List.any_eq_true] at hz
      obtain ⟨p, hp, e⟩ := hz
      exact ⟨p, hp, of_decide_eq_true e⟩
    obtain ⟨p, hp, rfl⟩ := this
    rw [h p hp, w.val p hp]
  refine ⟨h1, h2.shown, h2.reads, ?_⟩
  unfold setsE
  rw [show (runF rm' rs).2.chg = (runF rm rs).2.chg from h2.chg]
  refine List.map_congr_left fun z hz => ?_
  have hm : z ∈ (runF rm rs).2.chg.map (·.1) := by
    have : ∀ zs : List Str, (sortS zs).Perm zs := by
      intro zs
      induction zs with
      | nil => exact .refl _
      | cons y zs ih => exact (ins_perm y (sortS zs)).trans (ih.cons y)
    exact (this _).mem_iff.mp hz
  obtain ⟨p, hp, rfl⟩ := List.mem_map.mp hm
  rw [show getR (runF rm' rs).2.room p.1 = getR (runF rm rs).2.room p.1 from h2.same p.1 (by rw [← any_getG]; exact List.any_eq_true.mpr ⟨p, hp, decide_eq_true rfl⟩)]
/-! ### one behind another -/
theorem runE_app : ∀ (rs ts : List Row) (st : Rst), runE st (rs ++ ts) = match (runE st rs).1 with | some f => (some f, (runE st rs).2) | none => runE (runE st rs).2 ts
  | [], ts, st => rfl
  | r :: rs, ts, st => by
    cases e : (followE st r).1 with
    | some f => rw [List.cons_append, runE_some e, runE_some e]
    | none => rw [List.cons_append, runE_none e, runE_none e, runE_app rs ts]
structure Sh (pr : List Int) (st st' : Rst) : Prop where
  room : st.room = st'.room
  shown : st.shown = pr ++ st'.shown
section
variable {pr : List Int} {st st' : Rst}
theorem Sh.f0 (h : Sh pr st st') (r : Row0) : (follow0 st r).1 = (follow0 st' r).1 ∧ Sh pr (follow0 st r).2 (follow0 st' r).2 := by
  cases r with
  | drop z => exact ⟨rfl, by show dropR st.room z = dropR st'.room z; rw [h.room], h.shown⟩
  | set z s =>
    have e1 : follow0 st (.set z s) = match (sumE st.room 0 s).1 with | .no f => (some f, workE st s) | .ok v => (none, changeE (workE st s) z (some v)) := rfl
    have e2 : follow0 st' (.set z s) = match (sumE st'.room 0 s).1 with | .no f => (some f, workE st' s) | .ok v => (none, changeE (workE st' s) z (some v)) := rfl
    rw [e1, e2, h.room]
    cases (sumE st'.room 0 s).1 with
    | no f => exact ⟨rfl, h.room, h.shown⟩
    | ok v => exact ⟨rfl, by show putR st.room z v = putR st'.room z v; rw [h.room], h.shown⟩
  | shw s =>
    have e1 : follow0 st (.shw s) = match (sumE st.room 0 s).1 with | .no f => (some f, workE st s) | .ok v => (none, { workE st s with shown := st.shown ++ [v] }) := rfl
    have e2 : follow0 st' (.shw s) = match (sumE st'.room 0 s).1 with | .no f => (some f, workE st' s) | .ok v => (none, { workE st' s with shown := st'.shown ++ [v] }) := rfl
    rw [e1, e2, h.room]
    cases (sumE st'.room 0 s).1 with
    | no f => exact ⟨rfl, h.room, h.shown⟩
    | ok v => exact ⟨rfl, h.room, by show st.shown ++ [v] = pr ++ (st'.shown ++ [v]); rw [h.shown, List.append_assoc]⟩
theorem Sh.follow (h : Sh pr st st') (r : Row) : (followE st r).1 = (followE st' r).1 ∧ Sh pr (followE st r).2 (followE st' r).2 := by
  cases r with
  | pl r => exact h.f0 r
  | cond s r =>
    have e1 : followE st (.cond s r) = match (sumE st.room 0 s).1 with | .no f => (some f, workE st s) | .ok v => if v = 0 then (none, workE st s) else follow0 (workE st s) r := rfl
    have e2 : followE st' (.cond s r) = match (sumE st'.room 0 s).1 with | .no f => (some f, workE st' s) | .ok v => if v = 0 then (none, workE st' s) else follow0 (workE st' s) r := rfl
    have hw : Sh pr (workE st s) (workE st' s) := ⟨h.room, h.shown⟩
    rw [e1, e2, h.room]
    cases (sumE st'.room 0 s).1 with
    | no f => exact ⟨rfl, hw⟩
    | ok v =>
      show (if v = 0 then (none, workE st s) else follow0 (workE st s) r).1 = (if v = 0 then (none, workE st' s) else follow0 (workE st' s) r).1 ∧ Sh pr (if v = 0 then (none, workE st s) else follow0 (workE st s) r).2 (if v = 0 then (none, workE st' s) else follow0 (workE st' s) r).2
      by_cases h0 : v = 0
      · rw [if_pos h0, if_pos h0]
        exact ⟨rfl, hw⟩
      · rw [if_neg h0, if_neg h0]
        exact hw.f0 r
theorem Sh.run : ∀ {rs : List Row} {st st' : Rst}, Sh pr st st' → (runE st rs).1 = (runE st' rs).1 ∧ Sh pr (runE st rs).2 (runE st' rs).2
  | [], st, st', h => ⟨rfl, h⟩
  | r :: rs, st, st', h => by
    obtain ⟨h1, h2⟩ := h.follow r
    cases e : (followE st r).1 with
    | some f =>
      rw [runE_some e, runE_some (h1.symm.trans e)]
      exact ⟨rfl, h2⟩
    | none =>
      rw [runE_none e, runE_none (h1.symm.trans e)]
      exact Sh.run h2
end
/-- TWO CELLS BEHIND ONE ANOTHER -/
theorem run_app {rm : Rm} {rs ts : List Row} (h : (runF rm rs).1 = none) :
    (runF rm (rs ++ ts)).1 = (runF (runF rm rs).2.room ts).1 ∧ (runF rm (rs ++ ts)).2.shown = (runF rm rs).2.shown ++ (runF (runF rm rs).2.room ts).2.shown ∧ (runF rm (rs ++ ts)).2.room = (runF (runF rm rs).2.room ts).2.room := by
  have e : runF rm (rs ++ ts) = runE (runF rm rs).2 ts := by
    unfold runF
    rw [runE_app]
    rw [show (runE (st0 rm) rs).1 = none from h]
  have t : Sh (runF rm rs).2.shown (runF rm rs).2 (st0 (runF rm rs).2.room) := ⟨rfl, (List.append_nil _).symm⟩
  obtain ⟨h1, h2⟩ := t.run (rs := ts)
  rw [e]
  exact ⟨h1, h2.shown, h2.room⟩
/-! ### rooms stay rooms -/
theorem f0_rm {st : Rst} (h : RmOk st.room) (r : Row0) : RmOk (follow0 st r).2.room := by
  cases r with
  | drop z => exact h.drop z
  | set z s =>
    show RmOk (match (sumE st.room 0 s).1 with | .no f => (some f, workE st s) | .ok v => (none, changeE (workE st s) z (some v))).2.room
    cases e : (sumE st.room 0 s).1 with
    | no f => exact h
    | ok v => exact h.put z (sumE_abs (by decide) e)
  | shw s =>
    show RmOk (match (sumE st.room 0 s).1 with | .no f => (some f, workE st s) | .ok v => (none, { workE st s with shown := st.shown ++ [v] })).2.room
    cases (sumE st.room 0 s).1 with
    | no f => exact h
    | ok v => exact h
theorem follow_rm {st : Rst} (h : RmOk st.room) (r : Row) : RmOk (followE st r).2.room := by
  cases r with
  | pl r => exact f0_rm h r
  | cond t r =>
    show RmOk (match (sumE st.room 0 t).1 with | .no f => (some f, workE st t) | .ok v => if v = 0 then (none, workE st t) else follow0 (workE st t) r).2.room
    cases (sumE st.room 0 t).1 with
    | no f => exact h
    | ok v =>
      show RmOk (if v = 0 then (none, workE st t) else follow0 (workE st t) r).2.room
      split
      · exact h
      · exact f0_rm (st := workE st t) h r
theorem run_rm : ∀ {rs : List Row} {st : Rst}, RmOk st.room → RmOk (runE st rs).2.room
  | [], st, h => h
  | r :: rs, st, h => by
    cases e : (followE st r).1 with
    | some f => rw [runE_some e]; exact follow_rm h r
    | none => rw [runE_none e]; exact run_rm (follow_rm h r)

set_option Elab.async false
set_option linter.all false
set_option maxRecDepth 100000
set_option maxHeartbeats 4000000
/-! R2: plain data compared. -/
open PySem PySem.Spec PyProof.Rows L2 TL
theorem plains_of {f : AV → Option PyData} (ih : ∀ {u d}, f u = some d → d.plain = true) : ∀ {xs : List AV} {ds : List PyData}, mapO f xs = some ds → PyData.plainAll ds = true
  | [], ds, h => by cases h; rfl
  | x :: xs, ds, h => by
    unfold mapO at h
    split at h
    · rename_i y ys e1 e2
      cases h
      simp [PyData.plainAll, ih e1, plains_of ih e2]
    · cases h
theorem plain_ints : ∀ xs : List Int, PyData.plainAll (xs.map PyData.int) = true
  | [] => rfl
  | x :: xs => by simp [PyData.plainAll, PyData.plain, plain_ints xs]
theorem toD_plain {S : Sto} : ∀ (n : Nat) {u : AV} {d : PyData}, toD S n u = some d → d.plain = true
  | 0, u, d, h => by cases h
  | n + 1, u, d, h => by
    unfold toD at h
    split at h
    · cases h; rfl
    · cases h; rfl
    · cases h; rfl
    · cases h; rfl
    · obtain ⟨ds, e, rfl⟩ := Option.map_eq_some_iff.mp h
      have := plains_of (fun h => toD_plain n h) e
      simpa [PyData.plain] using this
    · cases h
      rename_i xs
      have := plain_ints xs
      simpa [PyData.plain] using this
    · split at h
      · obtain ⟨ds, e, rfl⟩ := Option.map_eq_some_iff.mp h
        have := plains_of (fun h => toD_plain n h) e
        simpa [PyData.plain] using this
      · cases h
    · cases h
theorem eqS_dat {S : Sto} {u v : AV} {d e : PyData} (h1 : toD S 20 u = some d) (h2 : toD S 20 v = some e) : eqS S u v = some (PyData.eqv d e) := by
  unfold eqS
  simp only [h1, h2]
theorem eqS_same {S : Sto} {u v : AV} {d : PyData} (h : toD S 20 u = some d) (e : v = u) : eqS S u v = some true := by
  subst e
  rw [eqS_dat h h, SeqAt.eqv_refl_plain d (toD_plain 20 h)]
/-- data without lists, so deep -/
def Dat (n : Nat) (u : AV) : Prop := ∀ S m, n ≤ m → ∃ d, toD S m u = some d
theorem Dat.mono {n m : Nat} {u : AV} (h : Dat n u) (hm : n ≤ m) : Dat m u := fun S k hk => h S k (Nat.le_trans hm hk)
theorem Dat.int (i : Int) : Dat 1 (.int i) := fun S m hm => by
  obtain ⟨k, rfl⟩ : ∃ k, m = k + 1 := ⟨m - 1, by omega⟩
  exact ⟨_, rfl⟩
theorem Dat.str (i : Str) : Dat 1 (.str i) := fun S m hm => by
  obtain ⟨k, rfl⟩ : ∃ k, m = k + 1 := ⟨m - 1, by omega⟩
  exact ⟨_, rfl⟩
theorem Dat.bl (i : Bool) : Dat 1 (.bl i) := fun S m hm => by
  obtain ⟨k, rfl⟩ : ∃ k, m = k + 1 := ⟨m - 1, by omega⟩
  exact ⟨_, rfl⟩
theorem Dat.non : Dat 1 .non := fun S m hm => by
  obtain ⟨k, rfl⟩ : ∃ k, m = k + 1 := ⟨m - 1, by omega⟩
  exact ⟨_, rfl⟩
theorem mapO_all {f : AV → Option PyData} : ∀ {xs : List AV}, (∀ x ∈ xs, ∃ d, f x = some d) → ∃ ds, mapO f xs = some ds
  | [], _ => ⟨_, rfl⟩
  | x :: xs, h => by
    obtain ⟨d, e⟩ := h x (List.mem_cons_self ..)
    obtain ⟨ds, e2⟩ := mapO_all (xs := xs) fun y hy => h y (List.mem_cons_of_mem _ hy)
    exact ⟨d :: ds, by unfold mapO; simp only [e, e2]⟩
theorem Dat.tup {n : Nat} {xs : List AV} (h : ∀ x ∈ xs, Dat n x) : Dat (n + 1) (.tup xs) := fun S m hm => by
  obtain ⟨k, rfl⟩ : ∃ k, m = k + 1 := ⟨m - 1, by omega⟩
  obtain ⟨ds, e⟩ := mapO_all (f := toD S k) (xs := xs) fun x hx => h x hx S k (by omega)
  exact ⟨.tuple ds, by unfold toD; simp only [e]; rfl⟩
theorem Dat.at20 {n : Nat} {u : AV} (h : Dat n u) (hn : n ≤ 20 := by decide) (S : Sto) : ∃ d, toD S 20 u = some d := h S 20 hn
/-- a list of data in the store -/
theorem toD_lst {S : Sto} {r n : Nat} {xs : List AV} (h : S[r]? = some (.lst xs)) (hx : ∀ x ∈ xs, Dat n x) (hn : n ≤ 19 := by decide) : ∃ d, toD S 20 (.ref r) = some d := by
  obtain ⟨ds, e⟩ := mapO_all (f := toD S 19) (xs := xs) fun x hx' => hx x hx' S 19 hn
  exact ⟨.list ds, by unfold toD; simp only [h, e]; rfl⟩
theorem Dat.oA (v : Option Int) : Dat 1 (oA v) := by cases v with
  | none => exact .non
  | some i => exact .int i
theorem Dat.fltA (f : Flt) : Dat 2 (fltA f) := by
  cases f with
  | lack z => exact .tup fun x hx => by simp only [List.mem_cons, List.not_mem_nil, or_false] at hx; rcases hx with rfl | rfl <;> exact .str _
  | nought => exact .tup fun x hx => by rw [List.mem_singleton.mp hx]; exact .str _
  | great => exact .tup fun x hx => by rw [List.mem_singleton.mp hx]; exact .str _
theorem Dat.ofltA (f : Option Flt) : Dat 2 (ofltA f) := by
  cases f with
  | none => exact Dat.non.mono (by decide)
  | some f => exact .fltA f
theorem Dat.ints (l : List Int) : Dat 2 (.tup (l.map .int)) := .tup fun x hx => by
  obtain ⟨i, _, rfl⟩ := List.mem_map.mp hx
  exact .int i
theorem Dat.outA (f : Option Flt) (l : List Int) : Dat 3 (outA f l) := .tup fun x hx => by
  simp only [List.mem_cons, List.not_mem_nil, or_false] at hx
  rcases hx with rfl | rfl
  · exact .ints l
  · exact .ofltA f
theorem Dat.pairV (p : Str × Option Int) : Dat 2 (pairV p) := .tup fun x hx => by
  simp only [List.mem_cons, List.not_mem_nil, or_false] at hx
  rcases hx with rfl | rfl
  · exact .str _
  · exact .oA _
theorem Dat.pairsV (l : List (Str × Option Int)) : Dat 3 (pairsV l) := .tup fun x hx => by
  obtain ⟨p, _, rfl⟩ := List.mem_map.mp hx
  exact .pairV p
theorem ev_eqD {S : Sto} {u v : AV} {n : Nat} (h1 : Dat n u) (h2 : Dat n v) (hn : n ≤ 20 := by decide) : ∃ b, eqS S u v = some b ∧ (u = v → b = true) := by
  obtain ⟨d, e1⟩ := h1 S 20 hn
  obtain ⟨e, e2⟩ := h2 S 20 hn
  refine ⟨_, eqS_dat e1 e2, fun h => ?_⟩
  subst h
  rw [e1] at e2
  cases e2
  exact SeqAt.eqv_refl_plain d (toD_plain 20 e1)
/-! things that hold rooms -/
theorem toD_dict {S : Sto} {q : Nat} {kvs : List (Key × AV)} (h : S[q]? = some (.dict kvs)) : ∀ n, toD S n (.ref q) = none
  | 0 => rfl
  | n + 1 => by unfold toD; simp only [h]
theorem mapO_none {f : AV → Option PyData} : ∀ {xs : List AV} {x : AV}, x ∈ xs → f x = none → mapO f xs = none
  | y :: ys, x, h, e => by
    unfold mapO
    rcases List.mem_cons.mp h with rfl | h
    · rw [e]
    · rw [mapO_none h e]
      cases f y <;> rfl
theorem eqT_room {S : Sto} {n q1 q2 : Nat} {rm : Rm} (h1 : S[q1]? = some (.dict (roomK rm))) (h2 : S[q2]? = some (.dict (roomK rm))) (ok : RmOk rm) : eqT S (n + 2) (.ref q1) (.ref q2) = some true := by
  unfold eqT
  simp only [toD_dict h1, toD_dict h2]
  by_cases hq : q1 = q2
  · rw [if_pos hq]
  · rw [if_neg hq]
    simp only [h1, h2]
    have hall : ∀ l : List (Key × AV), (∀ p ∈ l, p ∈ roomK rm) → eqTd (eqT S (n + 1)) (roomK rm) l = some true := by
      intro l
      induction l with
      | nil => intro _; rfl
      | cons p l ih =>
        intro h
        unfold eqTd
        have hp := h p (List.mem_cons_self ..)
        obtain ⟨q, hq, rfl⟩ := List.mem_map.mp hp
        have nd : ((roomK rm).map (·.1)).Nodup := by
          unfold roomK
          rw [List.map_map]
          have : (rm.map ((fun x : Key × AV => x.1) ∘ fun p => (rk p.1, AV.int p.2))) = (rm.map (·.1)).map rk := by rw [List.map_map]; rfl
          rw [this]
          exact List.Pairwise.map rk (fun a b (hab : a ≠ b) => fun e => hab (rk_inj.mp e)) ok.nd
        have hv := valA_nodup nd hp
        have hb : hitB (eqT S (n + 1)) (roomK rm) (rk q.1, AV.int q.2) = some true := by
          unfold hitB
          rw [show valA (roomK rm) (rk q.1) = some (.int q.2) from hv]
          show eqT S (n + 1) (.int q.2) (.int q.2) = _
          unfold eqT
          show some (PyData.eqv (.int q.2) (.int q.2)) = some true
          rw [SeqAt.eqv_refl_plain _ rfl]
        rw [hb, ih fun x hx => h x (List.mem_cons_of_mem _ hx)]
        rfl
    rw [hall _ fun _ h => h]
    simp
theorem eqT_dat {S : Sto} {n k : Nat} {u v : AV} (h : Dat k u) (e : v = u) (hk : k ≤ 20 := by decide) : eqT S (n + 1) u v = some true := by
  subst e
  obtain ⟨d, e1⟩ := h S 20 hk
  unfold eqT
  simp only [e1]
  rw [SeqAt.eqv_refl_plain d (toD_plain 20 e1)]
/-- two told runs that are alike -/
theorem eqS_told {S : Sto} {a b c : AV} {q1 q2 n : Nat} {rm : Rm} (ha : Dat n a) (hb : Dat n b) (hc : Dat n c) (h1 : S[q1]? = some (.dict (roomK rm))) (h2 : S[q2]? = some (.dict (roomK rm))) (ok : RmOk rm) (hn : n ≤ 20 := by decide) :
    eqS S (.tup [a, b, c, .ref q1]) (.tup [a, b, c, .ref q2]) = some true := by
  have t1 : ∀ q, S[q]? = some (.dict (roomK rm)) → toD S 20 (.tup [a, b, c, .ref q]) = none := fun q h => by
    show (mapO (toD S 19) [a, b, c, .ref q]).map PyData.tuple = none
    rw [mapO_none (x := .ref q) (by simp) (toD_dict h 19)]
    rfl
  unfold eqS
  simp only [t1 q1 h1, t1 q2 h2]
  unfold dictEq eqX
  simp only [List.length_cons, List.length_nil, if_true]
  simp only [eqTs, eqT_dat (n := 7) ha rfl hn, eqT_dat (n := 7) hb rfl hn, eqT_dat (n := 7) hc rfl hn, eqT_room (n := 6) h1 h2 ok]
  rfl
theorem eqS_room {S : Sto} {q1 q2 : Nat} {rm : Rm} (h1 : S[q1]? = some (.dict (roomK rm))) (h2 : S[q2]? = some (.dict (roomK rm))) (ok : RmOk rm) : eqS S (.ref q1) (.ref q2) = some true := by
  have fl : (roomK rm).all (fun p => flatA p.2) = true := List.all_eq_true.mpr fun p hp => by
    obtain ⟨q, _, rfl⟩ := List.mem_map.mp hp
    rfl
  unfold eqS
  simp only [toD_dict h1, toD_dict h2]
  unfold dictEq
  simp only [h1, h2, fl]
  rw [show (true && true) = true from rfl, if_pos rfl, same_self ok]
theorem Ok_popE {d e : DE} {n : Nat} {kvs : List (Key × AV)} {z : Str} {v : AV} {η : Nv} {S : Sto} {P : AV → Sto → Prop} (hd : d η S = .ok (.ref n) S) (he : e η S = .ok (.str z) S) (h : S[n]? = some (.dict kvs)) (hv : valA kvs (rk z) = some v) :
    Ok (dPopE d e η S) P = P v (S.set n (.dict (dropA kvs (rk z)))) := by
  unfold dPopE
  have hl : (lstAt S (.ref n)).isSome = false := by
    unfold lstAt
    simp only [h]
    rfl
  simp only [hd, hl]
  rw [if_neg Bool.false_ne_true]
  unfold dPop1
  simp only [hd]
  rw [Ok_bind, Ok_ok, Ok_ite, if_pos (show (dictAt S (.ref n)).isSome = true by rw [dictAt_dct h]; rfl), he, Ok_bind, Ok_ok]
  simp only [dctAt_of h, show keyA (.str z) = some (rk z) from rfl, hv]
  rfl
theorem Go.mid4 {s1 s2 s3 s4 u : DS} {η : Nv} {S : Sto} {N B C : Nv → Sto → Prop} {T : AV → Sto → Prop} (M : Nv → Sto → Prop)
    (h : Go (s1 η S) (fun η S => Go (s2 η S) (fun η S => Go (s3 η S) (fun η S => Go (s4 η S) M T B C) T B C) T B C) T B C) (k : ∀ η S, M η S → Go (u η S) N T B C) : Go (dSeq s1 (dSeq s2 (dSeq s3 (dSeq s4 u))) η S) N T B C := by
  rw [Go_seq]
  refine h.imp (fun η S h => ?_) (fun _ _ h => h) (fun _ _ h => h) fun _ _ h => h
  rw [Go_seq]
  refine h.imp (fun η S h => ?_) (fun _ _ h => h) (fun _ _ h => h) fun _ _ h => h
  rw [Go_seq]
  refine h.imp (fun η S h => ?_) (fun _ _ h => h) (fun _ _ h => h) fun _ _ h => h
  rw [Go_seq]
  exact h.imp k (fun _ _ h => h) (fun _ _ h => h) fun _ _ h => h
theorem eqS_oA {S : Sto} (a b : Option Int) : eqS S (oA a) (oA b) = some (decide (a = b)) := by
  cases a with
  | none =>
    cases b with
    | none => show some (PyData.eqv .none .none) = _; simp [PyData.eqv]
    | some j => show some (PyData.eqv .none (.int j)) = _; simp [PyData.eqv]
  | some i =>
    cases b with
    | none => show some (PyData.eqv (.int i) .none) = _; simp [PyData.eqv]
    | some j => show some (i == j) = _; congr 1; rw [Bool.eq_iff_iff]; simp
theorem put_same : ∀ {rm : Rm} {z : Str} {i : Int}, (rm.map (·.1)).Nodup → getR rm z = some i → putR rm z i = rm := by
  intro rm z i nd h
  have ha : (rm.any fun p => decide (p.1 = z)) = true := by rw [any_get, h]; rfl
  unfold putR
  rw [if_pos ha]
  refine (List.map_congr_left fun p hp => ?_).trans (List.map_id _)
  show (if p.1 = z then (p.1, i) else p) = p
  split
  · rename_i e
    have : getR rm p.1 = some p.2 := by
      have hv := valA_nodup (ks := kvG AV.int rm) (by
        show ((kvG AV.int rm).map (·.1)).Nodup
        unfold kvG
        rw [List.map_map]
        have : (rm.map ((fun x : Key × AV => x.1) ∘ fun p => (rk p.1, AV.int p.2))) = (rm.map (·.1)).map rk := by rw [List.map_map]; rfl
        rw [this]
        exact List.Pairwise.map rk (fun a b (hab : a ≠ b) => fun e => hab (rk_inj.mp e)) nd) (p := (rk p.1, AV.int p.2)) (List.mem_map.mpr ⟨p, hp, rfl⟩)
      have h2 := kvG_val AV.int rm p.1
      rw [show valA (kvG AV.int rm) (rk p.1) = some (.int p.2) from hv] at h2
      rw [getRG]
      cases e2 : getG rm p.1 with
      | none => rw [e2] at h2; cases h2
      | some j =>
        rw [e2] at h2
        have : AV.int p.2 = .int j := Option.some.inj h2
        injection this with this
        rw [this]
    rw [e, h] at this
    have := Option.some.inj this
    rw [this]
  · rfl
theorem Rows4.b {rs : List Row} {h : Nat} (r : Rows4 rs h) : ∀ x ∈ rs, RowOkB x := fun x hx => (r.ok x hx).ok.b
theorem reads_len {rm : Rm} {rs : List Row} (hb : RmB rm) (h6 : rs.length ≤ 6) (hok : ∀ r ∈ rs, RowOkB r) : (runF rm rs).2.reads.length ≤ 240 := by
  have := (RsB.run (L := rm.length) (k := 0) (e := 0) (st := st0 rm) ⟨hb, Nat.le_refl _, Nat.le_refl _, Nat.le_refl _, Nat.le_refl _⟩ hok).el
  exact Nat.le_trans this (by omega)
theorem rng_of {m lo hi : Int} (h0 : 0 ≤ lo) (h1 : lo ≤ 100) (h2 : hi ≤ 100) : ∃ n : Nat, (if (if m < hi then m else hi) > lo then (if m < hi then m else hi) else lo) = (n : Int) ∧ n ≤ 100 := by
  refine ⟨(if (if m < hi then m else hi) > lo then (if m < hi then m else hi) else lo).toNat, ?_, ?_⟩ <;> split <;> (try split) <;> omega

set_option Elab.async false
set_option linter.all false
set_option maxRecDepth 100000
set_option maxHeartbeats 4000000
open PySem PySem.Spec PyProof.Rows L2
/-- names: 0 _law_some, 1 _law_room_here, 2 _law_log, 3 _law_total, 4 _law_side, 5 _law_first, 6 _law_pairs, 7 _law_p, 8 _law_word, 9 _law_atom_here, 10 _law_x -/
def den_Lvalue : List AV → M AV := dDef 3 11 ((dSeq (dSet 3 (dC (.int 0)))
  (dSeq (dFor (bind1 (dV 0) aWalk) (gTp 3 (gsCons (gNm 4) (gsCons (gNm 5) (gsCons (gNm 6) gsNil))))
  (dSeq (dSet 7 (dC (.int 1)))
  (dSeq (dFor (bind1 (bind2 (bind1 (dCons (bind1 (dCons (dC (.str "*")) (dCons (dV 5) dNil)) aTup) dNil) aTup) (dV 6) aAdd) aWalk) (gTp 2 (gsCons (gNm 8) (gsCons (gNm 9) gsNil)))
  (dSeq (dIfS (bind1 (bind1 (dCons (dV 9) (dCons (dC (.ty "str")) dNil)) aIsi) aTru) (dSeq (dEx (dML (dV 2) (dCons (dV 9) dNil) aAppend))
  (dIfS (bind1 (bind2 (dV 9) (dV 1) aNotIn) asB) (dRt (bind1 (dCons (dC .non) (dCons (bind1 (dCons (dC (.str "lack")) (dCons (dV 9) dNil)) aTup) dNil)) aTup)) dNx)) dNx)
  (dSeq (dSet 10 (dIfE (bind1 (bind1 (dCons (dV 9) (dCons (dC (.ty "str")) dNil)) aIsi) aTru) (bind2 (dV 1) (dV 9) aIx) (dV 9)))
  (dSeq (dIfS (dAndB (bind1 (bind2 (dV 8) (dC (.str "//")) aEq) asB) (bind1 (bind2 (dV 10) (dC (.int 0)) aEq) asB)) (dRt (bind1 (dCons (dC .non) (dCons (bind1 (dCons (dC (.str "nought")) dNil) aTup) dNil)) aTup)) dNx)
  (dSeq (dSet 7 (dIfE (bind1 (bind2 (dV 8) (dC (.str "*")) aEq) asB) (bind2 (dV 7) (dV 10) aMul) (bind2 (dV 7) (dV 10) aFdiv)))
  (dIfS (bind1 (bind2 (bind1 (dCons (dV 7) dNil) aAbs) (bind2 (dC (.int 10)) (dC (.int 9)) aPow) aGt) asB) (dRt (bind1 (dCons (dC .non) (dCons (bind1 (dCons (dC (.str "great")) dNil) aTup) dNil)) aTup)) dNx))))))
  (dSeq (dSet 3 (bind2 (dV 3) (bind2 (dV 4) (dV 7) aMul) aAdd))
  (dIfS (bind1 (bind2 (bind1 (dCons (dV 3) dNil) aAbs) (bind2 (dC (.int 10)) (dC (.int 9)) aPow) aGt) asB) (dRt (bind1 (dCons (dC .non) (dCons (bind1 (dCons (dC (.str "great")) dNil) aTup) dNil)) aTup)) dNx)))))
  (dRt (bind1 (dCons (dV 3) (dCons (dC .non) dNil)) aTup)))))
/-- names: 0 _law_row, 1 _law_here, 2 _law_shown, 3 _law_log, 4 _law_touched, 5 _law_value_here, 6 _law_fault -/
def rb_Lstep (rec : List AV → M AV) : List AV → M AV := dDef 5 7 ((dSeq (dIfS (bind1 (bind2 (bind2 (dV 0) (dC (.int 0)) aIx) (dC (.str "drop")) aEq) asB) (dSeq (dEx (dML (dV 4) (dCons (bind2 (dV 0) (dC (.int 1)) aIx) dNil) aAppend))
  (dSeq (dIfS (bind1 (bind2 (bind2 (dV 0) (dC (.int 1)) aIx) (dV 1) aIn) asB) (dEx (dPopE (dV 1) (bind2 (dV 0) (dC (.int 1)) aIx))) dNx)
  (dRt (dC .non)))) dNx)
  (dSeq (dAsg (bind1 (dCons (dIfE (bind1 (bind2 (bind2 (dV 0) (dC (.int 0)) aIx) (dC (.str "if")) aNe) asB) (bind2 (dV 0) (bind1 (dC (.int 1)) aNeg) aIx) (bind2 (dV 0) (dC (.int 1)) aIx)) (dCons (dV 1) (dCons (dV 3) dNil))) den_Lvalue) (gTp 2 (gsCons (gNm 5) (gsCons (gNm 6) gsNil))))
  (dSeq (dIfS (dOrB (bind1 (bind2 (dV 6) (dC .non) aNotN) asB) (dAndB (bind1 (bind2 (bind2 (dV 0) (dC (.int 0)) aIx) (dC (.str "if")) aEq) asB) (bind1 (bind2 (dV 5) (dC (.int 0)) aEq) asB))) (dRt (dV 6)) dNx)
  (dSeq (dIfS (bind1 (bind2 (bind2 (dV 0) (dC (.int 0)) aIx) (dC (.str "if")) aEq) asB) (dRt (bind1 (dCons (bind2 (dV 0) (dC (.int 2)) aIx) (dCons (dV 1) (dCons (dV 2) (dCons (dV 3) (dCons (dV 4) dNil))))) rec)) dNx)
  (dSeq (dIfS (bind1 (bind2 (bind2 (dV 0) (dC (.int 0)) aIx) (dC (.str "show")) aEq) asB) (dSeq (dEx (dML (dV 2) (dCons (dV 5) dNil) aAppend))
  (dRt (dC .non))) dNx)
  (dSeq (dEx (dML (dV 4) (dCons (bind2 (dV 0) (dC (.int 1)) aIx) dNil) aAppend))
  (dSeq (dPut (dV 5) (dV 1) (bind2 (dV 0) (dC (.int 1)) aIx))
  (dRt (dC .non))))))))))
def den_Lstep : List AV → M AV := dRec 2 rb_Lstep
/-- names: 0 _law_rows_here, 1 _law_room_here, 2 _law_here, 3 _law_shown, 4 _law_reads, 5 _law_touched, 6 _law_fault, 7 _law_row, 8 _law_log, 9 _law_more, 10 _law_name, 11 _law_sets, 12 _law_one, 13 _law_value_here -/
def den_Lrun : List AV → M AV := dDef 2 14 ((dSeq (dAsg (bind1 (dCons (bind1 (dCons (dV 1) dNil) aDict) (dCons (bind1 dNil aLst) (dCons (bind1 dNil aLst) (dCons (bind1 dNil aLst) (dCons (dC .non) dNil))))) aTup) (gTp 5 (gsCons (gNm 2) (gsCons (gNm 3) (gsCons (gNm 4) (gsCons (gNm 5) (gsCons (gNm 6) gsNil)))))))
  (dSeq (dFor (bind1 (dV 0) aWalk) (gNm 7)
  (dIfS (bind1 (bind2 (dV 6) (dC .non) aIsN) asB) (dSeq (dPar 8 9 (dCons (bind1 dNil aLst) (dCons (bind1 dNil aLst) dNil)))
  (dSeq (dSet 6 (bind1 (dCons (dV 7) (dCons (dV 2) (dCons (dV 3) (dCons (dV 8) (dCons (dV 9) dNil))))) den_Lstep))
  (dSeq (dFor (bind1 (dV 8) aWalk) (gNm 10)
  (dIfS (dAndB (bind1 (bind2 (dV 10) (dV 5) aNotIn) asB) (bind1 (bind2 (dV 10) (dLc (bind1 (dV 4) aWalk) (.tp [12, 13]) dYes (dV 12)) aNotIn) asB)) (dEx (dML (dV 4) (dCons (bind1 (dCons (dV 10) (dCons (dGet2 (dV 1) (dV 10) (dC .non)) dNil)) aTup) dNil) aAppend)) dNx))
  (dEx (dML (dV 5) (dCons (dV 9) dNil) aExtend))))) dNx))
  (dSeq (dSet 11 (bind1 (dCons (dLc (bind1 (bind1 (dV 5) aSortSet) aWalk) (.nm 10) dYes (bind1 (dCons (dV 10) (dCons (dGet2 (dV 2) (dV 10) (dC .non)) dNil)) aTup)) dNil) aTuple))
  (dRt (bind1 (dCons (bind1 (dCons (bind1 (dCons (dV 3) dNil) aTuple) (dCons (dV 6) dNil)) aTup) (dCons (bind1 (dCons (dV 4) dNil) aTuple) (dCons (dV 11) (dCons (dV 2) dNil)))) aTup))))))

set_option Elab.async false
set_option linter.all false
set_option maxRecDepth 100000
set_option maxHeartbeats 4000000
/-! R3: a run gone through by the law's own way. -/
open PySem PySem.Spec PyProof.Rows L2 TL
theorem absgt (i : Int) : decide ((1000000000 : Int) < if i < 0 then -i else i) = !limB i := by
  unfold limB
  by_cases h : -1000000000 ≤ i ∧ i ≤ 1000000000
  · rw [decide_eq_true h, decide_eq_false (by split <;> omega)]; rfl
  · rw [decide_eq_false h, decide_eq_true (by split <;> omega)]; rfl
theorem Ok_ten9 {S : Sto} {P : AV → Sto → Prop} : Ok (aPow (.int 10) (.int 9) S) P = P (.int 1000000000) S := Ok_pow (by decide)
theorem lvalue_ok {S : Sto} {s : Sm} {r n : Nat} {rm : Rm} {ns : List Str} (hs : SmOkB s) (hr : dictAt S (.ref r) = some (roomK rm)) (hb : RmB rm) (hn : S[n]? = some (.lst (ns.map .str))) (hne : r ≠ n) (hl : ns.length ≤ 1000) :
    Ok (den_Lvalue [smA s, .ref r, .ref n] S) fun v S' => v = resA (sumE rm 0 s).1 ∧ Fr [n] S S' ∧ S'[n]? = some (.lst ((ns ++ (sumE rm 0 s).2).map .str)) := by
  have h20 := hs.n
  have hz : sizeLine = 16777216 := sizeLine_eq
  (unfold den_Lvalue; refine def_ok rfl ?_)
  simp_arith only [smA]
  refine loopT_ok (fun k η S1 => ∃ x4 x5 x6 x7 x8 x9 x10 t ms, η = [some (smA s), some (.ref r), some (.ref n), some (.int t), x4, x5, x6, x7, x8, x9, x10] ∧ Fr [n] S S1 ∧ S1[n]? = some (.lst ((ns ++ ms).map .str)) ∧ t.natAbs ≤ 1000000000 ∧ ms.length ≤ smN (s.take k) ∧ sumE rm 0 s = ((sumE rm t (s.drop k)).1, ms ++ (sumE rm t (s.drop k)).2))
    ⟨_, _, _, _, _, _, _, 0, [], rfl, Fr.refl, by rw [List.append_nil]; exact hn, by decide, Nat.zero_le _, rfl⟩ (fun k x η S1 hx ⟨x4, x5, x6, x7, x8, x9, x10, t, ms, e, f1, hn1, htb, hml, ep⟩ => ?_) fun η S1 ⟨x4, x5, x6, x7, x8, x9, x10, t, ms, e, f1, hn1, htb, hml, ep⟩ => ?_
  · subst e
    rw [List.getElem?_map] at hx
    obtain ⟨p, hq, rfl⟩ := Option.map_eq_some_iff.mp hx
    have hk : k < s.length := (List.getElem?_eq_some_iff.mp hq).1
    have hq' : s[k] = p := (List.getElem?_eq_some_iff.mp hq).2
    have okp := hs.ok p (mem_get hq)
    have ok2 : allOk ((true, p.fst) :: p.prs) := by
      unfold prdOk at okp
      rw [Bool.and_eq_true, List.all_eq_true] at okp
      intro q hq
      rcases List.mem_cons.mp hq with rfl | hq
      · exact okp.1
      · exact okp.2 q hq
    have hN := smN_mem (mem_get hq)
    have hpN : prdN p = 1 + p.prs.length := rfl
    have htk : smN (s.take k) ≤ smN s := by
      have e : smN s = smN (s.take k) + smN (s.drop k) := by
        unfold smN
        rw [← List.sum_append, ← List.map_append, List.take_append_drop]
      omega
    have htk1 : smN (s.take (k + 1)) = smN (s.take k) + prdN p := by
      rw [List.take_add_one, hq]
      unfold smN
      rw [List.map_append, List.sum_append]
      rfl
    rw [List.drop_eq_getElem_cons hk, hq'] at ep
    simp_arith only [prdA]
    rw [Ok_addT (by rw [List.length_map]; simp; omega)]
    have e0 : [AV.tup [.str "*", atmA p.fst]] ++ p.prs.map prA = ((true, p.fst) :: p.prs).map prA := rfl
    rw [e0]
    have ep1 : prdE rm p = prodE rm 1 ((true, p.fst) :: p.prs) := rfl
    have lall : ((true, p.fst) :: p.prs).length ≤ 21 := by simp; omega
    generalize hall : (true, p.fst) :: p.prs = all at ok2 ep1 lall ⊢
    simp_arith only []
    refine loopT_ok (fun j η S2 => ∃ x8 x9 x10 q ls, η = [some (smA s), some (.ref r), some (.ref n), some (.int t), some (.int (sgI p.neg)), some (atmA p.fst), some (.tup (p.prs.map prA)), some (.int q), x8, x9, x10] ∧ Fr [n] S S2 ∧ S2[n]? = some (.lst ((ns ++ (ms ++ ls)).map .str)) ∧ q.natAbs ≤ 1000000000 ∧ ls.length ≤ j ∧ prodE rm 1 all = ((prodE rm q (all.drop j)).1, ls ++ (prodE rm q (all.drop j)).2))
      ⟨_, _, _, 1, [], rfl, f1, by rw [List.append_nil]; exact hn1, by decide, Nat.le_refl _, rfl⟩ (fun j x η S2 hx ⟨x8, x9, x10, q, ls, e, f2, hn2, hqb, hll, eq⟩ => ?_) fun η S2 ⟨x8, x9, x10, q, ls, e, f2, hn2, hqb, hll, eq⟩ => ?_
    · subst e
      rw [List.getElem?_map] at hx
      obtain ⟨q2, hq2, rfl⟩ := Option.map_eq_some_iff.mp hx
      have hj : j < all.length := (List.getElem?_eq_some_iff.mp hq2).1
      have hq2' : all[j] = q2 := (List.getElem?_eq_some_iff.mp hq2).2
      obtain ⟨m, b⟩ := q2
      have okb : atmOk b = true := ok2 _ (mem_get hq2)
      rw [List.drop_eq_getElem_cons hj, hq2'] at eq
      have hll2 : (ls ++ atomS b).length ≤ j + 1 := by
        rw [List.length_append]
        cases b with
        | num _ => exact Nat.le_succ_of_le hll
        | nm _ => exact Nat.succ_le_succ hll
      -- a fault within ends the whole
      have bad : ∀ (f : Flt) (S3 : Sto), prodE rm 1 all = (.no f, ls ++ atomS b) → Fr [n] S S3 → S3[n]? = some (.lst ((ns ++ (ms ++ (ls ++ atomS b))).map .str)) →
          AV.tup [.non, fltA f] = resA (sumE rm 0 s).1 ∧ Fr [n] S S3 ∧ S3[n]? = some (.lst ((ns ++ (sumE rm 0 s).2).map .str)) := by
        intro f S3 e1 f3 hn3
        rw [← ep1] at e1
        have e2 : sumE rm 0 s = (.no f, ms ++ (ls ++ atomS b)) := by rw [ep, sumE_no (by rw [e1]), e1]
        rw [e2]
        exact ⟨rfl, f3, hn3⟩
      have hz2 : sizeLine = 16777216 := sizeLine_eq
      have hap : (ns ++ (ms ++ ls)).length < 100000 := by rw [List.length_append, List.length_append]; omega
      rw [show prA (m, b) = .tup [.str (jS m), atmA b] from rfl, tgS_tp2]
      simp only [List.set_cons_zero, List.set_cons_succ]
      -- the name, where there is one
      refine Go.mid (fun η S3 => η = [some (smA s), some (.ref r), some (.ref n), some (.int t), some (.int (sgI p.neg)), some (atmA p.fst), some (.tup (p.prs.map prA)), some (.int q), some (.str (jS m)), some (atmA b), x10] ∧ Fr [n] S S3 ∧ S3[n]? = some (.lst ((ns ++ (ms ++ (ls ++ atomS b))).map .str)) ∧ ∃ x, atomN rm b = .ok x) ?_ ?_
      · cases b with
        | num c =>
          simp_arith [show atmA (.num c) = .int c from rfl, Ok_isi (u := AV.int c) (k := "int") (T := "str") rfl kit_is]
          exact ⟨trivial, f2, by rw [show atomS (.num c) = [] from rfl, List.append_nil]; exact hn2, _, rfl⟩
        | nm z =>
          simp_arith [show atmA (.nm z) = .str z from rfl, Ok_isi (u := AV.str z) (k := "str") (T := "str") rfl kit_ss, lstAt_of hn2, Option.isSome]
          rw [Ok_append hn2 (by rw [List.length_map]; omega)]
          have hr2 : dictAt (S2.set n (.lst ((ns ++ (ms ++ ls)).map .str ++ [.str z]))) (.ref r) = some (roomK rm) := dictAt_on (dictAt_on hr f2 (by simpa using hne)) (Fr.set n _) (by simpa using hne)
          have hn3 : (S2.set n (.lst ((ns ++ (ms ++ ls)).map .str ++ [.str z])))[n]? = some (.lst ((ns ++ (ms ++ (ls ++ atomS (.nm z)))).map .str)) := by
            rw [set_same (lt_of hn2)]
            simp [atomS]
          have f3 : Fr [n] S (S2.set n (.lst ((ns ++ (ms ++ ls)).map .str ++ [.str z]))) := f2.trans (Fr.set n _)
          generalize S2.set n (.lst ((ns ++ (ms ++ ls)).map .str ++ [.str z])) = S3 at hr2 hn3 f3 ⊢
          simp_arith [in_room hr2]
          cases ez : getR rm z with
          | none =>
            simp_arith [Option.isSome, Bool.not_false]
            exact bad (.lack z) S3 (by rw [eq, prodE_no (by show (match getR rm z with | some i => Res.ok i | none => .no (.lack z)) = _; rw [ez])]) f3 hn3
          | some i =>
            simp_arith [Option.isSome, Bool.not_true]
            exact ⟨trivial, f3, hn3, i, by show (match getR rm z with | some i => Res.ok i | none => .no (.lack z)) = _; rw [ez]⟩
      · rintro _ S3 ⟨rfl, f3, hn3, x, ea⟩
        have hr3 := dictAt_on hr f3 (by simpa using hne)
        have hxb := atomN_abs hb okb ea
        -- its value
        refine Go.mid (fun η S4 => S4 = S3 ∧ η = [some (smA s), some (.ref r), some (.ref n), some (.int t), some (.int (sgI p.neg)), some (atmA p.fst), some (.tup (p.prs.map prA)), some (.int q), some (.str (jS m)), some (atmA b), some (.int x)]) ?_ ?_
        · cases b with
          | num c =>
            simp_arith [show atmA (.num c) = .int c from rfl, Ok_isi (u := AV.int c) (k := "int") (T := "str") rfl kit_is]
            cases ea
            exact ⟨trivial, rfl⟩
          | nm z =>
            have ez : getR rm z = some x := by
              have h' : (match getR rm z with | some i => Res.ok i | none => .no (.lack z)) = .ok x := ea
              cases e : getR rm z with
              | none => rw [e] at h'; cases h'
              | some i => rw [e] at h'; cases h'; rfl
            simp_arith [show atmA (.nm z) = .str z from rfl, Ok_isi (u := AV.str z) (k := "str") (T := "str") rfl kit_ss]
            rw [Ok_room hr3 ez]
            exact ⟨rfl, rfl⟩
        · rintro _ S4 ⟨rfl, rfl⟩
          have noB : ∀ f : Flt, join2 q m x = .no f → prodE rm 1 all = (.no f, ls ++ atomS b) := fun f ej => by rw [eq, prodE_no2 ea ej]
          have okB : ∀ v : Int, join2 q m x = .ok v → prodE rm 1 all = ((prodE rm v (all.drop (j + 1))).1, (ls ++ atomS b) ++ (prodE rm v (all.drop (j + 1))).2) := fun v ej => by rw [eq, prodE_ok ea ej, List.append_assoc]
          cases m with
          | true =>
            have mu : CMulB q x := .inl (by omega)
            simp_arith [show (jS true == ("//" : Str)) = false by decide +kernel, show (jS true == ("*" : Str)) = true by decide +kernel, Ok_mul mu, Ok_ten9]
            rw [absgt]
            cases hl2 : limB (q * x) with
            | false =>
              simp_arith [Bool.not_false]
              exact bad .great S4 (noB _ (lim_false hl2)) f3 hn3
            | true =>
              simp_arith [Bool.not_true]
              exact ⟨_, _, _, _, _, rfl, f3, hn3, join2_abs (m := true) (lim_true hl2), hll2, okB _ (lim_true hl2)⟩
          | false =>
            by_cases h0 : x = 0
            · subst h0
              simp_arith [show (jS false == ("//" : Str)) = true by decide +kernel, show ((0 : Int) == 0) = true by decide]
              exact bad .nought S4 (noB _ (by unfold join2; rfl)) f3 hn3
            · have hd : CDivB q x := ⟨h0, hxb⟩
              have hx0 : (x == (0 : Int)) = false := beq_false_of_ne h0
              have ej : join2 q false x = lim (q.fdiv x) := by unfold join2; rw [if_neg Bool.false_ne_true, if_neg h0]
              simp_arith [show (jS false == ("//" : Str)) = true by decide +kernel, show (jS false == ("*" : Str)) = false by decide +kernel, hx0, Ok_fdiv hd, Ok_ten9]
              rw [absgt]
              cases hl2 : limB (q.fdiv x) with
              | false =>
                simp_arith [Bool.not_false]
                exact bad .great S4 (noB _ (ej.trans (lim_false hl2))) f3 hn3
              | true =>
                simp_arith [Bool.not_true]
                exact ⟨_, _, _, _, _, rfl, f3, hn3, join2_abs (ej.trans (lim_true hl2)), hll2, okB _ (ej.trans (lim_true hl2))⟩
    · subst e
      rw [List.length_map, List.drop_length] at eq
      have ev1 : prdE rm p = (.ok q, ls) := by rw [ep1, eq]; unfold prodE; rw [List.append_nil]
      have hml2 : (ms ++ ls).length ≤ smN (s.take (k + 1)) := by
        rw [List.length_append, htk1]
        have h4 := prdE_len rm p
        rw [ev1] at h4
        have h5 : ls.length ≤ prdN p := h4
        omega
      have mu : CMulB (sgI p.neg) q := .inl (by cases p.neg <;> decide)
      simp_arith only [Ok_mul mu, Ok_ten9]
      rw [absgt]
      cases hl2 : limB (t + sgI p.neg * q) with
      | false =>
        simp_arith [Bool.not_false]
        have e2 : sumE rm 0 s = (.no .great, ms ++ ls) := by rw [ep, sumE_no2 (by rw [ev1]) (lim_false hl2), ev1]
        rw [e2]
        exact ⟨rfl, f2, hn2⟩
      | true =>
        simp_arith [Bool.not_true]
        exact ⟨_, _, _, _, _, _, _, _, ms ++ ls, rfl, f2, hn2, lim_abs (lim_true hl2), hml2, by rw [ep, sumE_ok (by rw [ev1]) (lim_true hl2), ev1, List.append_assoc]⟩
  · subst e
    rw [List.length_map, List.drop_length] at ep
    have ep' : sumE rm 0 s = (.ok t, ms) := by rw [ep]; show (Res.ok t, ms ++ []) = _; rw [List.append_nil]
    simp_arith only []
    rw [ep']
    exact ⟨rfl, f1, hn1⟩

set_option Elab.async false
set_option linter.all false
set_option maxRecDepth 100000
set_option maxHeartbeats 4000000
/-! R4: a row, and a run, gone through by the law's own way. -/
open PySem PySem.Spec PyProof.Rows L2 TL
theorem w_set_set : (("set" : Str) == ("set" : Str)) = true := by decide +kernel
theorem w_set_drop : (("set" : Str) == ("drop" : Str)) = false := by decide +kernel
theorem w_set_show : (("set" : Str) == ("show" : Str)) = false := by decide +kernel
theorem w_set_if : (("set" : Str) == ("if" : Str)) = false := by decide +kernel
theorem w_drop_set : (("drop" : Str) == ("set" : Str)) = false := by decide +kernel
theorem w_drop_drop : (("drop" : Str) == ("drop" : Str)) = true := by decide +kernel
theorem w_drop_show : (("drop" : Str) == ("show" : Str)) = false := by decide +kernel
theorem w_drop_if : (("drop" : Str) == ("if" : Str)) = false := by decide +kernel
theorem w_show_set : (("show" : Str) == ("set" : Str)) = false := by decide +kernel
theorem w_show_drop : (("show" : Str) == ("drop" : Str)) = false := by decide +kernel
theorem w_show_show : (("show" : Str) == ("show" : Str)) = true := by decide +kernel
theorem w_show_if : (("show" : Str) == ("if" : Str)) = false := by decide +kernel
theorem w_if_set : (("if" : Str) == ("set" : Str)) = false := by decide +kernel
theorem w_if_drop : (("if" : Str) == ("drop" : Str)) = false := by decide +kernel
theorem w_if_show : (("if" : Str) == ("show" : Str)) = false := by decide +kernel
theorem w_if_if : (("if" : Str) == ("if" : Str)) = true := by decide +kernel
/-- what a row did -/
structure Stp where
  flt : Option Flt
  room : Rm
  shw : List Int
  log : List Str
  tch : List Str
def row0L (rm : Rm) : Row0 → Stp
  | .drop z => ⟨none, dropR rm z, [], [], [z]⟩
  | .set z s => match (sumE rm 0 s).1 with
    | .no f => ⟨some f, rm, [], (sumE rm 0 s).2, []⟩
    | .ok v => ⟨none, putR rm z v, [], (sumE rm 0 s).2, [z]⟩
  | .shw s => match (sumE rm 0 s).1 with
    | .no f => ⟨some f, rm, [], (sumE rm 0 s).2, []⟩
    | .ok v => ⟨none, rm, [v], (sumE rm 0 s).2, []⟩
def rowL (rm : Rm) : Row → Stp
  | .pl r => row0L rm r
  | .cond t r => match (sumE rm 0 t).1 with
    | .no f => ⟨some f, rm, [], (sumE rm 0 t).2, []⟩
    | .ok v => if v = 0 then ⟨none, rm, [], (sumE rm 0 t).2, []⟩ else ⟨(row0L rm r).flt, (row0L rm r).room, (row0L rm r).shw, (sumE rm 0 t).2 ++ (row0L rm r).log, (row0L rm r).tch⟩
/-- the four things that a row is done with -/
structure Fo (S : Sto) (h a b c : Nat) (rm : Rm) (sh : List Int) (lg tc : List Str) : Prop where
  h_ : S[h]? = some (.dict (roomK rm))
  a_ : S[a]? = some (.lst (sh.map .int))
  b_ : S[b]? = some (.lst (lg.map .str))
  c_ : S[c]? = some (.lst (tc.map .str))
  ha : h ≠ a
  hb : h ≠ b
  hc : h ≠ c
  ab : a ≠ b
  ac : a ≠ c
  bc : b ≠ c
section
variable {S S' : Sto} {h a b c : Nat} {rm : Rm} {sh : List Int} {lg tc : List Str}
theorem Fo.on (F : Fo S h a b c rm sh lg tc) (f : Fr [] S S') : Fo S' h a b c rm sh lg tc := { F with h_ := f.get F.h_ (by simp), a_ := f.get F.a_ (by simp), b_ := f.get F.b_ (by simp), c_ := f.get F.c_ (by simp) }
theorem Fo.log (F : Fo S h a b c rm sh lg tc) {ms : List Str} (f : Fr [b] S S') (e : S'[b]? = some (.lst ((lg ++ ms).map .str))) : Fo S' h a b c rm sh (lg ++ ms) tc :=
  { F with h_ := f.get F.h_ (by simpa using F.hb), a_ := f.get F.a_ (by simpa using F.ab), b_ := e, c_ := f.get F.c_ (by simpa using Ne.symm F.bc) }
theorem Fo.shw (F : Fo S h a b c rm sh lg tc) (v : Int) : Fo (S.set a (.lst (sh.map .int ++ [.int v]))) h a b c rm (sh ++ [v]) lg tc :=
  { F with h_ := set_other F.h_ F.ha, a_ := by rw [set_same (lt_of F.a_), List.map_append]; rfl, b_ := set_other F.b_ (Ne.symm F.ab), c_ := set_other F.c_ (Ne.symm F.ac) }
theorem Fo.tch (F : Fo S h a b c rm sh lg tc) (z : Str) : Fo (S.set c (.lst (tc.map .str ++ [.str z]))) h a b c rm sh lg (tc ++ [z]) :=
  { F with h_ := set_other F.h_ F.hc, a_ := set_other F.a_ F.ac, b_ := set_other F.b_ F.bc, c_ := by rw [set_same (lt_of F.c_), List.map_append]; rfl }
theorem Fo.room (F : Fo S h a b c rm sh lg tc) (rm' : Rm) : Fo (S.set h (.dict (roomK rm'))) h a b c rm' sh lg tc :=
  { F with h_ := set_same (lt_of F.h_), a_ := set_other F.a_ (Ne.symm F.ha), b_ := set_other F.b_ (Ne.symm F.hb), c_ := set_other F.c_ (Ne.symm F.hc) }
theorem Fr.at1 {W : List Nat} {n : Nat} {o : AO} (hn : n ∈ W) (f : Fr W S S') : Fr W S (S'.set n o) := f.trans ((Fr.set n o).mono fun m hm _ => by rw [List.mem_singleton.mp hm]; exact hn)
theorem Fr.sub {W W' : List Nat} {S1 : Sto} (f : Fr W S S1) (g : Fr W' S1 S') (h : ∀ n ∈ W', n ∈ W) : Fr W S S' := f.trans (g.mono fun n hn _ => h n hn)
theorem atI_mm2 {x y : AV} : atI [x, y] (-1) = some y := by simp [atI, ixN]
theorem atI_mm3 {x y z : AV} : atI [x, y, z] (-1) = some z := by simp [atI, ixN]
theorem ofltA_non : ofltA none = .non := rfl
theorem ofltA_some (f : Flt) : ofltA (some f) = fltA f := rfl
theorem isNon_flt (f : Flt) : isNon (fltA f) = false := by cases f <;> rfl
theorem lstep0_ok {rec : List AV → M AV} {r : Row0} (F : Fo S h a b c rm sh lg tc) (hB : RmB rm) (hr : Row0OkB r) (hl : rm.length ≤ 100000) (ls : sh.length ≤ 1000) (ll : lg.length ≤ 1000) (lt : tc.length ≤ 1000) :
    Ok (rb_Lstep rec [row0A r, .ref h, .ref a, .ref b, .ref c] S) fun v S' => v = ofltA (row0L rm r).flt ∧ Fo S' h a b c (row0L rm r).room (sh ++ (row0L rm r).shw) (lg ++ (row0L rm r).log) (tc ++ (row0L rm r).tch) ∧ Fr [h, a, b, c] S S' := by
  have hz : sizeLine = 16777216 := sizeLine_eq
  (unfold rb_Lstep; refine def_ok rfl ?_)
  cases r with
  | drop z =>
    simp_arith [row0A, w_drop_drop, lstAt_of F.c_, Option.isSome, Ok_append F.c_ (show (tc.map AV.str).length < sizeLine by rw [List.length_map]; omega)]
    have F1 := F.tch z
    have f1 : Fr [h, a, b, c] S (S.set c (.lst (tc.map .str ++ [.str z]))) := Fr.at1 (by simp) Fr.refl
    generalize S.set c (.lst (tc.map .str ++ [.str z])) = S1 at F1 f1 ⊢
    simp_arith [in_room (dictAt_dct F1.h_)]
    have hd : dropR rm z = (row0L rm (.drop z)).room := rfl
    cases e : getR rm z with
    | none =>
      simp_arith [Option.isSome]
      have e2 : dropR rm z = rm := by
        unfold dropR
        rw [List.filter_eq_self]
        intro p hp
        rw [decide_eq_true_eq]
        intro q
        have hi : (rm.any fun p => decide (p.1 = z)) = true := List.any_eq_true.mpr ⟨p, hp, decide_eq_true q⟩
        rw [any_get, e] at hi
        cases hi
      refine ⟨rfl, ?_, f1⟩
      rw [show (row0L rm (.drop z)) = ⟨none, dropR rm z, [], [], [z]⟩ from rfl, e2]
      simpa using F1
    | some i =>
      simp_arith [Option.isSome]
      rw [Ok_popE (n := h) (kvs := roomK rm) (z := z) (v := .int i) rfl rfl F1.h_ (by rw [roomK_val, e]; rfl)]
      refine ⟨rfl, ?_, Fr.at1 (by simp) f1⟩
      rw [roomK_drop, show (row0L rm (.drop z)) = ⟨none, dropR rm z, [], [], [z]⟩ from rfl]
      simpa using F1.room (dropR rm z)
  | set z s =>
    simp_arith [row0A, w_set_drop, w_set_if, w_set_show, atI_mm3]
    refine (lvalue_ok hr (dictAt_dct F.h_) hB F.b_ F.hb ll).imp fun v S1 ⟨e, f1, hb1⟩ => ?_
    subst e
    have F1 := F.log f1 hb1
    have f1' : Fr [h, a, b, c] S S1 := Fr.refl.sub f1 (by simp)
    cases ef : (sumE rm 0 s).1 with
    | no f =>
      have e1 : row0L rm (.set z s) = ⟨some f, rm, [], (sumE rm 0 s).2, []⟩ := by show (match (sumE rm 0 s).1 with | .no f => (⟨some f, rm, [], (sumE rm 0 s).2, []⟩ : Stp) | .ok v => ⟨none, putR rm z v, [], (sumE rm 0 s).2, [z]⟩) = _; rw [ef]
      rw [e1]
      obtain ⟨xs, hxs⟩ := fltA_tup f
      simp_arith [resA, resV, resF, hxs, Bool.not_false, Bool.not_true]
      exact ⟨hxs.symm, by simpa using F1, f1'⟩
    | ok v =>
      have e1 : row0L rm (.set z s) = ⟨none, putR rm z v, [], (sumE rm 0 s).2, [z]⟩ := by show (match (sumE rm 0 s).1 with | .no f => (⟨some f, rm, [], (sumE rm 0 s).2, []⟩ : Stp) | .ok v => ⟨none, putR rm z v, [], (sumE rm 0 s).2, [z]⟩) = _; rw [ef]
      rw [e1]
      simp_arith [resA, resV, resF, Bool.not_true, lstAt_of F1.c_, Option.isSome, Ok_append F1.c_ (show (tc.map AV.str).length < sizeLine by rw [List.length_map]; omega)]
      have F2 := F1.tch z
      have f2 : Fr [h, a, b, c] S (S1.set c (.lst (tc.map .str ++ [.str z]))) := Fr.at1 (by simp) f1'
      generalize S1.set c (.lst (tc.map .str ++ [.str z])) = S2 at F2 f2 ⊢
      rw [putS_dct (k := rk z) F2.h_ rfl (by unfold roomK; rw [List.length_map]; omega), roomK_put]
      simp_arith []
      exact ⟨rfl, by simpa using F2.room (putR rm z v), Fr.at1 (by simp) f2⟩
  | shw s =>
    simp_arith [row0A, w_show_drop, w_show_if, w_show_show, atI_mm2]
    refine (lvalue_ok hr (dictAt_dct F.h_) hB F.b_ F.hb ll).imp fun v S1 ⟨e, f1, hb1⟩ => ?_
    subst e
    have F1 := F.log f1 hb1
    have f1' : Fr [h, a, b, c] S S1 := Fr.refl.sub f1 (by simp)
    cases ef : (sumE rm 0 s).1 with
    | no f =>
      have e1 : row0L rm (.shw s) = ⟨some f, rm, [], (sumE rm 0 s).2, []⟩ := by show (match (sumE rm 0 s).1 with | .no f => (⟨some f, rm, [], (sumE rm 0 s).2, []⟩ : Stp) | .ok v => ⟨none, rm, [v], (sumE rm 0 s).2, []⟩) = _; rw [ef]
      rw [e1]
      obtain ⟨xs, hxs⟩ := fltA_tup f
      simp_arith [resA, resV, resF, hxs, Bool.not_false, Bool.not_true]
      exact ⟨hxs.symm, by simpa using F1, f1'⟩
    | ok v =>
      have e1 : row0L rm (.shw s) = ⟨none, rm, [v], (sumE rm 0 s).2, []⟩ := by show (match (sumE rm 0 s).1 with | .no f => (⟨some f, rm, [], (sumE rm 0 s).2, []⟩ : Stp) | .ok v => ⟨none, rm, [v], (sumE rm 0 s).2, []⟩) = _; rw [ef]
      rw [e1]
      simp_arith [resA, resV, resF, Bool.not_true, lstAt_of F1.a_, Option.isSome, Ok_append F1.a_ (show (sh.map AV.int).length < sizeLine by rw [List.length_map]; omega)]
      exact ⟨rfl, by simpa using F1.shw v, Fr.at1 (by simp) f1'⟩
theorem lstep_ok {r : Row} (F : Fo S h a b c rm sh lg tc) (hB : RmB rm) (hr : RowOkB r) (hl : rm.length ≤ 100000) (ls : sh.length ≤ 1000) (ll : lg.length ≤ 900) (lt : tc.length ≤ 1000) :
    Ok (den_Lstep [rowA r, .ref h, .ref a, .ref b, .ref c] S) fun v S' => v = ofltA (rowL rm r).flt ∧ Fo S' h a b c (rowL rm r).room (sh ++ (rowL rm r).shw) (lg ++ (rowL rm r).log) (tc ++ (rowL rm r).tch) ∧ Fr [h, a, b, c] S S' := by
  unfold den_Lstep
  cases r with
  | pl r => exact lstep0_ok F hB hr hl ls (by omega) lt
  | cond t r =>
    show Ok (rb_Lstep (rb_Lstep fun _ _ => .bad) [rowA (.cond t r), .ref h, .ref a, .ref b, .ref c] S) _
    have rec_ok := fun (S1 : Sto) (lg1 : List Str) (F1 : Fo S1 h a b c rm sh lg1 tc) (l1 : lg1.length ≤ 1000) => lstep0_ok (rec := fun _ _ => .bad) F1 hB hr.2 hl ls l1 lt
    generalize rb_Lstep (fun _ _ => R.bad) = rec at rec_ok ⊢
    have h20 := hr.1.n
    have hlen := sumE_len rm t 0
    (unfold rb_Lstep; refine def_ok rfl ?_)
    simp_arith [rowA, w_if_drop, w_if_if, w_if_show, atI_mm3]
    refine (lvalue_ok hr.1 (dictAt_dct F.h_) hB F.b_ F.hb (by omega)).imp fun v S1 ⟨e, f1, hb1⟩ => ?_
    subst e
    have F1 := F.log f1 hb1
    have f1' : Fr [h, a, b, c] S S1 := Fr.refl.sub f1 (by simp)
    cases ef : (sumE rm 0 t).1 with
    | no f =>
      have e1 : rowL rm (.cond t r) = ⟨some f, rm, [], (sumE rm 0 t).2, []⟩ := by
        show (match (sumE rm 0 t).1 with | .no f => (⟨some f, rm, [], (sumE rm 0 t).2, []⟩ : Stp) | .ok v => if v = 0 then ⟨none, rm, [], (sumE rm 0 t).2, []⟩ else ⟨(row0L rm r).flt, (row0L rm r).room, (row0L rm r).shw, (sumE rm 0 t).2 ++ (row0L rm r).log, (row0L rm r).tch⟩) = _
        rw [ef]
      rw [e1]
      obtain ⟨xs, hxs⟩ := fltA_tup f
      simp_arith [resA, resV, resF, hxs, Bool.not_false, Bool.not_true]
      exact ⟨hxs.symm, by simpa using F1, f1'⟩
    | ok v =>
      have e1 : rowL rm (.cond t r) = if v = 0 then ⟨none, rm, [], (sumE rm 0 t).2, []⟩ else ⟨(row0L rm r).flt, (row0L rm r).room, (row0L rm r).shw, (sumE rm 0 t).2 ++ (row0L rm r).log, (row0L rm r).tch⟩ := by
        show (match (sumE rm 0 t).1 with | .no f => (⟨some f, rm, [], (sumE rm 0 t).2, []⟩ : Stp) | .ok v => if v = 0 then ⟨none, rm, [], (sumE rm 0 t).2, []⟩ else ⟨(row0L rm r).flt, (row0L rm r).room, (row0L rm r).shw, (sumE rm 0 t).2 ++ (row0L rm r).log, (row0L rm r).tch⟩) = _
        rw [ef]
      rw [e1]
      by_cases h0 : v = 0
      · subst h0
        simp_arith [resA, resV, resF, Bool.not_true, show ((0 : Int) == 0) = true by decide]
        exact ⟨rfl, by simpa using F1, f1'⟩
      · rw [if_neg h0]
        simp_arith [resA, resV, resF, Bool.not_true, show (v == (0 : Int)) = false from beq_false_of_ne h0]
        refine (rec_ok S1 _ F1 (by rw [List.length_append]; omega)).imp fun u S2 ⟨e, F2, f2⟩ => ⟨e, ?_, f1'.trans f2⟩
        rw [List.append_assoc] at F2
        exact F2
end

set_option Elab.async false
set_option linter.all false
set_option maxRecDepth 100000
set_option maxHeartbeats 4000000
/-! R5: a run gone through by the law's own way. -/
open PySem PySem.Spec PyProof.Rows L2 TL
theorem mapO_strs {S : Sto} {n : Nat} : ∀ zs : List Str, mapO (toD S (n + 1)) (zs.map .str) = some (zs.map PyData.str)
  | [] => rfl
  | z :: zs => by
    rw [List.map_cons]
    unfold mapO
    rw [mapO_strs zs]
    rfl
theorem toD_strs {S : Sto} {r n : Nat} {zs : List Str} (h : S[r]? = some (.lst (zs.map .str))) : toD S (n + 2) (.ref r) = some (.list (zs.map PyData.str)) := by
  unfold toD
  simp only [h, mapO_strs]
  rfl
theorem in_lst {S : Sto} {r : Nat} {z : Str} {zs : List Str} (h : S[r]? = some (.lst (zs.map .str))) : inS S (.str z) (.ref r) = some (decide (z ∈ zs)) := by
  unfold inS
  have h1 : dictAt S (.ref r) = none := by unfold dictAt; simp only [h]
  simp only [h1, toD_strs (n := 18) h, show toD S 20 (.str z) = some (.str z) from rfl]
  congr 1
  rw [List.any_map]
  rw [Bool.eq_iff_iff, List.any_eq_true, decide_eq_true_eq]
  constructor
  · rintro ⟨y, hy, q⟩
    have : (y == z) = true := q
    rw [← eq_of_beq this]
    exact hy
  · exact fun q => ⟨z, q, by show (z == z) = true; exact beq_self_eq_true z⟩
def addRd (rm : Rm) (tc : List Str) (z : Str) (rd : List (Str × Option Int)) : List (Str × Option Int) := if z ∈ tc ∨ z ∈ rd.map (·.1) then rd else rd ++ [(z, getR rm z)]
def readsL (rm : Rm) (tc : List Str) (zs : List Str) (rd : List (Str × Option Int)) : List (Str × Option Int) := zs.foldl (fun rd z => addRd rm tc z rd) rd
structure RunL where
  flt : Option Flt
  room : Rm
  shown : List Int
  reads : List (Str × Option Int)
  tch : List Str
def stepL (rm : Rm) (s : RunL) (r : Row) : RunL := match s.flt with
  | some _ => s
  | none => ⟨(rowL s.room r).flt, (rowL s.room r).room, s.shown ++ (rowL s.room r).shw, readsL rm s.tch (rowL s.room r).log s.reads, s.tch ++ (rowL s.room r).tch⟩
def runL (rm : Rm) (rs : List Row) : RunL := rs.foldl (stepL rm) ⟨none, rm, [], [], []⟩
theorem addRd_len (rm : Rm) (tc : List Str) (z : Str) (rd : List (Str × Option Int)) : (addRd rm tc z rd).length ≤ rd.length + 1 := by
  unfold addRd
  split
  · omega
  · rw [List.length_append]; exact Nat.le_refl _
theorem readsL_len (rm : Rm) (tc : List Str) : ∀ (zs : List Str) (rd : List (Str × Option Int)), (readsL rm tc zs rd).length ≤ rd.length + zs.length
  | [], rd => Nat.le_refl _
  | z :: zs, rd => by
    have h1 := readsL_len rm tc zs (addRd rm tc z rd)
    have h2 := addRd_len rm tc z rd
    show (readsL rm tc zs (addRd rm tc z rd)).length ≤ _
    rw [List.length_cons]
    omega
theorem row0L_b {rm : Rm} {r : Row0} (hB : RmB rm) (hr : Row0OkB r) : RmB (row0L rm r).room ∧ (row0L rm r).room.length ≤ rm.length + 1 ∧ (row0L rm r).shw.length ≤ 1 ∧ (row0L rm r).tch.length ≤ 1 ∧ (row0L rm r).log.length ≤ 20 := by
  cases r with
  | drop z => exact ⟨fun p hp => hB p (List.mem_filter.mp hp).1, Nat.le_trans (dropR_len _ _) (Nat.le_succ _), Nat.zero_le _, Nat.le_refl _, Nat.zero_le _⟩
  | set z s =>
    have h1 := sumE_len rm s 0
    have h2 : smN s ≤ 20 := SmOkB.n hr
    have e1 : row0L rm (.set z s) = match (sumE rm 0 s).1 with | .no f => (⟨some f, rm, [], (sumE rm 0 s).2, []⟩ : Stp) | .ok v => ⟨none, putR rm z v, [], (sumE rm 0 s).2, [z]⟩ := rfl
    rw [e1]
    cases ef : (sumE rm 0 s).1 with
    | no f => exact ⟨hB, Nat.le_succ _, Nat.zero_le _, Nat.zero_le _, Nat.le_trans h1 h2⟩
    | ok v => exact ⟨hB.put z (Nat.lt_of_le_of_lt (sumE_abs (by decide) ef) (by decide)), putR_len _ _ _, Nat.zero_le _, Nat.le_refl _, Nat.le_trans h1 h2⟩
  | shw s =>
    have h1 := sumE_len rm s 0
    have h2 : smN s ≤ 20 := SmOkB.n hr
    have e1 : row0L rm (.shw s) = match (sumE rm 0 s).1 with | .no f => (⟨some f, rm, [], (sumE rm 0 s).2, []⟩ : Stp) | .ok v => ⟨none, rm, [v], (sumE rm 0 s).2, []⟩ := rfl
    rw [e1]
    cases ef : (sumE rm 0 s).1 with
    | no f => exact ⟨hB, Nat.le_succ _, Nat.zero_le _, Nat.zero_le _, Nat.le_trans h1 h2⟩
    | ok v => exact ⟨hB, Nat.le_succ _, Nat.le_refl _, Nat.zero_le _, Nat.le_trans h1 h2⟩
theorem rowL_no {rm : Rm} {t : Sm} {r : Row0} {f : Flt} (ef : (sumE rm 0 t).1 = .no f) : rowL rm (.cond t r) = ⟨some f, rm, [], (sumE rm 0 t).2, []⟩ := by
  unfold rowL
  simp only [ef]
theorem rowL_ok {rm : Rm} {t : Sm} {r : Row0} {v : Int} (ef : (sumE rm 0 t).1 = .ok v) : rowL rm (.cond t r) = if v = 0 then ⟨none, rm, [], (sumE rm 0 t).2, []⟩ else ⟨(row0L rm r).flt, (row0L rm r).room, (row0L rm r).shw, (sumE rm 0 t).2 ++ (row0L rm r).log, (row0L rm r).tch⟩ := by
  unfold rowL
  simp only [ef]
theorem stepL_some {rm : Rm} {s : RunL} {r : Row} {f : Flt} (e : s.flt = some f) : stepL rm s r = s := by unfold stepL; rw [e]
theorem stepL_none {rm : Rm} {s : RunL} {r : Row} (e : s.flt = none) : stepL rm s r = ⟨(rowL s.room r).flt, (rowL s.room r).room, s.shown ++ (rowL s.room r).shw, readsL rm s.tch (rowL s.room r).log s.reads, s.tch ++ (rowL s.room r).tch⟩ := by unfold stepL; rw [e]
theorem rowL_b {rm : Rm} {r : Row} (hB : RmB rm) (hr : RowOkB r) : RmB (rowL rm r).room ∧ (rowL rm r).room.length ≤ rm.length + 1 ∧ (rowL rm r).shw.length ≤ 1 ∧ (rowL rm r).tch.length ≤ 1 ∧ (rowL rm r).log.length ≤ 40 := by
  cases r with
  | pl r =>
    obtain ⟨h1, h2, h3, h4, h5⟩ := row0L_b hB (r := r) hr
    exact ⟨h1, h2, h3, h4, Nat.le_trans h5 (by decide)⟩
  | cond t r =>
    obtain ⟨h1, h2, h3, h4, h5⟩ := row0L_b hB (r := r) hr.2
    have g1 := sumE_len rm t 0
    have g2 : smN t ≤ 20 := SmOkB.n hr.1
    cases ef : (sumE rm 0 t).1 with
    | no f =>
      rw [rowL_no ef]
      exact ⟨hB, Nat.le_succ _, Nat.zero_le _, Nat.zero_le _, Nat.le_trans g1 (Nat.le_trans g2 (by decide))⟩
    | ok v =>
      rw [rowL_ok ef]
      split
      · exact ⟨hB, Nat.le_succ _, Nat.zero_le _, Nat.zero_le _, Nat.le_trans g1 (Nat.le_trans g2 (by decide))⟩
      · refine ⟨h1, h2, h3, h4, ?_⟩
        rw [List.length_append]
        omega
structure RlB (s : RunL) (L k : Nat) : Prop where
  b : RmB s.room
  rl : s.room.length ≤ L + k
  sl : s.shown.length ≤ k
  el : s.reads.length ≤ 40 * k
  tl : s.tch.length ≤ k
theorem RlB.step {rm : Rm} {s : RunL} {L k : Nat} (h : RlB s L k) {r : Row} (hr : RowOkB r) : RlB (stepL rm s r) L (k + 1) := by
  cases e : s.flt with
  | some f =>
    rw [stepL_some e]
    exact ⟨h.b, by have := h.rl; omega, by have := h.sl; omega, by have := h.el; omega, by have := h.tl; omega⟩
  | none =>
    obtain ⟨h1, h2, h3, h4, h5⟩ := rowL_b h.b hr
    rw [stepL_none e]
    refine ⟨h1, ?_, ?_, ?_, ?_⟩
    · have := h.rl
      show (rowL s.room r).room.length ≤ _
      omega
    · show (s.shown ++ _).length ≤ _
      have := h.sl
      rw [List.length_append]; omega
    · have h6 := readsL_len rm s.tch (rowL s.room r).log s.reads
      have := h.el
      show (readsL rm s.tch (rowL s.room r).log s.reads).length ≤ _
      omega
    · show (s.tch ++ _).length ≤ _
      have := h.tl
      rw [List.length_append]; omega
/-- what the run is done with -/
structure Lr (S0 S : Sto) (n : Nat) (s : RunL) : Prop where
  h_ : S[n]? = some (.dict (roomK s.room))
  a_ : S[n + 1]? = some (.lst (s.shown.map .int))
  e_ : S[n + 2]? = some (.lst (s.reads.map pairV))
  c_ : S[n + 3]? = some (.lst (s.tch.map .str))
  fr : Fr [] S0 S
  n0 : S0.length = n
theorem tgS_tp5 {S : Sto} {η : Nv} {i j k l m : Nat} {a b c d e : AV} {P : Nv → Sto → Prop} : tgS (gTp 5 (gsCons (gNm i) (gsCons (gNm j) (gsCons (gNm k) (gsCons (gNm l) (gsCons (gNm m) gsNil)))))) (.tup [a, b, c, d, e]) η S P = P (((((η.set i (some a)).set j (some b)).set k (some c)).set l (some d)).set m (some e)) S := rfl
theorem Fr.up {S0 S S' : Sto} {W : List Nat} (f : Fr [] S0 S) (g : Fr W S S') (h : ∀ n ∈ W, S0.length ≤ n) : Fr [] S0 S' :=
  ⟨Nat.le_trans f.le g.le, fun n hn _ => (g.at_ n (Nat.lt_of_lt_of_le hn f.le) fun hm => absurd (h n hm) (Nat.not_le_of_lt hn)).trans (f.at_ n hn (by simp))⟩
theorem pairV_eq (z : Str) (v : Option Int) : AV.tup [.str z, oA v] = pairV (z, v) := rfl
theorem takeL {rs : List Row} {k : Nat} {x : Row} (rm : Rm) (h : rs[k]? = some x) : runL rm (rs.take (k + 1)) = stepL rm (runL rm (rs.take k)) x := by
  unfold runL
  rw [List.take_add_one, h, Option.toList_some, List.foldl_append]
  rfl
theorem oA_get (o : Option Int) : (o.map AV.int).getD .non = oA o := by cases o <;> rfl
theorem room_kv (rm : Rm) : roomK rm = kvG AV.int rm := rfl
theorem lrun_ok {S : Sto} {r : Nat} {rs : List Row} {rm : Rm} (hr : dictAt S (.ref r) = some (roomK rm)) (hb : RmB rm) (hl : rm.length ≤ 50000) (h6 : rs.length ≤ 6) (hok : ∀ r ∈ rs, RowOkB r) :
    Ok (den_Lrun [rowsA rs, .ref r] S) fun v S' => v = .tup [outA (runL rm rs).flt (runL rm rs).shown, pairsV (runL rm rs).reads, pairsV ((sortS (ddS (runL rm rs).tch)).map fun z => (z, getR (runL rm rs).room z)), .ref S.length] ∧ S'[S.length]? = some (.dict (roomK (runL rm rs).room)) ∧ Fr [] S S' := by
  have hz : sizeLine = 16777216 := sizeLine_eq
  (unfold den_Lrun; refine def_ok rfl ?_)
  simp_arith only [Ok_dict hr, Ok_lst (xs := []) (by decide), tgS_tp5, rowsA, List.length_append]
  have init : Lr S ((S ++ [AO.dict (roomK rm)] ++ [AO.lst []]) ++ [AO.lst []] ++ [AO.lst []]) S.length ⟨none, rm, [], [], []⟩ := by
    refine ⟨?_, ?_, ?_, ?_, Fr.refl.more.more.more.more, rfl⟩
    · exact app_get (app_get (app_get app_new))
    · exact app_get (app_get (by rw [← app_len (o := AO.dict (roomK rm))]; exact app_new))
    · exact app_get (by rw [show S.length + 2 = (S ++ [AO.dict (roomK rm)] ++ [AO.lst []]).length by simp]; exact app_new)
    · rw [show S.length + 3 = (S ++ [AO.dict (roomK rm)] ++ [AO.lst []] ++ [AO.lst []]).length by simp]; exact app_new
  generalize (S ++ [AO.dict (roomK rm)] ++ [AO.lst []]) ++ [AO.lst []] ++ [AO.lst []] = S1 at init ⊢
  refine loopT_ok (fun k η S2 => ∃ x7 x8 x9 x10 x11 x12 x13, η = [some (.tup (rs.map rowA)), some (.ref r), some (.ref S.length), some (.ref (S.length + 1)), some (.ref (S.length + 2)), some (.ref (S.length + 3)), some (ofltA (runL rm (rs.take k)).flt), x7, x8, x9, x10, x11, x12, x13] ∧ Lr S S2 S.length (runL rm (rs.take k)) ∧ RlB (runL rm (rs.take k)) rm.length k)
    ⟨_, _, _, _, _, _, _, rfl, init, hb, Nat.le_refl _, Nat.le_refl _, Nat.le_refl _, Nat.le_refl _⟩ (fun k x η S2 hx ⟨x7, x8, x9, x10, x11, x12, x13, e, L, B⟩ => ?_) fun η S2 ⟨x7, x8, x9, x10, x11, x12, x13, e, L, B⟩ => ?_
  · subst e
    rw [List.getElem?_map] at hx
    obtain ⟨row, hrow, rfl⟩ := Option.map_eq_some_iff.mp hx
    have hk : k < rs.length := (List.getElem?_eq_some_iff.mp hrow).1
    have okr := hok row (mem_get hrow)
    rw [takeL rm hrow]
    have B' := B.step (rm := rm) okr
    generalize runL rm (rs.take k) = s at L B B' ⊢
    cases ef : s.flt with
    | some f =>
      obtain ⟨xs, hxs⟩ := fltA_tup f
      simp_arith only [ofltA_some, hxs]
      rw [stepL_some ef] at B' ⊢
      exact ⟨_, _, _, _, _, _, _, by rw [ef, ofltA_some, hxs], L, B'⟩
    | none =>
      simp_arith only [ofltA_non, Ok_lst (xs := []) (by decide)]
      have ln : S.length + 3 < S2.length := lt_of L.c_
      rw [app_len]
      have F0 : Fo (S2 ++ [AO.lst []] ++ [AO.lst []]) S.length (S.length + 1) S2.length (S2.length + 1) s.room s.shown [] [] :=
        ⟨app_get (app_get L.h_), app_get (app_get L.a_), app_get app_new, by rw [← app_len (o := AO.lst [])]; exact app_new, by omega, by omega, by omega, by omega, by omega, by omega⟩
      have L0 : Lr S (S2 ++ [AO.lst []] ++ [AO.lst []]) S.length s := ⟨app_get (app_get L.h_), app_get (app_get L.a_), app_get (app_get L.e_), app_get (app_get L.c_), L.fr.more.more, rfl⟩
      have hb := B.b
      have hrl := B.rl
      have hsl := B.sl
      have htl := B.tl
      have hel := B.el
      have hbq := rowL_b hb okr
      refine (lstep_ok F0 hb okr (by omega) (by omega) (by simp) (by simp)).imp fun v S3 ⟨e, F1, f1⟩ => ?_
      subst e
      rw [List.nil_append, List.nil_append] at F1
      have e3 : S3[S.length + 2]? = some (.lst (s.reads.map pairV)) := f1.get L0.e_ (by simp; omega)
      have c3 : S3[S.length + 3]? = some (.lst (s.tch.map .str)) := f1.get L0.c_ (by simp; omega)
      have fr3 : Fr [] S S3 := L0.fr.up f1 (by simp; omega)
      clear F0 L0 f1
      have es := stepL_none (rm := rm) (r := row) ef
      generalize rowL s.room row = q at F1 hbq es ⊢
      rw [Ok_walkL F1.b_]
      refine loopL_ok (r := S2.length) (xs := q.log.map .str) (fun j η S4 => (∃ x10 x11 x12 x13, η = [some (.tup (rs.map rowA)), some (.ref r), some (.ref S.length), some (.ref (S.length + 1)), some (.ref (S.length + 2)), some (.ref (S.length + 3)), some (ofltA q.flt), some (rowA row), some (.ref S2.length), some (.ref (S2.length + 1)), x10, x11, x12, x13]) ∧ S4[S.length + 2]? = some (.lst ((readsL rm s.tch (q.log.take j) s.reads).map pairV)) ∧ Fr [S.length + 2] S3 S4)
        (fun j η S4 ⟨_, _, f⟩ => f.get F1.b_ (by simp; omega)) ⟨⟨_, _, _, _, rfl⟩, e3, Fr.refl⟩ (fun j x η S4 hx ⟨⟨x10, x11, x12, x13, e⟩, e4, f4⟩ => ?_) fun η S4 ⟨⟨x10, x11, x12, x13, e⟩, e4, f4⟩ => ?_
      · subst e
        rw [List.getElem?_map] at hx
        obtain ⟨z, hz2, rfl⟩ := Option.map_eq_some_iff.mp hx
        have hj : j < q.log.length := (List.getElem?_eq_some_iff.mp hz2).1
        have er : readsL rm s.tch (q.log.take (j + 1)) s.reads = addRd rm s.tch z (readsL rm s.tch (q.log.take j) s.reads) := by
          unfold readsL
          rw [List.take_add_one, hz2, Option.toList_some, List.foldl_append]
          rfl
        have hrl2 := readsL_len rm s.tch (q.log.take j) s.reads
        rw [List.length_take] at hrl2
        rw [er]
        generalize readsL rm s.tch (q.log.take j) s.reads = rd at e4 hrl2 ⊢
        have c4 := f4.get c3 (by simp)
        simp_arith only [in_lst c4]
        by_cases h1 : z ∈ s.tch
        · rw [decide_eq_true h1]
          simp_arith only []
          exact ⟨⟨_, _, _, _, rfl⟩, by rw [show addRd rm s.tch z rd = rd from if_pos (.inl h1)]; exact e4, f4⟩
        · rw [decide_eq_false h1]
          simp_arith only [Ok_walkL e4]
          refine collQL_ok (W := []) pairV (fun p => .str p.1) e4 (by simp) (by omega) (fun p S5 _ f5 => ⟨_, rfl, ?_⟩) fun S5 f5 => ?_
          · simp_arith only []
            exact ⟨trivial, Fr.refl⟩
          · have m5 : (S5 ++ [AO.lst (rd.map fun p => AV.str p.1)])[S5.length]? = some (.lst ((rd.map (·.1)).map .str)) := by rw [List.map_map]; exact app_new
            have e5 := app_get (o := AO.lst (rd.map fun p => AV.str p.1)) (f5.get e4 (by simp))
            have f5' : Fr [S.length + 2] S3 (S5 ++ [AO.lst (rd.map fun p => AV.str p.1)]) := (f4.step0 f5).more
            have hr5 : dictAt (S5 ++ [AO.lst (rd.map fun p => AV.str p.1)]) (.ref r) = some (roomK rm) := dictAt_on hr (fr3.up f5' (by simp)) (by simp)
            generalize S5 ++ [AO.lst (rd.map fun p => AV.str p.1)] = S6 at m5 e5 f5' hr5 ⊢
            simp_arith only [in_lst m5]
            by_cases h2 : z ∈ rd.map (·.1)
            · rw [decide_eq_true h2]
              simp_arith only []
              exact ⟨⟨_, _, _, _, rfl⟩, by rw [show addRd rm s.tch z rd = rd from if_pos (.inr h2)]; exact e5, f5'⟩
            · rw [decide_eq_false h2]
              have hrs : (dictAt S6 (.ref r)).isSome = true := by rw [hr5]; rfl
              simp_arith only [isL e5, Ok_get2, hrs, getS_of (hr5.trans (congrArg some (room_kv rm))), oA_get]
              rw [Ok_append e5 (by rw [List.length_map]; omega)]
              refine ⟨⟨_, _, _, _, rfl⟩, ?_, f5'.trans (Fr.set _ _)⟩
              rw [show addRd rm s.tch z rd = rd ++ [(z, getR rm z)] from if_neg (fun h => h.elim h1 h2), set_same (lt_of e5), List.map_append]
              rfl
      · subst e
        rw [List.length_map, List.take_length] at e4
        have c4 := f4.get c3 (by simp)
        have b4 := f4.get F1.c_ (by simp; omega)
        simp_arith only [isL c4]
        rw [Ok_extend c4 b4 (by rw [List.length_map, List.length_map]; omega), es]
        refine ⟨_, _, _, _, _, _, _, rfl, ?_, by rw [← es]; exact B'⟩
        have fin : Fr [] S (S4.set (S.length + 3) (.lst (s.tch.map .str ++ q.tch.map .str))) := (fr3.up f4 (by simp)).up (Fr.set _ _) (by simp)
        refine ⟨set_other (f4.get F1.h_ (by simp)) (by omega), set_other (f4.get F1.a_ (by simp)) (by omega), set_other e4 (by omega), ?_, fin, rfl⟩
        rw [set_same (lt_of c4), ← List.map_append]
  · subst e
    rw [List.length_map, List.take_length] at *
    generalize runL rm rs = s at L B ⊢
    have htl := B.tl
    have hh := L.h_
    simp_arith only []
    rw [show aSortSet (.ref (S.length + 3)) S2 = .ok (.ref S2.length) (S2 ++ [.lst ((sortS (ddS s.tch)).map .str)]) from ?_]
    · have s3 : (S2 ++ [AO.lst ((sortS (ddS s.tch)).map .str)])[S2.length]? = some (.lst ((sortS (ddS s.tch)).map .str)) := app_new
      rw [Ok_ok, Ok_walkL s3]
      refine collQL_ok (W := []) AV.str (fun z => pairV (z, getR s.room z)) s3 (by simp) (by rw [sort_len]; have := dd_len s.tch; omega) (fun z S5 _ f5 => ⟨_, rfl, ?_⟩) fun S5 f5 => ?_
      · have hd : dictAt S5 (.ref S.length) = some (kvG AV.int s.room) := dictAt_dct (f5.get (app_get hh) (by simp))
        have hds : (dictAt S5 (.ref S.length)).isSome = true := by rw [hd]; rfl
        simp_arith only [Ok_get2, hds, getS_of hd, oA_get]
        exact ⟨rfl, Fr.refl⟩
      · rw [Ok_tupleL app_new]
        have f6 : Fr [] S2 (S5 ++ [AO.lst ((sortS (ddS s.tch)).map fun z => pairV (z, getR s.room z))]) := ((Fr.app _).trans f5).more
        have a6 := f6.get L.a_ (by simp)
        have e6 := f6.get L.e_ (by simp)
        have h6 := f6.get hh (by simp)
        have fr6 := L.fr.up f6 (by simp)
        generalize S5 ++ [AO.lst ((sortS (ddS s.tch)).map fun z => pairV (z, getR s.room z))] = S6 at a6 e6 h6 fr6 ⊢
        simp_arith only [Ok_tupleL a6, Ok_tupleL e6]
        refine ⟨?_, h6, fr6⟩
        unfold outA pairsV
        rw [List.map_map]
        rfl
    · unfold aSortSet
      have h1 : seqLA S2 (.ref (S.length + 3)) = some (s.tch.map .str) := by unfold seqLA; simp only [L.c_]
      have h2 : strsA (s.tch.map AV.str) = some s.tch := strsA_map _
      simp only [h1, h2, if_pos (show s.tch.length < 1000 by omega)]

set_option Elab.async false
set_option linter.all false
set_option maxRecDepth 100000
set_option maxHeartbeats 4000000
/-! R6: both ways of a run agree. -/
open PySem PySem.Spec PyProof.Rows L2 TL
def chgE (c : List (Str × Unit)) (zs : List Str) : List (Str × Unit) := zs.foldl (fun c z => putG c z ()) c
theorem follow0_eq (st : Rst) (r : Row0) : follow0 st r = ((row0L st.room r).flt, ⟨(row0L st.room r).room, st.shown ++ (row0L st.room r).shw, readE st (row0L st.room r).log, chgE st.chg (row0L st.room r).tch⟩) := by
  cases r with
  | drop z =>
    show (none, changeE st z none) = (none, (⟨dropR st.room z, st.shown ++ [], st.reads, putG st.chg z ()⟩ : Rst))
    rw [List.append_nil]
    rfl
  | set z s =>
    unfold follow0 row0L
    cases ef : (sumE st.room 0 s).1 <;> simp only [ef, List.append_nil] <;> rfl
  | shw s =>
    unfold follow0 row0L
    cases ef : (sumE st.room 0 s).1 <;> simp only [ef, List.append_nil] <;> rfl
theorem followE_eq (st : Rst) (r : Row) : followE st r = ((rowL st.room r).flt, ⟨(rowL st.room r).room, st.shown ++ (rowL st.room r).shw, readE st (rowL st.room r).log, chgE st.chg (rowL st.room r).tch⟩) := by
  cases r with
  | pl r => exact follow0_eq st r
  | cond t r =>
    unfold followE
    cases ef : (sumE st.room 0 t).1 with
    | no f =>
      simp only [ef]
      rw [rowL_no ef]
      show (some f, workE st t) = (some f, (⟨st.room, st.shown ++ [], readE st (sumE st.room 0 t).2, st.chg⟩ : Rst))
      rw [List.append_nil]
      rfl
    | ok v =>
      simp only [ef]
      rw [rowL_ok ef]
      show (if v = 0 then (none, workE st t) else follow0 (workE st t) r) = _
      split
      · show (none, workE st t) = (none, (⟨st.room, st.shown ++ [], readE st (sumE st.room 0 t).2, st.chg⟩ : Rst))
        rw [List.append_nil]
        rfl
      · rw [follow0_eq]
        show ((row0L st.room r).flt, (⟨(row0L st.room r).room, st.shown ++ (row0L st.room r).shw, readE (workE st t) (row0L st.room r).log, chgE st.chg (row0L st.room r).tch⟩ : Rst)) = ((row0L st.room r).flt, ⟨(row0L st.room r).room, st.shown ++ (row0L st.room r).shw, readE st ((sumE st.room 0 t).2 ++ (row0L st.room r).log), chgE st.chg (row0L st.room r).tch⟩)
        congr 2
        show readE (workE st t) (row0L st.room r).log = _
        unfold readE
        rw [List.foldl_append]
        rfl
theorem putG_same {α : Type} : ∀ {r : List (Str × α)} {z : Str} {v : α}, (∀ p ∈ r, p.1 = z → p.2 = v) → z ∈ r.map (·.1) → putG r z v = r := by
  intro r z v h hz
  unfold putG
  rw [if_pos ?_]
  · conv => rhs; rw [← List.map_id r]
    refine List.map_congr_left fun p hp => ?_
    split
    · rename_i e
      rw [← h p hp e]
      rfl
    · rfl
  · obtain ⟨p, hp, e⟩ := List.mem_map.mp hz
    exact List.any_eq_true.mpr ⟨p, hp, decide_eq_true e⟩
theorem putG_new {α : Type} {r : List (Str × α)} {z : Str} {v : α} (hz : z ∉ r.map (·.1)) : putG r z v = r ++ [(z, v)] := by
  unfold putG
  rw [if_neg]
  intro h
  obtain ⟨p, hp, e⟩ := List.any_eq_true.mp h
  exact hz (List.mem_map.mpr ⟨p, hp, of_decide_eq_true e⟩)
theorem putG_nd {α : Type} {r : List (Str × α)} {z : Str} {v : α} (h : (r.map (·.1)).Nodup) : ((putG r z v).map (·.1)).Nodup := by
  by_cases hz : z ∈ r.map (·.1)
  · unfold putG
    rw [if_pos (by obtain ⟨p, hp, e⟩ := List.mem_map.mp hz; exact List.any_eq_true.mpr ⟨p, hp, decide_eq_true e⟩), List.map_map]
    have : ((fun x : Str × α => x.1) ∘ fun p => if p.1 = z then (p.1, v) else p) = fun x => x.1 := by
      funext p
      show (if p.1 = z then (p.1, v) else p).1 = p.1
      split <;> rfl
    rw [this]
    exact h
  · rw [putG_new hz, List.map_append]
    refine List.nodup_append.mpr ⟨h, by simp, fun a ha b hb => ?_⟩
    rw [List.map_cons, List.map_nil, List.mem_singleton] at hb
    subst hb
    exact fun e => hz (e ▸ ha)
/-- the law's way and the program's stand alike -/
structure Ag (rm : Rm) (st : Rst) (s : RunL) : Prop where
  room : s.room = st.room
  shown : s.shown = st.shown
  reads : s.reads = st.reads
  tch : ∀ z, z ∈ s.tch ↔ (getG st.chg z).isSome = true
  way : Way rm st
  nd : (st.chg.map (·.1)).Nodup
theorem reads_ag {rm : Rm} {st : Rst} {tc : List Str} (hk : ∀ z, z ∈ tc ↔ (getG st.chg z).isSome = true) (w : Way rm st) : ∀ (zs : List Str) (rd : List (Str × Option Int)), (∀ p ∈ rd, p.2 = getR rm p.1) →
    zs.foldl (fun rd n => if (getG st.chg n).isSome then rd else putG rd n (getR st.room n)) rd = readsL rm tc zs rd
  | [], rd, _ => rfl
  | z :: zs, rd, h => by
    have e : (if (getG st.chg z).isSome then rd else putG rd z (getR st.room z)) = addRd rm tc z rd := by
      unfold addRd
      by_cases h1 : z ∈ tc
      · rw [if_pos ((hk z).mp h1), if_pos (.inl h1)]
      · have h2 : getG st.chg z = none := by
          cases e : getG st.chg z with
          | none => rfl
          | some u => exact absurd ((hk z).mpr (by rw [e]; rfl)) h1
        rw [if_neg (by rw [h2]; simp), w.keep z h2]
        by_cases h3 : z ∈ rd.map (·.1)
        · rw [if_pos (.inr h3), putG_same (fun p hp e => by rw [h p hp, e]) h3]
        · rw [if_neg (fun q => q.elim h1 h3), putG_new h3]
    have h' : ∀ p ∈ addRd rm tc z rd, p.2 = getR rm p.1 := by
      intro p hp
      unfold addRd at hp
      split at hp
      · exact h p hp
      · rcases List.mem_append.mp hp with hp | hp
        · exact h p hp
        · rw [List.mem_singleton.mp hp]
    rw [List.foldl_cons, e]
    exact reads_ag hk w zs _ h'
theorem chgE_some (c : List (Str × Unit)) (z : Str) : ∀ (zs : List Str), (getG (chgE c zs) z).isSome = true ↔ z ∈ zs ∨ (getG c z).isSome = true := by
  intro zs
  induction zs generalizing c with
  | nil => simp [chgE]
  | cons y zs ih =>
    show (getG (chgE (putG c y ()) zs) z).isSome = true ↔ _
    rw [ih, getG_put, List.mem_cons]
    by_cases e : z = y
    · subst e
      simp
    · rw [if_neg e]
      simp [e]
theorem chgE_nd (c : List (Str × Unit)) (h : (c.map (·.1)).Nodup) : ∀ (zs : List Str), ((chgE c zs).map (·.1)).Nodup := by
  intro zs
  induction zs generalizing c with
  | nil => exact h
  | cons y zs ih => exact ih _ (putG_nd h)
theorem ag_step {rm : Rm} {st : Rst} {s : RunL} (a : Ag rm st s) (ef : s.flt = none) (r : Row) : (stepL rm s r).flt = (followE st r).1 ∧ Ag rm (followE st r).2 (stepL rm s r) := by
  have w2 := a.way.follow r
  rw [followE_eq] at w2 ⊢
  rw [stepL_none ef, a.room, a.shown, a.reads]
  refine ⟨rfl, rfl, rfl, ?_, fun z => ?_, w2, chgE_nd _ a.nd _⟩
  · exact (reads_ag a.tch a.way _ _ a.way.val).symm
  · show z ∈ s.tch ++ (rowL st.room r).tch ↔ (getG (chgE st.chg (rowL st.room r).tch) z).isSome = true
    rw [chgE_some, List.mem_append, a.tch z]
    exact Or.comm
theorem fold_stop {rm : Rm} {s : RunL} {f : Flt} (e : s.flt = some f) : ∀ rs : List Row, rs.foldl (stepL rm) s = s
  | [] => rfl
  | r :: rs => by
    rw [List.foldl_cons, stepL_some e]
    exact fold_stop e rs
theorem ag_run {rm : Rm} : ∀ (rs : List Row) {st : Rst} {s : RunL}, Ag rm st s → s.flt = none → (rs.foldl (stepL rm) s).flt = (runE st rs).1 ∧ Ag rm (runE st rs).2 (rs.foldl (stepL rm) s)
  | [], st, s, a, e => ⟨e, a⟩
  | r :: rs, st, s, a, e => by
    obtain ⟨h1, h2⟩ := ag_step a e r
    rw [List.foldl_cons]
    cases ef : (followE st r).1 with
    | some f =>
      rw [runE_some ef, fold_stop (h1.trans ef)]
      exact ⟨h1.trans ef, h2⟩
    | none =>
      rw [runE_none ef]
      exact ag_run rs h2 (h1.trans ef)
/-- a run by both ways -/
theorem runL_eq (rm : Rm) (rs : List Row) : (runL rm rs).flt = (runF rm rs).1 ∧ (runL rm rs).room = (runF rm rs).2.room ∧ (runL rm rs).shown = (runF rm rs).2.shown ∧ (runL rm rs).reads = (runF rm rs).2.reads ∧
    ((sortS (ddS (runL rm rs).tch)).map fun z => (z, getR (runL rm rs).room z)) = setsE (runF rm rs).2 := by
  have a0 : Ag rm (st0 rm) ⟨none, rm, [], [], []⟩ := ⟨rfl, rfl, rfl, fun z => by simp [st0, getG], ⟨fun _ _ => rfl, fun p hp => by cases hp⟩, List.nodup_nil⟩
  obtain ⟨h1, h2⟩ := ag_run rs a0 rfl
  refine ⟨h1, h2.room, h2.shown, h2.reads, ?_⟩
  have e : sortS (ddS (runL rm rs).tch) = sortS ((runF rm rs).2.chg.map (·.1)) := by
    refine sort_congr (perm_of_mem (dd_nodup _) h2.nd fun z => ?_)
    rw [mem_dd]
    refine (h2.tch z).trans ?_
    rw [← any_getG, List.any_eq_true, List.mem_map]
    exact ⟨fun ⟨p, hp, q⟩ => ⟨p, hp, of_decide_eq_true q⟩, fun ⟨p, hp, q⟩ => ⟨p, hp, decide_eq_true q⟩⟩
  unfold setsE
  rw [e, show (runL rm rs).room = (runF rm rs).2.room from h2.room]
theorem lrun_ok2 {S : Sto} {r : Nat} {rs : List Row} {rm : Rm} (hr : dictAt S (.ref r) = some (roomK rm)) (hb : RmB rm) (hl : rm.length ≤ 50000) (h6 : rs.length ≤ 6) (hok : ∀ r ∈ rs, RowOkB r) :
    Ok (den_Lrun [rowsA rs, .ref r] S) fun v S' => ∃ q : Nat, v = .tup [outA (runF rm rs).1 (runF rm rs).2.shown, pairsV (runF rm rs).2.reads, pairsV (setsE (runF rm rs).2), .ref q] ∧ S.length ≤ q ∧ S'[q]? = some (.dict (roomK (runF rm rs).2.room)) ∧ Fr [] S S' := by
  obtain ⟨h1, h2, h3, h4, h5⟩ := runL_eq rm rs
  refine (lrun_ok hr hb hl h6 hok).imp fun v S' ⟨e, g, f⟩ => ?_
  rw [h5, h1, h3, h4] at e
  rw [h2] at g
  exact ⟨S.length, e, Nat.le_refl _, g, f⟩

set_option Elab.async false
set_option linter.all false
set_option maxRecDepth 100000
set_option maxHeartbeats 4000000
/-! R7: shared by the laws of runs. -/
open PySem PySem.Spec PyProof.Rows L2 TL
theorem Ok_disp {ds : List (DE × DE)} {η : Nv} {S : Sto} {P : AV → Sto → Prop} {ps : List (AV × AV)} {ks : List (Key × AV)} (h : dPairs ds η S = .ok ps S) (hk : keysOf ps = some ks) (hl : ks.length ≤ 15) : Ok (dDisp ds η S) P = P (.ref S.length) (S ++ [.dict (mergeA [] ks)]) := by
  unfold dDisp
  rw [h]
  show Ok (match keysOf ps with | some kvs => if kvs.length ≤ 15 then .ok (.ref S.length) (S ++ [.dict (mergeA [] kvs)]) else .bad | none => .bad) P = _
  rw [hk]
  show Ok (if ks.length ≤ 15 then .ok (.ref S.length) (S ++ [.dict (mergeA [] ks)]) else .bad) P = _
  rw [if_pos hl]
  rfl
def toldV (F : Option Flt × Rst) (q : Nat) : AV := .tup [outA F.1 F.2.shown, pairsV F.2.reads, pairsV (setsE F.2), .ref q]
/-- a room that a law hands in -/
structure Rom (S : Sto) (r : Nat) (rm : Rm) : Prop where
  at_ : S[r]? = some (.dict (roomK rm))
  ok : RmOk rm
  le : rm.length ≤ 40000
theorem Rom.on {S S' : Sto} {r : Nat} {rm : Rm} {W : List Nat} (h : Rom S r rm) (f : Fr W S S') (hn : r ∉ W) : Rom S' r rm := ⟨f.get h.at_ hn, h.ok, h.le⟩
theorem IsRm.rom {S : Sto} {r : Nat} {rm : Rm} (h : IsRm S r rm) : Rom S r rm := ⟨h.1, h.2.1, Nat.le_trans h.2.2 (by decide)⟩
theorem RowsOk.okb {rs : List Row} (h : RowsOk rs) : ∀ r ∈ rs, RowOkB r := fun r hr => (h.ok r hr).b
theorem room_len {rm : Rm} {rs : List Row} (h : RowsOk rs) (ok : RmOk rm) : (runF rm rs).2.room.length ≤ rm.length + 6 := by
  have := (RsB.run (L := rm.length) (k := 0) (e := 0) (st := st0 rm) ⟨ok.b, Nat.le_refl _, Nat.le_refl _, Nat.le_refl _, Nat.le_refl _⟩ h.okb).rl
  have h6 := h.n
  exact Nat.le_trans ‹(runE (st0 rm) rs).2.room.length ≤ _› (by omega)
theorem shown_len {rm : Rm} {rs : List Row} (h : RowsOk rs) (ok : RmOk rm) : (runF rm rs).2.shown.length ≤ 6 := by
  have := (RsB.run (L := rm.length) (k := 0) (e := 0) (st := st0 rm) ⟨ok.b, Nat.le_refl _, Nat.le_refl _, Nat.le_refl _, Nat.le_refl _⟩ h.okb).sl
  have h6 := h.n
  exact Nat.le_trans ‹(runE (st0 rm) rs).2.shown.length ≤ _› (by omega)
theorem prog_run {S : Sto} {c r : Nat} {rs : List Row} {rm : Rm} (hc : IsCell S c rs) (hr : Rom S r rm) (hrs : RowsOk rs) :
    Ok (den_run_in [.ref c, .ref r] S) fun v S' => ∃ q, v = toldV (runF rm rs) q ∧ S.length ≤ q ∧ S'[q]? = some (.dict (roomK (runF rm rs).2.room)) ∧ Fr [] S S' :=
  run_in_ok hc (dictAt_dct hr.at_) hr.ok.b (Nat.le_trans hr.le (by decide)) hrs.n hrs.okb
theorem law_run {S : Sto} {r : Nat} {rs : List Row} {rm : Rm} (hr : Rom S r rm) (hrs : RowsOk rs) :
    Ok (den_Lrun [rowsA rs, .ref r] S) fun v S' => ∃ q, v = toldV (runF rm rs) q ∧ S.length ≤ q ∧ S'[q]? = some (.dict (roomK (runF rm rs).2.room)) ∧ Fr [] S S' :=
  lrun_ok2 (dictAt_dct hr.at_) hr.ok.b (Nat.le_trans hr.le (by decide)) hrs.n hrs.okb
theorem room_ok2 {rm : Rm} {rs : List Row} (ok : RmOk rm) : RmOk (runF rm rs).2.room := run_rm (st := st0 rm) ok
theorem eq_out {S : Sto} (F : Option Flt × Rst) : eqS S (outA F.1 F.2.shown) (outA F.1 F.2.shown) = some true := by
  obtain ⟨d, e⟩ := (Dat.outA F.1 F.2.shown).at20 (by decide) S
  exact eqS_same e rfl
theorem eq_pairs {S : Sto} (l : List (Str × Option Int)) : eqS S (pairsV l) (pairsV l) = some true := by
  obtain ⟨d, e⟩ := (Dat.pairsV l).at20 (by decide) S
  exact eqS_same e rfl
/-! cells written out -/
def smC (s : Sm) : Bool := !s.isEmpty && decide (smN s ≤ 8) && s.all prdOk
theorem smC_ok {s : Sm} (h : smC s = true) : SmOk s := by
  unfold smC at h
  rw [Bool.and_eq_true, Bool.and_eq_true, List.all_eq_true, decide_eq_true_eq] at h
  refine ⟨fun e => ?_, h.1.2, h.2⟩
  rw [e] at h
  exact absurd h.1.1 (by decide)
def row0C : Row0 → Bool
  | .set n s => isNm n && smC s
  | .drop n => isNm n
  | .shw s => smC s
def rowC : Row → Bool
  | .pl r => row0C r
  | .cond t r => smC t && row0C r
theorem row0C_ok {r : Row0} (h : row0C r = true) : Row0Ok r := by
  cases r with
  | set n s =>
    have h' : (isNm n && smC s) = true := h
    rw [Bool.and_eq_true] at h'
    exact ⟨h'.1, smC_ok h'.2⟩
  | drop n => exact h
  | shw s => exact smC_ok h
theorem rowC_ok {r : Row} (h : rowC r = true) : RowOk r := by
  cases r with
  | pl r => exact row0C_ok h
  | cond t r =>
    have h' : (smC t && row0C r) = true := h
    rw [Bool.and_eq_true] at h'
    exact ⟨smC_ok h'.1, row0C_ok h'.2⟩
def rowsC (rs : List Row) : Bool := !rs.isEmpty && decide (rs.length ≤ 6) && rs.all rowC
theorem rowsC_ok {rs : List Row} (h : rowsC rs = true) : RowsOk rs := by
  unfold rowsC at h
  rw [Bool.and_eq_true, Bool.and_eq_true, List.all_eq_true, decide_eq_true_eq] at h
  refine ⟨fun e => ?_, h.1.2, fun r hr => rowC_ok (h.2 r hr)⟩
  rw [e] at h
  exact absurd h.1.1 (by decide)
theorem RmOk.of {rm : Rm} (h : (decide (rm.map (·.1)).Nodup && rm.all fun p => decide (p.2.natAbs ≤ 1000000000)) = true) : RmOk rm := by
  rw [Bool.and_eq_true, List.all_eq_true, decide_eq_true_eq] at h
  exact ⟨h.1, fun p hp => of_decide_eq_true (h.2 p hp)⟩

set_option Elab.async false
set_option linter.all false
set_option maxRecDepth 100000
set_option maxHeartbeats 4000000
open PySem PySem.Spec PyProof.Rows L2
/-- names: 0 _law_bag_here, 1 _law_row, 2 _law_rest, 3 _law_thing -/
def den_Lmixed : List AV → M AV := dDef 2 4 ((dSeq (dSet 2 (bind1 (dCons (dV 1) dNil) aList))
  (dRt (dLc (bind1 (dV 1) aWalk) (.nm 3) dYes (dPopE (dV 2) (bind1 (dCons (dV 0) (dCons (bind1 (dCons (dV 2) dNil) aLen) dNil)) den_Ltake))))))

set_option Elab.async false
set_option linter.all false
set_option maxRecDepth 100000
set_option maxHeartbeats 4000000
/-! R8: things in a drawn order. -/
open PySem PySem.Spec PyProof.Rows L2 TL
theorem Ok_listL {S : Sto} {r : Nat} {xs : List AV} {P : AV → Sto → Prop} (h : S[r]? = some (.lst xs)) (hl : xs.length ≤ sizeLine) : Ok (aList [.ref r] S) P = P (.ref S.length) (S ++ [.lst xs]) := by
  unfold aList
  have h1 : dictAt S (.ref r) = none := by unfold dictAt; simp only [h]
  simp only [h1, seqA_lst h, if_pos hl]
  rfl
theorem ixN_nat {n d : Nat} (h : d < n) : ixN n (d : Int) = some d := by
  unfold ixN
  rw [if_pos (by omega), if_pos (by omega)]
  rfl
theorem Ok_popL {S : Sto} {r d : Nat} {xs : List AV} {v : AV} {P : AV → Sto → Prop} (h : S[r]? = some (.lst xs)) (hd : xs[d]? = some v) : Ok (aPopL (.ref r) [.int d] S) P = P v (S.set r (.lst (xs.eraseIdx d))) := by
  have hlt := (List.getElem?_eq_some_iff.mp hd).1
  unfold aPopL
  simp only [lstAt_of h, ixN_nat hlt, hd]
  rfl
/-- pop of a list, its index worked out -/
theorem Ok_popEL {d e : DE} {r : Nat} {xs : List AV} {η : Nv} {S : Sto} {P : AV → Sto → Prop} (hd : d η S = .ok (.ref r) S) (h : S[r]? = some (.lst xs)) :
    Ok (dPopE d e η S) P = Ok (e η S) fun i S1 => Ok (aPopL (.ref r) [i] S1) P := by
  unfold dPopE
  simp only [hd, isL h, if_pos]
  rw [Ok_ML, hd, Ok_ok, if_pos (isL h), Ok_cons]
  rfl
theorem erase_perm {α : Type} : ∀ {xs : List α} {d : Nat} {v : α}, xs[d]? = some v → (v :: xs.eraseIdx d).Perm xs
  | x :: xs, 0, v, h => by
    rw [List.getElem?_cons_zero] at h
    cases h
    exact .refl _
  | x :: xs, d + 1, v, h => by
    rw [List.getElem?_cons_succ] at h
    rw [List.eraseIdx_cons_succ]
    exact (List.Perm.swap x v _).trans ((erase_perm h).cons x)
theorem lmixed_ok {S : Sto} {b r : Nat} {xs : List AV} (hb : Bag S b) (hx : S[r]? = some (.lst xs)) (hne : r ≠ b) (hl : xs.length ≤ 1000) :
    Ok (den_Lmixed [.ref b, .ref r] S) fun v S' => ∃ l ys, v = .ref l ∧ S.length ≤ l ∧ S'[l]? = some (.lst ys) ∧ ys.Perm xs ∧ Fr [b] S S' ∧ Bag S' b := by
  have hz : sizeLine = 16777216 := sizeLine_eq
  have hlt := hb.lt
  (unfold den_Lmixed; refine def_ok rfl ?_)
  simp_arith only [Ok_listL hx (by omega)]
  rw [Ok_walkL (app_get hx)]
  refine coll_ok (n := xs.length) (fun k acc S1 => ∃ zs, (acc ++ zs).Perm xs ∧ acc.length = k ∧ S1[S.length]? = some (.lst zs) ∧ Fr [b] S S1 ∧ Bag S1 b ∧ S1[r]? = some (.lst xs)) rfl ⟨xs, .refl _, rfl, app_new, Fr.app _, hb.app, app_get hx⟩ (fun k acc S1 hk ⟨zs, hp, ha, hs, f, hb1, hr⟩ => ?_) fun acc S1 ⟨zs, hp, ha, hs, f, hb1, hr⟩ => ⟨?_, ?_⟩
  · have hzl : acc.length + zs.length = xs.length := by rw [← List.length_append]; exact hp.length_eq
    refine ⟨xs[k], _, by unfold itL; simp only [hr, List.getElem?_eq_getElem hk], rfl, ?_⟩
    rw [show dYes = fun η S => R.ok true S from rfl, Ok_ok, if_pos rfl, Ok_popEL (r := S.length) (xs := zs) rfl hs]
    simp_arith only [Ok_lenL hs]
    refine (take_ok hb1 (by omega) (by omega)).imp fun v S2 ⟨d, e, hd, f2, hb2⟩ => ?_
    subst e
    have hs2 := f2.get hs (by simp; omega)
    have hd2 : d < zs.length := by omega
    rw [Ok_popL hs2 (List.getElem?_eq_getElem hd2)]
    have pe := erase_perm (List.getElem?_eq_getElem hd2)
    refine ⟨by omega, zs.eraseIdx d, ?_, by rw [List.length_append, ha]; rfl, set_same (lt_of hs2), (f.trans f2).loc (Nat.le_refl _), hb2.on (Fr.set _ _) (by simp; omega), ?_⟩
    · rw [List.append_assoc]
      exact (List.Perm.append_left acc pe).trans hp
    · exact set_other (f2.get hr (by simpa using hne)) (by have := lt_of hx; omega)
  · unfold itL
    simp only [hr, List.getElem?_eq_none (Nat.le_refl xs.length)]
  · have hz0 : zs = [] := by
      have := hp.length_eq
      rw [List.length_append, ha] at this
      exact List.eq_nil_of_length_eq_zero (by omega)
    subst hz0
    rw [List.append_nil] at hp
    exact ⟨S1.length, acc, rfl, f.le, app_new, hp, f.more, hb1.app⟩
theorem tgS_l2 {S : Sto} {η : Nv} {i j l : Nat} {a b : AV} {P : Nv → Sto → Prop} (h : S[l]? = some (.lst [a, b])) : tgS (gTp 2 (gsCons (gNm i) (gsCons (gNm j) gsNil))) (.ref l) η S P = P ((η.set i (some a)).set j (some b)) S := by
  unfold tgS gTp
  simp only [h]
  rfl

set_option Elab.async false
set_option linter.all false
set_option maxRecDepth 100000
set_option maxHeartbeats 4000000
/-! R9: comprehensions with a test; dicts walked; dicts made of pairs. -/
open PySem PySem.Spec PyProof.Rows L2 TL
/-- a comprehension, with a test -/
theorem collG_ok {α : Type} {S : Sto} {it : AIt} {qs : List α} {t : Tg} {dt : DB} {de : DE} {η0 : Nv} {W : List Nat} {P : List AV → Sto → Prop} (g h : α → AV) (f : α → Bool) (hn : it.n = qs.length) (hz : qs.length < sizeLine)
    (hat : ∀ k S1, Fr W S S1 → it.at_ k S1 = some (qs[k]?.map g))
    (step : ∀ q S1, q ∈ qs → Fr W S S1 → ∃ η1, t.put (g q) η0 = some η1 ∧ Ok (dt η1 S1) fun c S2 => c = f q ∧ Fr W S1 S2 ∧ (f q = true → Ok (de η1 S2) fun y S3 => y = h q ∧ Fr W S2 S3))
    (fin : ∀ S1, Fr W S S1 → P ((qs.filter f).map h) S1) : Ok (collF it t dt de η0 it.n 0 [] S) P := by
  refine coll_ok (n := qs.length) (fun k acc S1 => Fr W S S1 ∧ acc = ((qs.take k).filter f).map h) hn ⟨Fr.refl, rfl⟩ (fun k acc S1 hk ⟨h1, h2⟩ => ?_) fun acc S1 ⟨h1, h2⟩ => ⟨?_, ?_⟩
  · obtain ⟨η1, e1, h4⟩ := step qs[k] S1 (List.getElem_mem hk) h1
    refine ⟨g qs[k], η1, by rw [hat k S1 h1, List.getElem?_eq_getElem hk]; rfl, e1, ?_⟩
    have et : (qs.take (k + 1)).filter f = (qs.take k).filter f ++ (if f qs[k] = true then [qs[k]] else []) := by
      rw [List.take_add_one, List.getElem?_eq_getElem hk, Option.toList_some, List.filter_append]
      congr 1
      rw [List.filter_cons]
      rfl
    refine h4.imp fun c S2 ⟨e, h5, h6⟩ => ?_
    subst e
    split
    · rename_i hc
      refine (h6 hc).imp fun y S3 ⟨h7, h8⟩ => ⟨?_, (h1.trans h5).trans h8, ?_⟩
      · rw [h2, List.length_map]
        have := List.length_filter_le f (qs.take k)
        rw [List.length_take] at this
        omega
      · rw [et, if_pos hc, List.map_append, h2, h7]
        rfl
    · rename_i hc
      exact ⟨h1.trans h5, by rw [et, if_neg hc, List.append_nil, h2]⟩
  · rw [hat _ S1 h1, List.getElem?_eq_none (Nat.le_refl _)]
    rfl
  · rw [h2, List.take_length]
    exact fin S1 h1
theorem itT_at {α : Type} {g : α → AV} {qs : List α} (k : Nat) (S : Sto) : (itT (qs.map g)).at_ k S = some (qs[k]?.map g) := by show some (qs.map g)[k]? = _; rw [List.getElem?_map]
theorem itL_at {α : Type} {g : α → AV} {qs : List α} {r : Nat} {S : Sto} (h : S[r]? = some (.lst (qs.map g))) (k : Nat) : (itL r (qs.map g).length).at_ k S = some (qs[k]?.map g) := by
  unfold itL
  simp only [h, List.getElem?_map]
theorem itK_at (rm : Rm) (k : Nat) (S : Sto) : (itK (roomK rm)).at_ k S = some (rm[k]?.map fun p => AV.str p.1) := by
  show some ((roomK rm)[k]?.map fun p => keyV p.1) = _
  unfold roomK
  rw [List.getElem?_map, Option.map_map]
  rfl
theorem Ok_walkK {S : Sto} {n : Nat} {kvs : List (Key × AV)} {P : AIt → Sto → Prop} (h : S[n]? = some (.lck kvs)) : Ok (aWalk (.ref n) S) P = P (itK kvs) S := by
  unfold aWalk lckAt
  simp only [h]
  rfl
/-- a dict held fast -/
theorem Ok_lockE {dn d : DE} {η : Nv} {S S0 : Sto} {n : Nat} {kvs : List (Key × AV)} {P : AV → Sto → Prop} (hd : dn η S = .ok (.ref n) S0) (h : S[n]? = some (.dict kvs))
    (k : Ok (d η (S.set n (.lck kvs))) fun v S' => S'[n]? = some (.lck kvs) ∧ P v (S'.set n (.dict kvs))) : Ok (dLockE dn d η S) P := by
  unfold dLockE
  simp only [hd, dctAt_of h]
  cases e : d η (S.set n (.lck kvs)) with
  | ok v S' =>
    rw [e] at k
    have k' : S'[n]? = some (.lck kvs) ∧ P v (S'.set n (.dict kvs)) := k
    show Ok (match S'[n]? with | some (.lck kvs) => R.ok v (S'.set n (.dict kvs)) | _ => .bad) P
    rw [k'.1]
    exact k'.2
  | ex c fs S' => rw [e] at k; exact k
  | bad => rw [e] at k; exact k
/-- .. and let go of as it was -/
theorem Fr.lock {W : List Nat} {S S' : Sto} {n : Nat} {o o2 : AO} (h : S[n]? = some o) (f : Fr W (S.set n o2) S') : Fr W S (S'.set n o) := by
  have hl := lt_of h
  refine ⟨by rw [List.length_set]; have := f.le; rw [List.length_set] at this; exact this, fun m hm hw => ?_⟩
  by_cases e : m = n
  · subst e
    rw [List.getElem?_set_self (by have := f.le; rw [List.length_set] at this; omega), h]
  · rw [List.getElem?_set_ne (Ne.symm e), f.at_ m (by rw [List.length_set]; exact hm) hw, List.getElem?_set_ne (Ne.symm e)]
theorem pairsO_room : ∀ rm : Rm, pairsO (rm.map fun p => AV.tup [.str p.1, .int p.2]) = some (roomK rm)
  | [] => rfl
  | p :: rm => by
    rw [List.map_cons]
    unfold pairsO
    rw [pairsO_room rm]
    rfl
theorem putA_new {kvs : List (Key × AV)} {k : Key} {v : AV} (h : k ∉ kvs.map (·.1)) : putA kvs k v = kvs ++ [(k, v)] := by
  unfold putA
  rw [if_neg]
  intro q
  obtain ⟨p, hp, e⟩ := List.any_eq_true.mp q
  exact h (List.mem_map.mpr ⟨p, hp, of_decide_eq_true e⟩)
theorem mergeA_new : ∀ (kvs acc : List (Key × AV)), ((acc ++ kvs).map (·.1)).Nodup → mergeA acc kvs = acc ++ kvs
  | [], acc, _ => by rw [List.append_nil]; rfl
  | p :: kvs, acc, h => by
    have h1 : p.1 ∉ acc.map (·.1) := fun q => by
      rw [List.map_append, List.map_cons] at h
      exact (List.nodup_append.mp h).2.2 p.1 q p.1 (List.mem_cons_self ..) rfl
    show mergeA (putA acc p.1 p.2) kvs = _
    rw [putA_new h1, mergeA_new kvs _ (by rw [List.append_assoc]; exact h), List.append_assoc]
    rfl
theorem roomK_nd {rm : Rm} (h : (rm.map (·.1)).Nodup) : ((roomK rm).map (·.1)).Nodup := by
  unfold roomK
  rw [List.map_map]
  have : (rm.map ((fun x : Key × AV => x.1) ∘ fun p => (rk p.1, AV.int p.2))) = (rm.map (·.1)).map rk := by rw [List.map_map]; rfl
  rw [this]
  exact List.Pairwise.map rk (fun a b (hab : a ≠ b) => fun e => hab (rk_inj.mp e)) h
/-- dict([(name, value), ..]) -/
theorem Ok_dictP {S : Sto} {r : Nat} {rm : Rm} {P : AV → Sto → Prop} (h : S[r]? = some (.lst (rm.map fun p => AV.tup [.str p.1, .int p.2]))) (nd : (rm.map (·.1)).Nodup) (hl : rm.length ≤ 1000) : Ok (aDictP [.ref r] S) P = P (.ref S.length) (S ++ [.dict (roomK rm)]) := by
  unfold aDictP
  have h1 : seqLA S (.ref r) = some (rm.map fun p => AV.tup [.str p.1, .int p.2]) := by unfold seqLA; simp only [h]
  simp only [h1, pairsO_room, if_pos (show (roomK rm).length ≤ 1000 by unfold roomK; rw [List.length_map]; exact hl), mergeA_new (roomK rm) [] (by rw [List.nil_append]; exact roomK_nd nd), List.nil_append]
  rfl
/-! what a run doesn't touch -/
def outF (T : List Str) (r : Rm) : Rm := r.filter fun p => decide (p.1 ∉ T)
theorem outF_put {T : List Str} {z : Str} (hz : z ∈ T) (r : Rm) (v : Int) : outF T (putR r z v) = outF T r := by
  unfold outF putR
  split
  · rw [List.filter_map]
    have e1 : ((fun p : Str × Int => decide (p.1 ∉ T)) ∘ fun p => if p.1 = z then (p.1, v) else p) = fun p => decide (p.1 ∉ T) := by
      funext p
      show decide ((if p.1 = z then (p.1, v) else p).1 ∉ T) = _
      split <;> rfl
    rw [e1]
    conv => rhs; rw [← List.map_id (r.filter fun p => decide (p.1 ∉ T))]
    refine List.map_congr_left fun p hp => ?_
    have := of_decide_eq_true (List.mem_filter.mp hp).2
    have hne : p.1 ≠ z := fun e => this (by rw [e]; exact hz)
    rw [if_neg hne]
    rfl
  · rw [List.filter_append, List.filter_cons_of_neg (by simpa using hz)]
    simp
theorem outF_drop {T : List Str} {z : Str} (hz : z ∈ T) (r : Rm) : outF T (dropR r z) = outF T r := by
  unfold outF dropR
  rw [List.filter_filter]
  refine List.filter_congr fun p _ => ?_
  by_cases e : p.1 = z
  · rw [e]; simp [hz]
  · simp [e]
def Untch (rm : Rm) (st : Rst) : Prop := ∀ T : List Str, (∀ z, (getG st.chg z).isSome = true → z ∈ T) → outF T st.room = outF T rm
theorem Untch.work {rm : Rm} {st : Rst} (h : Untch rm st) (s : Sm) : Untch rm (workE st s) := h
theorem Untch.change {rm : Rm} {st : Rst} (h : Untch rm st) (z : Str) (v : Option Int) : Untch rm (changeE st z v) := by
  intro T hT
  have hz : z ∈ T := hT z (by show (getG (putG st.chg z ()) z).isSome = true; rw [getG_put, if_pos rfl]; rfl)
  have h0 := h T fun y hy => hT y (by
    show (getG (putG st.chg z ()) y).isSome = true
    exact putG_key hy)
  cases v with
  | none => exact (outF_drop hz st.room).trans h0
  | some i => exact (outF_put hz st.room i).trans h0
theorem Untch.f0 {rm : Rm} {st : Rst} (h : Untch rm st) (r : Row0) : Untch rm (follow0 st r).2 := by
  cases r with
  | drop z => exact h.change z none
  | set z s =>
    show Untch rm (match (sumE st.room 0 s).1 with | .no f => (some f, workE st s) | .ok v => (none, changeE (workE st s) z (some v))).2
    cases (sumE st.room 0 s).1 with
    | no f => exact h.work s
    | ok v => exact (h.work s).change z (some v)
  | shw s =>
    show Untch rm (match (sumE st.room 0 s).1 with | .no f => (some f, workE st s) | .ok v => (none, { workE st s with shown := st.shown ++ [v] })).2
    cases (sumE st.room 0 s).1 with
    | no f => exact h.work s
    | ok v => exact h
theorem Untch.follow {rm : Rm} {st : Rst} (h : Untch rm st) (r : Row) : Untch rm (followE st r).2 := by
  cases r with
  | pl r => exact h.f0 r
  | cond t r =>
    show Untch rm (match (sumE st.room 0 t).1 with | .no f => (some f, workE st t) | .ok v => if v = 0 then (none, workE st t) else follow0 (workE st t) r).2
    cases (sumE st.room 0 t).1 with
    | no f => exact h.work t
    | ok v =>
      show Untch rm (if v = 0 then (none, workE st t) else follow0 (workE st t) r).2
      split
      · exact h.work t
      · exact (h.work t).f0 r
theorem Untch.run {rm : Rm} : ∀ {rs : List Row} {st : Rst}, Untch rm st → Untch rm (runE st rs).2
  | [], st, h => h
  | r :: rs, st, h => by
    cases e : (followE st r).1 with
    | some f => rw [runE_some e]; exact h.follow r
    | none => rw [runE_none e]; exact Untch.run (h.follow r)
theorem run_untouched (rm : Rm) (rs : List Row) : outF ((setsE (runF rm rs).2).map (·.1)) (runF rm rs).2.room = outF ((setsE (runF rm rs).2).map (·.1)) rm := by
  refine (Untch.run (rs := rs) (st := st0 rm) fun T _ => rfl) _ fun z hz => ?_
  unfold setsE
  rw [List.map_map]
  have e : ((fun x : Str × Option Int => x.1) ∘ fun z => (z, getR (runF rm rs).2.room z)) = id := rfl
  rw [e, List.map_id, (sort_perm _).mem_iff]
  rw [← any_getG, List.any_eq_true] at hz
  obtain ⟨p, hp, q⟩ := hz
  exact List.mem_map.mpr ⟨p, hp, of_decide_eq_true q⟩

set_option Elab.async false
set_option linter.all false
set_option maxRecDepth 100000
set_option maxHeartbeats 4000000
open PySem PySem.Spec PyProof.Rows L2
/-- names: 0 _law_bag_here, 1 _law_kind, 2 _law_sums, 3 _law_faults, 4 _law_some -/
def den_Lfault_row : List AV → M AV := dDef 2 5 ((dSeq (dSet 2 (bind1 (dCons (bind1 (dCons (bind1 (dCons (dC (.int 1)) (dCons (dC (.str "none")) (dCons (bind1 dNil aTup) dNil))) aTup) dNil) aTup) (dCons (bind1 (dCons (bind1 (dCons (dC (.int 1)) (dCons (dC (.int 5)) (dCons (bind1 (dCons (bind1 (dCons (dC (.str "//")) (dCons (dC (.int 0)) dNil)) aTup) dNil) aTup) dNil))) aTup) dNil) aTup) (dCons (bind1 (dCons (bind1 (dCons (dC (.int 1)) (dCons (dC (.str "big")) (dCons (bind1 dNil aTup) dNil))) aTup) (dCons (bind1 (dCons (dC (.int 1)) (dCons (dC (.int 1)) (dCons (bind1 dNil aTup) dNil))) aTup) dNil)) aTup) (dCons (bind1 (dCons (bind1 (dCons (bind1 (dC (.int 1)) aNeg) (dCons (dC (.str "big")) (dCons (bind1 dNil aTup) dNil))) aTup) (dCons (bind1 (dCons (bind1 (dC (.int 1)) aNeg) (dCons (dC (.int 1)) (dCons (bind1 dNil aTup) dNil))) aTup) dNil)) aTup) dNil)))) aLst))
  (dSeq (dSet 3 (bind1 (dCons (bind1 (dCons (dC (.str "lack")) (dCons (dC (.str "none")) dNil)) aTup) (dCons (bind1 (dCons (dC (.str "nought")) dNil) aTup) (dCons (bind1 (dCons (dC (.str "great")) dNil) aTup) (dCons (bind1 (dCons (dC (.str "great")) dNil) aTup) dNil)))) aLst))
  (dSeq (dSet 4 (bind1 (dCons (bind1 (dCons (dC (.str "show")) (dCons (bind2 (dV 2) (dV 1) aIx) dNil)) aTup) (dCons (bind1 (dCons (dC (.str "set")) (dCons (dC (.str "a")) (dCons (bind2 (dV 2) (dV 1) aIx) dNil))) aTup) (dCons (bind1 (dCons (dC (.str "if")) (dCons (bind2 (dV 2) (dV 1) aIx) (dCons (bind1 (dCons (dC (.str "show")) (dCons (bind1 (dCons (bind1 (dCons (dC (.int 1)) (dCons (dC (.int 1)) (dCons (bind1 dNil aTup) dNil))) aTup) dNil) aTup) dNil)) aTup) dNil))) aTup) dNil))) aLst))
  (dRt (bind1 (dCons (bind2 (dV 4) (bind1 (dCons (dV 0) (dCons (dC (.int 3)) dNil)) den_Ltake) aIx) (dCons (bind2 (dV 3) (dV 1) aIx) dNil)) aTup))))))
/-- names: 0 _law_bag_here, 1 _law_many, 2 _law_room, 3 _law_ahead, 4 _law_at, 5 _law_kind, 6 _law_row, 7 _law_fault, 8 _law_second, 9 _law_other, 10 _law_rows, 11 _law_told, 12 _law_twice, 13 _law_good, 14 _law_k -/
def den_Lis_told : List AV → M AV := dDef 2 15 ((dSeq (dSet 2 (dDisp [((dC (.str "big")), (bind2 (dC (.int 10)) (dC (.int 9)) aPow)), ((dC (.str "a")), (dC (.int 1)))]))
  (dSeq (dSet 3 (dLc (bind1 (dCons (dV 1) dNil) aRng1) (.nm 14) dYes (bind1 (dCons (dC (.str "show")) (dCons (bind1 (dCons (bind1 (dCons (dC (.int 1)) (dCons (dV 14) (dCons (bind1 dNil aTup) dNil))) aTup) dNil) aTup) dNil)) aTup)))
  (dSeq (dPar 4 5 (dCons (bind1 (dCons (dV 0) (dCons (bind2 (dV 1) (dC (.int 1)) aAdd) dNil)) den_Ltake) (dCons (bind1 (dCons (dV 0) (dCons (dC (.int 4)) dNil)) den_Ltake) dNil)))
  (dSeq (dAsg (bind1 (dCons (dV 0) (dCons (dV 5) dNil)) den_Lfault_row) (gTp 2 (gsCons (gNm 6) (gsCons (gNm 7) gsNil))))
  (dSeq (dAsg (bind1 (dCons (dV 0) (dCons (bind1 (dCons (dV 0) (dCons (dC (.int 4)) dNil)) den_Ltake) dNil)) den_Lfault_row) (gTp 2 (gsCons (gNm 8) (gsCons (gNm 9) gsNil))))
  (dSeq (dSet 10 (bind1 (dCons (bind2 (bind2 (bind3 (dV 3) dNo (bind1 (dV 4) asI) aSl) (bind1 (dCons (dV 6) dNil) aLst) aAdd) (bind3 (dV 3) (bind1 (dV 4) asI) dNo aSl) aAdd) dNil) aTuple))
  (dSeq (dSet 11 (bind1 (dCons (dMake "Cell" (dCons (bind1 (dCons (dV 10) dNil) den_Ltext) dNil) den_Cell___init__) (dCons (bind1 (dCons (dV 2) dNil) aDict) dNil)) den_run_in))
  (dSeq (dIfS (dOrB (bind1 (bind2 (bind2 (dV 11) (dC (.int 0)) aIx) (bind1 (dCons (dTupR (dV 4)) (dCons (dV 7) dNil)) aTup) aNe) asB) (bind1 (bind2 (bind2 (dV 11) (dC (.int 3)) aIx) (dV 2) aNe) asB)) (dRt (dC (.bl false))) dNx)
  (dSeq (dSet 12 (bind1 (dCons (bind2 (bind3 (dV 3) dNo (bind1 (dV 4) asI) aSl) (bind1 (dCons (dV 6) (dCons (bind1 (dCons (dC (.str "set")) (dCons (dC (.str "b")) (dCons (bind1 (dCons (bind1 (dCons (dC (.int 1)) (dCons (dC (.int 4)) (dCons (bind1 dNil aTup) dNil))) aTup) dNil) aTup) dNil))) aTup) (dCons (dV 8) dNil))) aLst) aAdd) dNil) aTuple))
  (dSeq (dIfS (bind1 (bind2 (bind2 (bind1 (dCons (dMake "Cell" (dCons (bind1 (dCons (dV 12) dNil) den_Ltext) dNil) den_Cell___init__) (dCons (bind1 (dCons (dV 2) dNil) aDict) dNil)) den_run_in) (dC (.int 0)) aIx) (bind1 (dCons (dTupR (dV 4)) (dCons (dV 7) dNil)) aTup) aNe) asB) (dRt (dC (.bl false))) dNx)
  (dSeq (dSet 13 (bind2 (bind2 (bind1 (dCons (bind1 (dCons (dC (.str "set")) (dCons (dC (.str "b")) (dCons (bind1 (dCons (bind1 (dCons (dC (.int 1)) (dCons (dC (.str "big")) (dCons (bind1 dNil aTup) dNil))) aTup) dNil) aTup) dNil))) aTup) dNil) aLst) (bind3 (dV 3) dNo (bind1 (dC (.int 3)) asI) aSl) aAdd) (bind1 (dCons (bind1 (dCons (dC (.str "show")) (dCons (bind1 (dCons (bind1 (dCons (bind1 (dC (.int 1)) aNeg) (dCons (dC (.str "big")) (dCons (bind1 dNil aTup) dNil))) aTup) dNil) aTup) dNil)) aTup) dNil) aLst) aAdd))
  (dSeq (dSet 11 (bind1 (dCons (dMake "Cell" (dCons (bind1 (dCons (bind1 (dCons (dV 13) dNil) aTuple) dNil) den_Ltext) dNil) den_Cell___init__) (dCons (bind1 (dCons (dV 2) dNil) aDict) dNil)) den_run_in))
  (dRt (dAnd (bind2 (bind2 (dV 11) (dC (.int 0)) aIx) (bind1 (dCons (bind2 (dTupR (bind1 (dCons (dC (.int 3)) (dCons (dV 1) dNil)) aMin)) (bind1 (dCons (bind2 (dC (.int 0)) (bind2 (dC (.int 10)) (dC (.int 9)) aPow) aSub) dNil) aTup) aAdd) (dCons (dC .non) dNil)) aTup) aEq) (bind2 (bind2 (bind2 (dV 11) (dC (.int 3)) aIx) (dC (.str "b")) aIx) (bind2 (dC (.int 10)) (dC (.int 9)) aPow) aEq))))))))))))))))
/-- names: 0 _law_script, 1 _law_k, 2 _law_bag_here, 3 _law_turn, 4 _law_told -/
def bd_law : DS := (dSeq (dFor (bind1 (dCons (bind1 (dCons (dC (.int 2)) (dCons (bind1 (dCons (dC (.int 5)) (dCons (bind1 (dCons (dV 0) dNil) aLen) dNil)) aMin) dNil)) aMax) dNil) aRng1) (gNm 1)
  (dSeq (dSet 2 (bind1 (dCons (dV 0) (dCons (dV 1) dNil)) den_Lbag))
  (dFor (bind1 (dCons (dC (.int 8)) dNil) aRng1) (gNm 3)
  (dIfS (dNotB (bind1 (bind1 (dCons (dV 2) (dCons (bind1 (dCons (dV 2) (dCons (dC (.int 4)) dNil)) den_Ltake) dNil)) den_Lis_told) aTru)) (dRt (dC (.bl false))) dNx))))
  (dSeq (dSet 4 (bind1 (dCons (dMake "Cell" (dCons (dC (.str "a = 1\nshow a\nshow a // 0\ndrop a")) dNil) den_Cell___init__) (dCons dDnew dNil)) den_run_in))
  (dRt (dAnd (bind2 (bind2 (dV 4) (dC (.int 0)) aIx) (bind1 (dCons (bind1 (dCons (dC (.int 1)) dNil) aTup) (dCons (bind1 (dCons (dC (.str "nought")) dNil) aTup) dNil)) aTup) aEq) (bind2 (bind2 (dV 4) (dC (.int 3)) aIx) (dDisp [((dC (.str "a")), (dC (.int 1)))]) aEq)))))
def den_law : List AV → M AV := dDef 1 5 bd_law

set_option Elab.async false
set_option linter.all false
set_option maxRecDepth 100000
set_option maxHeartbeats 4000000
/-! k13: faults end a run. -/
open PySem PySem.Spec PyProof.Rows L2 TL
theorem Ok_tupR {d : DE} {η : Nv} {S : Sto} {n : Nat} {P : AV → Sto → Prop} (hd : d η S = .ok (.int n) S) (h : n ≤ 1000) : Ok (dTupR d η S) P = P (.tup ((List.range n).map fun i => .int (i : Nat))) S := by
  unfold dTupR
  rw [Ok_b1, hd, Ok_ok]
  show Ok (if 0 ≤ (n : Int) ∧ (n : Int) ≤ 1000 then .ok (.tup ((List.range (n : Int).toNat).map fun i => .int (i : Nat))) S else .bad) P = _
  rw [if_pos (by omega), Int.toNat_natCast]
  rfl
def sums13 : List Sm := [[⟨false, .nm "none", []⟩], [⟨false, .num 5, [(false, .num 0)]⟩], [⟨false, .nm "big", []⟩, ⟨false, .num 1, []⟩], [⟨true, .nm "big", []⟩, ⟨true, .num 1, []⟩]]
def flts13 : List Flt := [.lack "none", .nought, .great, .great]
def sm13 (k : Nat) : Sm := sums13.getD k []
def flt13 (k : Nat) : Flt := flts13.getD k .great
def rows3 (s : Sm) : List Row := [.pl (.shw s), .pl (.set "a" s), .cond s (.shw [⟨false, .num 1, []⟩])]
def bad13 (k p : Nat) : Row := (rows3 (sm13 k)).getD p (.pl (.drop "a"))
def shows13 (m : Nat) : List Row := (List.range m).map fun k => .pl (.shw [⟨false, .num k, []⟩])
def room13 : Rm := [("big", 1000000000), ("a", 1)]
def one13 (m t k p : Nat) : List Row := (shows13 m).take t ++ [bad13 k p] ++ (shows13 m).drop t
def two13 (m t k p k2 p2 : Nat) : List Row := (shows13 m).take t ++ [bad13 k p, .pl (.set "b" [⟨false, .num 4, []⟩]), bad13 k2 p2]
def good13 (m : Nat) : List Row := [.pl (.set "b" [⟨false, .nm "big", []⟩])] ++ (shows13 m).take 3 ++ [.pl (.shw [⟨true, .nm "big", []⟩])]
def ints13 (n : Nat) : List Int := (List.range n).map fun (i : Nat) => (i : Int)
set_option synthInstance.maxSize 4000 in
set_option synthInstance.maxHeartbeats 4000000 in
theorem one_facts : ∀ m < 4, ∀ t < m + 1, ∀ k < 4, ∀ p < 3, rowsC (one13 m t k p) = true ∧ (runF room13 (one13 m t k p)).1 = some (flt13 k) ∧ (runF room13 (one13 m t k p)).2.shown = ints13 t ∧ (runF room13 (one13 m t k p)).2.room = room13 := by decide +kernel
set_option synthInstance.maxSize 4000 in
set_option synthInstance.maxHeartbeats 4000000 in
theorem two_facts : ∀ m < 4, ∀ t < m + 1, ∀ k < 4, ∀ p < 3, ∀ k2 < 4, ∀ p2 < 3, rowsC (two13 m t k p k2 p2) = true ∧ (runF room13 (two13 m t k p k2 p2)).1 = some (flt13 k) ∧ (runF room13 (two13 m t k p k2 p2)).2.shown = ints13 t := by decide +kernel
theorem good_facts : ∀ m < 4, rowsC (good13 m) = true ∧ (runF room13 (good13 m)).1 = none ∧ (runF room13 (good13 m)).2.shown = ints13 (min 3 m) ++ [-1000000000] ∧ getR (runF room13 (good13 m)).2.room "b" = some 1000000000 := by decide +kernel
theorem room13_ok : RmOk room13 := RmOk.of (by decide +kernel)
theorem fault_row_ok {S : Sto} {b k : Nat} (hb : Bag S b) (hk : k < 4) : Ok (den_Lfault_row [.ref b, .int k] S) fun v S' => ∃ p, p < 3 ∧ v = .tup [rowA (bad13 k p), fltA (flt13 k)] ∧ Fr [b] S S' ∧ Bag S' b := by
  have hlt := hb.lt
  have es : (sums13.map smA)[k]? = some (smA (sm13 k)) := by
    match k, hk with
    | 0, _ => rfl
    | 1, _ => rfl
    | 2, _ => rfl
    | 3, _ => rfl
  have ef : (flts13.map fltA)[k]? = some (fltA (flt13 k)) := by
    match k, hk with
    | 0, _ => rfl
    | 1, _ => rfl
    | 2, _ => rfl
    | 3, _ => rfl
  (unfold den_Lfault_row; refine def_ok rfl ?_)
  refine Go.mid (fun η S1 => ∃ l2, η = [some (.ref b), some (.int k), some (.ref l2), none, none] ∧ S1[l2]? = some (.lst (sums13.map smA)) ∧ Fr [] S S1) ?_ fun η S1 ⟨l2, e, h2, f1⟩ => ?_
  · simp_arith only []
    rw [Ok_lst (by simp)]
    exact ⟨_, rfl, app_new, Fr.app _⟩
  subst e
  refine Go.mid (fun η S2 => ∃ l3, η = [some (.ref b), some (.int k), some (.ref l2), some (.ref l3), none] ∧ S2[l3]? = some (.lst (flts13.map fltA)) ∧ Fr [] S1 S2) ?_ fun η S2 ⟨l3, e, h3, f2⟩ => ?_
  · simp_arith only []
    rw [Ok_lst (by simp)]
    exact ⟨_, rfl, app_new, Fr.app _⟩
  subst e
  have h22 := f2.get h2 (by simp)
  refine Go.mid (fun η S3 => ∃ l4, η = [some (.ref b), some (.int k), some (.ref l2), some (.ref l3), some (.ref l4)] ∧ S3[l4]? = some (.lst ((rows3 (sm13 k)).map rowA)) ∧ Fr [] S2 S3) ?_ fun η S3 ⟨l4, e, h4, f3⟩ => ?_
  · simp_arith only []
    rw [Ok_ixL h22 (atI_nat es)]
    simp_arith only []
    rw [Ok_ixL h22 (atI_nat es)]
    simp_arith only []
    rw [Ok_ixL h22 (atI_nat es)]
    simp_arith only []
    rw [Ok_lst (by simp)]
    exact ⟨_, rfl, app_new, Fr.app _⟩
  subst e
  have f03 := (f1.trans f2).trans f3
  have hb3 := hb.on f03 (by simp)
  have l3b := lt_of h3
  have h33 := f3.get h3 (by simp)
  have n3 : l3 ≠ b := by
    rintro rfl
    obtain ⟨g, m, h, _⟩ := hb3
    rw [h33] at h
    simp [flts13, fltA] at h
  have n4 : l4 ≠ b := by
    rintro rfl
    obtain ⟨g, m, h, _⟩ := hb3
    rw [h4] at h
    simp [rows3] at h
  simp_arith only []
  refine (take_ok hb3 (by decide) (by decide)).imp fun v S4 ⟨d, e, hd, f4, hb4⟩ => ?_
  subst e
  have hd3 : d < 3 := by omega
  have er : ((rows3 (sm13 k)).map rowA)[d]? = some (rowA (bad13 k d)) := by
    unfold bad13
    match d, hd3 with
    | 0, _ => rfl
    | 1, _ => rfl
    | 2, _ => rfl
  rw [Ok_ixL (f4.get h4 (by simpa using n4)) (atI_nat er)]
  simp_arith only []
  rw [Ok_ixL (f4.get h33 (by simpa using n3)) (atI_nat ef)]
  simp_arith only []
  exact ⟨d, hd3, rfl, f03.nil.trans f4, hb4⟩
theorem eq13 {S : Sto} {F : Option Flt × Rst} {f : Flt} {n : Nat} (h1 : F.1 = some f) (h2 : F.2.shown = ints13 n) : eqS S (outA F.1 F.2.shown) (.tup [.tup ((List.range n).map fun i => AV.int (i : Nat)), fltA f]) = some true := by
  have h := eq_out (S := S) F
  have e : outA F.1 F.2.shown = .tup [.tup ((List.range n).map fun i => AV.int (i : Nat)), fltA f] := by
    rw [h1, h2]
    unfold outA ints13
    rw [List.map_map]
    rfl
  rw [e] at h ⊢
  exact h
theorem eq13b {S : Sto} {F : Option Flt × Rst} {n : Nat} (h1 : F.1 = none) (h2 : F.2.shown = ints13 n ++ [-1000000000]) : eqS S (outA F.1 F.2.shown) (.tup [.tup ((List.range n).map (fun i => AV.int (i : Nat)) ++ [.int (0 - 1000000000)]), .non]) = some true := by
  have h := eq_out (S := S) F
  have e : outA F.1 F.2.shown = .tup [.tup ((List.range n).map (fun i => AV.int (i : Nat)) ++ [.int (0 - 1000000000)]), .non] := by
    rw [h1, h2]
    unfold outA ints13
    rw [List.map_append, List.map_map]
    rfl
  rw [e] at h ⊢
  exact h
theorem Ok_min3 {m : Nat} {η : Nv} {S : Sto} (h : η[1]? = some (some (.int m))) : bind1 (dCons (dC (.int 3)) (dCons (dV 1) dNil)) aMin η S = .ok (.int (min 3 m : Nat)) S := by
  have : dV 1 η S = .ok (.int m) S := by unfold dV; rw [h]
  unfold bind1 dCons
  show R.bind (R.bind (R.bind (dV 1 η S) _) _) aMin = _
  rw [this]
  show R.ok (AV.int (if (m : Int) < 3 then (m : Int) else 3)) S = _
  congr 2
  split <;> omega
theorem told_ok {S : Sto} {b m : Nat} (hb : Bag S b) (hm : m < 4) : Ok (den_Lis_told [.ref b, .int m] S) fun v S' => v = .bl true ∧ Fr [b] S S' ∧ Bag S' b := by
  have hz : sizeLine = 16777216 := sizeLine_eq
  have hlt := hb.lt
  (unfold den_Lis_told; refine def_ok rfl ?_)
  refine Go.mid (fun η S1 => ∃ r, η = [some (.ref b), some (.int m), some (.ref r), none, none, none, none, none, none, none, none, none, none, none, none] ∧ Rom S1 r room13 ∧ r ≠ b ∧ Fr [] S S1) ?_ fun η S1 ⟨r, e, hr, nr, f1⟩ => ?_
  · rw [Go_set, Ok_disp (ps := [(.str "big", .int 1000000000), (.str "a", .int 1)]) (ks := roomK room13) rfl rfl (by decide)]
    refine ⟨_, rfl, ⟨?_, room13_ok, by decide⟩, by omega, Fr.app _⟩
    rw [show mergeA [] (roomK room13) = roomK room13 by rfl]
    exact app_new
  subst e
  refine Go.mid (fun η S2 => ∃ l, η = [some (.ref b), some (.int m), some (.ref r), some (.ref l), none, none, none, none, none, none, none, none, none, none, none] ∧ S2[l]? = some (.lst ((shows13 m).map rowA)) ∧ l ≠ b ∧ Fr [] S1 S2) ?_ fun η S2 ⟨l, e, hl, nl, f2⟩ => ?_
  · simp_arith only []
    rw [Ok_rng1 (n := m) rfl (by omega)]
    refine coll_ok (n := m) (fun k acc S2 => acc = (shows13 k).map rowA ∧ Fr [] S1 S2) rfl ⟨rfl, Fr.refl⟩ (fun k acc S2 hk ⟨h1, h2⟩ => ?_) fun acc S2 ⟨h1, h2⟩ => ⟨by unfold itR; simp, ?_⟩
    · refine ⟨.int k, _, by unfold itR; simp [hk], rfl, ?_⟩
      rw [show dYes = fun η S => R.ok true S from rfl, Ok_ok, if_pos rfl]
      simp_arith only []
      refine ⟨by rw [h1]; simp [shows13]; omega, ?_, h2⟩
      rw [h1]
      unfold shows13
      rw [List.range_succ, List.map_append, List.map_append]
      rfl
    · subst h1
      exact ⟨_, rfl, app_new, by have := h2.le; have := f1.le; omega, h2.more⟩
  subst e
  have hr2 := hr.on f2 (by simp)
  have hb2 := (hb.on f1 (by simp)).on f2 (by simp)
  have f02 : Fr [b] S S2 := (f1.trans f2).nil
  refine Go.mid (fun η S3 => ∃ t k, t < m + 1 ∧ k < 4 ∧ η = [some (.ref b), some (.int m), some (.ref r), some (.ref l), some (.int (t : Nat)), some (.int (k : Nat)), none, none, none, none, none, none, none, none, none] ∧ Bag S3 b ∧ Fr [b] S2 S3) ?_ fun η S3 ⟨t, k, ht, hk, e, hb3, f3⟩ => ?_
  · simp_arith only []
    refine (take_ok hb2 (by omega) (by omega)).imp fun v S3 ⟨t, e, ht, f3, hb3⟩ => ?_
    subst e
    refine (take_ok hb3 (by decide) (by decide)).imp fun v S4 ⟨k, e, hk, f4, hb4⟩ => ?_
    subst e
    simp_arith only []
    exact ⟨t, k, by omega, by omega, rfl, hb4, f3.trans f4⟩
  subst e
  refine Go.mid (fun η S4 => ∃ p, p < 3 ∧ η = [some (.ref b), some (.int m), some (.ref r), some (.ref l), some (.int (t : Nat)), some (.int (k : Nat)), some (rowA (bad13 k p)), some (fltA (flt13 k)), none, none, none, none, none, none, none] ∧ Bag S4 b ∧ Fr [b] S3 S4) ?_ fun η S4 ⟨p, hp, e, hb4, f4⟩ => ?_
  · simp_arith only []
    refine (fault_row_ok hb3 hk).imp fun v S4 ⟨p, hp, e, f4, hb4⟩ => ?_
    subst e
    simp_arith only []
    exact ⟨p, hp, rfl, hb4, f4⟩
  subst e
  refine Go.mid (fun η S5 => ∃ k2 p2 x9, k2 < 4 ∧ p2 < 3 ∧ η = [some (.ref b), some (.int m), some (.ref r), some (.ref l), some (.int (t : Nat)), some (.int (k : Nat)), some (rowA (bad13 k p)), some (fltA (flt13 k)), some (rowA (bad13 k2 p2)), x9, none, none, none, none, none] ∧ Bag S5 b ∧ Fr [b] S4 S5) ?_ fun η S5 ⟨k2, p2, x9, hk2, hp2, e, hb5, f5⟩ => ?_
  · simp_arith only []
    refine (take_ok hb4 (by decide) (by decide)).imp fun v S5 ⟨k2, e, hk2, f5, hb5⟩ => ?_
    subst e
    refine (fault_row_ok hb5 (by omega)).imp fun v S6 ⟨p2, hp2, e, f6, hb6⟩ => ?_
    subst e
    simp_arith only []
    exact ⟨k2, p2, _, by omega, hp2, rfl, hb6, f5.trans f6⟩
  subst e
  obtain ⟨o1, o2, o3, o4⟩ := one_facts m hm t ht k hk p hp
  obtain ⟨w1, w2, w3⟩ := two_facts m hm t ht k hk p hp k2 hk2 p2 hp2
  obtain ⟨g1, g2, g3, g4⟩ := good_facts m hm
  have f25 := (f3.trans f4).trans f5
  have hl5 := f25.get hl (by simpa using nl)
  have hr5 := hr2.on f25 (by simpa using nr)
  have f05 := f02.trans f25
  have sl : (shows13 m).length = m := by unfold shows13; rw [List.length_map, List.length_range]
  refine Go.mid (fun η S6 => η = [some (.ref b), some (.int m), some (.ref r), some (.ref l), some (.int (t : Nat)), some (.int (k : Nat)), some (rowA (bad13 k p)), some (fltA (flt13 k)), some (rowA (bad13 k2 p2)), x9, some (rowsA (one13 m t k p)), none, none, none, none] ∧ Fr [] S5 S6) ?_ fun η S6 ⟨e, f6⟩ => ?_
  · simp_arith only []
    rw [Ok_slL hl5, cutL_take]
    simp_arith only []
    rw [Ok_lst (by simp), Ok_addL (app_get app_new) app_new (by simp only [List.length_take, List.length_map, List.length_cons, List.length_nil]; omega)]
    simp_arith only []
    rw [Ok_slL (app_get (app_get (app_get hl5))), cutL_drop _ _ (by rw [List.length_map, sl]; omega), Ok_addL (app_get app_new) app_new (by simp only [List.length_append, List.length_drop, List.length_take, List.length_map, List.length_cons, List.length_nil]; omega), Ok_tupleL app_new]
    refine ⟨?_, (Fr.app _).more.more.more.more⟩
    unfold one13 rowsA
    rw [List.map_append, List.map_append, List.map_take, List.map_drop]
    rfl
  subst e
  have hr6 := hr5.on f6 (by simp)
  have ok1 := rowsC_ok o1
  refine Go.mid (fun η S7 => ∃ q, η = [some (.ref b), some (.int m), some (.ref r), some (.ref l), some (.int (t : Nat)), some (.int (k : Nat)), some (rowA (bad13 k p)), some (fltA (flt13 k)), some (rowA (bad13 k2 p2)), x9, some (rowsA (one13 m t k p)), some (toldV (runF room13 (one13 m t k p)) q), none, none, none] ∧ S7[q]? = some (.dict (roomK room13)) ∧ Fr [] S6 S7) ?_ fun η S7 ⟨q, e, hq, f7⟩ => ?_
  · simp_arith only []
    refine (text_ok ok1).imp fun v S7 ⟨e, f7⟩ => ?_
    subst e
    refine (cell_init ok1).imp fun v S8 ⟨e, f8, hc⟩ => ?_
    subst e
    simp_arith only []
    have hr8 := (hr6.on f7 (by simp)).on f8 (by simp)
    rw [Ok_dict (dictAt_dct hr8.at_)]
    refine (prog_run (hc.on (Fr.app (W := []) _) (by simp)) ⟨app_new, room13_ok, by decide⟩ ok1).imp fun v S9 ⟨q, e, lq, hq, f9⟩ => ?_
    subst e
    rw [o4] at hq
    exact ⟨_, rfl, hq, ((f7.trans f8).more).trans f9⟩
  subst e
  have hr7 := hr6.on f7 (by simp)
  refine Go.mid (fun η S8 => η = [some (.ref b), some (.int m), some (.ref r), some (.ref l), some (.int (t : Nat)), some (.int (k : Nat)), some (rowA (bad13 k p)), some (fltA (flt13 k)), some (rowA (bad13 k2 p2)), x9, some (rowsA (one13 m t k p)), some (toldV (runF room13 (one13 m t k p)) q), none, none, none] ∧ S7 = S8) ?_ fun η S8 ⟨e, e8⟩ => ?_
  · simp_arith only [toldV]
    rw [Ok_tupR (n := t) rfl (by omega)]
    simp_arith only []
    rw [eq13 o2 o3]
    simp_arith only []
    rw [eqS_room hq hr7.at_ room13_ok]
    simp_arith only []
    exact ⟨trivial, trivial⟩
  subst e e8
  have f57 := f6.trans f7
  have hl7 := f57.get hl5 (by simp)
  refine Go.mid (fun η S8 => ∃ x11, η = [some (.ref b), some (.int m), some (.ref r), some (.ref l), some (.int (t : Nat)), some (.int (k : Nat)), some (rowA (bad13 k p)), some (fltA (flt13 k)), some (rowA (bad13 k2 p2)), x9, some (rowsA (one13 m t k p)), x11, some (rowsA (two13 m t k p k2 p2)), none, none] ∧ Fr [] S7 S8) ?_ fun η S8 ⟨x11, e, f8⟩ => ?_
  · simp_arith only []
    rw [Ok_slL hl7, cutL_take]
    simp_arith only []
    rw [Ok_lst (by simp), Ok_addL (app_get app_new) app_new (by simp only [List.length_take, List.length_map, List.length_cons, List.length_nil]; omega), Ok_tupleL app_new]
    refine ⟨some (toldV (runF room13 (one13 m t k p)) q), ?_, (Fr.app _).more.more⟩
    unfold two13 rowsA
    rw [List.map_append, List.map_take]
    rfl
  subst e
  have hr8 := hr7.on f8 (by simp)
  have ok2 := rowsC_ok w1
  refine Go.mid (fun η S9 => η = [some (.ref b), some (.int m), some (.ref r), some (.ref l), some (.int (t : Nat)), some (.int (k : Nat)), some (rowA (bad13 k p)), some (fltA (flt13 k)), some (rowA (bad13 k2 p2)), x9, some (rowsA (one13 m t k p)), x11, some (rowsA (two13 m t k p k2 p2)), none, none] ∧ Fr [] S8 S9) ?_ fun η S9 ⟨e, f9⟩ => ?_
  · simp_arith only []
    refine (text_ok ok2).imp fun v S9 ⟨e, f9⟩ => ?_
    subst e
    refine (cell_init ok2).imp fun v S10 ⟨e, f10, hc⟩ => ?_
    subst e
    simp_arith only []
    have hr10 := (hr8.on f9 (by simp)).on f10 (by simp)
    rw [Ok_dict (dictAt_dct hr10.at_)]
    refine (prog_run (hc.on (Fr.app (W := []) _) (by simp)) ⟨app_new, room13_ok, by decide⟩ ok2).imp fun v S11 ⟨q2, e, lq2, hq2, f11⟩ => ?_
    subst e
    simp_arith only [toldV]
    rw [Ok_tupR (n := t) rfl (by omega)]
    simp_arith only []
    rw [eq13 w2 w3]
    simp_arith only []
    exact ⟨trivial, ((f9.trans f10).more).trans f11⟩
  subst e
  have f79 := f8.trans f9
  have hl9 := f79.get hl7 (by simp)
  refine Go.mid (fun η S10 => ∃ l13, η = [some (.ref b), some (.int m), some (.ref r), some (.ref l), some (.int (t : Nat)), some (.int (k : Nat)), some (rowA (bad13 k p)), some (fltA (flt13 k)), some (rowA (bad13 k2 p2)), x9, some (rowsA (one13 m t k p)), x11, some (rowsA (two13 m t k p k2 p2)), some (.ref l13), none] ∧ S10[l13]? = some (.lst ((good13 m).map rowA)) ∧ Fr [] S9 S10) ?_ fun η S10 ⟨l13, e, hl13, f10⟩ => ?_
  · simp_arith only []
    rw [Ok_lst (by simp)]
    simp_arith only []
    rw [Ok_slL (app_get hl9), show (3 : Int) = ((3 : Nat) : Int) from rfl, cutL_take, Ok_addL (app_get app_new) app_new (by simp only [List.length_take, List.length_map, List.length_cons, List.length_nil]; omega)]
    simp_arith only []
    rw [Ok_lst (by simp), Ok_addL (app_get app_new) app_new (by simp only [List.length_append, List.length_take, List.length_map, List.length_cons, List.length_nil]; omega)]
    refine ⟨_, rfl, ?_, (Fr.app _).more.more.more.more⟩
    rw [app_new]
    unfold good13
    rw [List.map_append, List.map_append, List.map_take]
    rfl
  subst e
  have hr10 := (hr8.on f9 (by simp)).on f10 (by simp)
  have ok3 := rowsC_ok g1
  refine Go.mid (fun η S11 => ∃ q, η = [some (.ref b), some (.int m), some (.ref r), some (.ref l), some (.int (t : Nat)), some (.int (k : Nat)), some (rowA (bad13 k p)), some (fltA (flt13 k)), some (rowA (bad13 k2 p2)), x9, some (rowsA (one13 m t k p)), some (toldV (runF room13 (good13 m)) q), some (rowsA (two13 m t k p k2 p2)), some (.ref l13), none] ∧ S11[q]? = some (.dict (roomK (runF room13 (good13 m)).2.room)) ∧ Fr [] S10 S11) ?_ fun η S11 ⟨q, e, hq, f11⟩ => ?_
  · simp_arith only []
    rw [Ok_tupleL hl13, show AV.tup ((good13 m).map rowA) = rowsA (good13 m) from rfl]
    refine (text_ok ok3).imp fun v S11 ⟨e, f11⟩ => ?_
    subst e
    refine (cell_init ok3).imp fun v S12 ⟨e, f12, hc⟩ => ?_
    subst e
    simp_arith only []
    have hr12 := (hr10.on f11 (by simp)).on f12 (by simp)
    rw [Ok_dict (dictAt_dct hr12.at_)]
    refine (prog_run (hc.on (Fr.app (W := []) _) (by simp)) ⟨app_new, room13_ok, by decide⟩ ok3).imp fun v S13 ⟨q2, e, lq2, hq2, f13⟩ => ?_
    subst e
    exact ⟨_, rfl, hq2, ((f11.trans f12).more).trans f13⟩
  subst e
  have f511 := (f57.trans f79).trans (f10.trans f11)
  simp_arith only [toldV]
  rw [Ok_tupR (n := min 3 m) (Ok_min3 rfl) (by omega)]
  simp_arith only []
  rw [Ok_ten9]
  simp_arith only []
  rw [Ok_addT (by simp only [List.length_map, List.length_range, List.length_cons, List.length_nil]; omega)]
  simp_arith only []
  rw [eq13b g2 g3]
  simp_arith only []
  rw [Ok_room (dictAt_dct hq) g4, Ok_ten9]
  simp_arith only [beq_self_eq_true]
  exact ⟨trivial, f05.step0 f511, hb5.on f511 (by simp)⟩
def rowsK13 : List Row := [.pl (.set "a" [⟨false, .num 1, []⟩]), .pl (.shw [⟨false, .nm "a", []⟩]), .pl (.shw [⟨false, .nm "a", [(false, .num 0)]⟩]), .pl (.drop "a")]
theorem k13_rows : RowsOk rowsK13 := rowsC_ok (by decide +kernel)
theorem k13_text : rowsT rowsK13 = ("a = 1\nshow a\nshow a // 0\ndrop a" : Str) := by decide +kernel
theorem k13_run : (runF [] rowsK13).1 = some .nought ∧ (runF [] rowsK13).2.shown = [1] ∧ (runF [] rowsK13).2.room = ([("a", 1)] : Rm) := by decide +kernel
theorem law_ok : ∀ ns : List Int, ns.length ≤ 63 → ∃ S', den_law [.rl ns] [] = .ok (.bl true) S' := by
  intro ns hns
  have hz : sizeLine = 16777216 := sizeLine_eq
  have main : Ok (den_law [.rl ns] []) fun v S' => v = .bl true := by
    (unfold den_law; refine def_ok rfl ?_)
    unfold bd_law
    refine Go.mid (fun η S => ∃ x1 x2 x3 x4, η = [some (.rl ns), x1, x2, x3, x4]) ?_ fun η S ⟨x1, x2, x3, x4, e⟩ => ?_
    · simp_arith only []
      obtain ⟨n, en, hn⟩ := rng_of (m := (ns.length : Int)) (lo := 2) (hi := 5) (by decide) (by decide) (by decide)
      rw [Ok_rng1 en (by omega)]
      refine loopR_ok (fun k η S => ∃ x1 x2 x3 x4, η = [some (.rl ns), x1, x2, x3, x4]) ⟨_, _, _, _, rfl⟩ (fun k η S hk ⟨x1, x2, x3, x4, e⟩ => ?_) fun η S h => h
      subst e
      simp_arith only []
      refine (bag_ok (by omega)).imp fun v S1 ⟨b, e, lb, hb, f1⟩ => ?_
      subst e
      rw [Ok_rng1 (j := 8) (n := 8) rfl (by omega)]
      refine loopR_ok (fun k2 η S => ∃ x3 x4, η = [some (.rl ns), some (.int k), some (.ref b), x3, x4] ∧ Bag S b) ⟨_, _, rfl, hb⟩ (fun k2 η S hk ⟨x3, x4, e, hb⟩ => ?_) fun η S ⟨x3, x4, e, hb⟩ => ⟨_, _, _, _, e⟩
      subst e
      simp_arith only []
      refine (take_ok hb (by decide) (by decide)).imp fun v S2 ⟨d, e, hd, f2, hb2⟩ => ?_
      subst e
      refine (told_ok hb2 (by omega)).imp fun v S3 ⟨e, f3, hb3⟩ => ?_
      subst e
      simp_arith only []
      exact ⟨_, _, rfl, hb3⟩
    · subst e
      simp_arith only []
      rw [← k13_text]
      refine (cell_init k13_rows).imp fun v S2 ⟨e, f2, hc⟩ => ?_
      subst e
      simp_arith only []
      refine (prog_run (hc.on (Fr.app (W := []) (.dict [])) (by simp)) (rm := []) ⟨app_new, RmOk.nil, by simp⟩ k13_rows).imp fun v S3 ⟨q, e, lq, hq, f3⟩ => ?_
      subst e
      obtain ⟨h1, h2, h3⟩ := k13_run
      have e2 := eq_out (S := S3) (runF [] rowsK13)
      rw [h1, h2] at e2
      rw [h3] at hq
      simp_arith only [toldV, h1, h2, h3]
      rw [show eqS S3 (outA (some .nought) [1]) (.tup [.tup [.int 1], .tup [.str "nought"]]) = some true from e2]
      simp_arith only []
      rw [Ok_disp (ps := [(.str "a", .int 1)]) (ks := roomK [("a", 1)]) rfl rfl (by decide), show mergeA [] (roomK [("a", 1)]) = roomK [("a", 1)] by rfl]
      rw [eqS_room (app_get hq) app_new (RmOk.of (by decide +kernel))]
      simp_arith only []
  obtain ⟨v, S', e, h⟩ := main.get
  exact ⟨S', by rw [e, h]⟩

end Sim
set_option Elab.async false
set_option linter.all false
set_option maxRecDepth 100000
set_option maxHeartbeats 4000000
namespace Sim
open PySem PySem.Spec PyProof.Rows L2
def topS (i : Nat) : Stmt := PySem.Challenge.pw_freshcells_k13_faults_end.main.body.getD i (.Pass ⟨0, 0, 0, 0⟩)
structure Txt (K : PySem.W.Frag) (w : World) (mg : Str → Option Value) : Prop where
  n_len : mg "len" = none
  n_isinstance : mg "isinstance" = none
  n_range : mg "range" = none
  n_all : mg "all" = none
  n_list : mg "list" = none
  n_str : mg "str" = none
  n_int : mg "int" = none
  n_tuple : mg "tuple" = none
  n_dict : mg "dict" = none
  n_abs : mg "abs" = none
  n_min : mg "min" = none
  n_max : mg "max" = none
  n_sorted : mg "sorted" = none
  n_enumerate : mg "enumerate" = none
  g_LETTERS : ∃ t, mg "LETTERS" = some (.str "abcdefghijklmnopqrstuvwxyz" t)
  g_FIGURES : ∃ t, mg "FIGURES" = some (.str "0123456789" t)
  g_WORDS : ∃ a, mg "WORDS" = some (.ref a) ∧ ∀ H, SqT K H a ((["show", "drop", "if"] : List Str).map V.str)
  g_MOST_SIGNS : ∃ t, mg "MOST_SIGNS" = some (.int 4 t)
  g_MOST_ATOMS : ∃ t, mg "MOST_ATOMS" = some (.int 8 t)
  g_LIMIT : ∃ t, mg "LIMIT" = some (.int 1000000000 t)
  g_SIGNS : ∃ a, mg "SIGNS" = some (.ref a) ∧ KdAt K w a kd_SIGNS
  g_JOINTS : ∃ a, mg "JOINTS" = some (.ref a) ∧ ∀ H, SqT K H a ((["*", "//"] : List Str).map V.str)
  g_MOST_ROWS : ∃ t, mg "MOST_ROWS" = some (.int 6 t)
  f_text : HasF K mg ["Cell"] "text"
  f_rows : HasF K mg ["Cell"] "rows"
  f_standing : HasF K mg ["Run", "State"] "standing"
  f_shown : HasF K mg ["Run"] "shown"
  f_first_reads : HasF K mg ["Run"] "first_reads"
  f_changed : HasF K mg ["Run"] "changed"
section
variable {P : Program} {w : World} {K : PySem.W.Frag} {mg : Str → Option Value} {base : Heap}
abbrev s_is_name : Stmt := topS 14
abbrev n_is_name : List Str := ["thing", "sign"]
abbrev p_is_name : List Str := ["thing"]
theorem sc_is_name : FnScope n_is_name p_is_name (defScope s_is_name) := ⟨rfl, rfl, rfl, by decide +kernel, rfl, by decide +kernel, by decide +kernel⟩
theorem D_is_name (S : Src K mg "is_name" s_is_name p_is_name) (T : Txt K w mg) : Df P w K mg base "is_name" 1 p_is_name den_is_name := S.ok sc_is_name (fun f cdv A outer s H E hr => (sss_cons (ss_if (st_w (sw_or (st_not (st_tru (se_callB call_isi isi_ok (by rfl) T.n_isinstance (by decide +kernel) (sa_cons (se_v 0) (sa_cons (se_ty (n := "str") (by rfl) T.n_str (by decide +kernel)) sa_nil))))) (sw_or1 (st_not (t_chle se_int (se_callB call_len2 len_ok (by rfl) T.n_len (by decide +kernel) (sa_cons (se_v 0) sa_nil)) (se_gint (by rfl) T.g_MOST_SIGNS)))))) (sss_one (ss_ret se_bl)) sss_nil)
    (sss_one (ss_ret (se_and (e_notin hr (se_v 0) (se_gtup (by rfl) T.g_WORDS)) (se_one (se_callB (cr_all rfl) all_ok (by rfl) T.n_all (by decide +kernel) (sa_cons (se_lc (.nm 1) rfl sc_is_name.nd (si_walk (se_v 0)) (blkOk_by (own := [("sign", 1)]) (N := n_is_name) (sc := defScope s_is_name) (by decide +kernel)) rfl (fun _ _ _ _ _ => (pg_name (i := 1) sc_is_name.nd rfl (Or.inl rfl))) (fun _ _ _ _ _ => sts_nil) (fun _ _ _ _ _ => (e_in hr (se_v 1) (se_gstr (by rfl) T.g_LETTERS)))) sa_nil))))))))
abbrev s_marked_words : Stmt := topS 17
abbrev n_marked_words : List Str := ["text", "words", "at"]
abbrev p_marked_words : List Str := ["text"]
theorem sc_marked_words : FnScope n_marked_words p_marked_words (defScope s_marked_words) := ⟨rfl, rfl, rfl, by decide +kernel, rfl, by decide +kernel, by decide +kernel⟩
theorem D_marked_words (S : Src K mg "marked_words" s_marked_words p_marked_words) (T : Txt K w mg) : Df P w K mg base "marked_words" 1 p_marked_words den_marked_words := S.ok sc_marked_words (fun f cdv A outer s H E hr => (sss_cons (ss_set (i := 1) sc_marked_words.nd rfl (Or.inr rfl) (se_split (se_v 0) se_str))
    (sss_cons (ss_if (t_ne hr (se_ix (u65 hr) (se_v 1) se_int) se_str) (sss_one (ss_set (i := 1) sc_marked_words.nd rfl (Or.inr rfl) (e_add (se_lst (sa_cons se_str sa_nil)) (se_v 1)))) sss_nil)
    (sss_cons (ss_if (st_w (sw_or (t_gt (se_callB call_len2 len_ok (by rfl) T.n_len (by decide +kernel) (sa_cons (se_v 1) sa_nil)) (e_mul se_int (se_gint (by rfl) T.g_MOST_ATOMS))) (sw_or1 (t_ne hr (e_mod (se_callB call_len2 len_ok (by rfl) T.n_len (by decide +kernel) (sa_cons (se_v 1) sa_nil)) se_int) se_int)))) (sss_one ss_never) sss_nil)
    (sss_one (ss_ret (se_lc (.nm 2) rfl sc_marked_words.nd (si_rng3 (by rfl) T.n_range (sa_cons se_int (sa_cons (se_callB call_len2 len_ok (by rfl) T.n_len (by decide +kernel) (sa_cons (se_v 1) sa_nil)) (sa_cons se_int sa_nil)))) (blkOk_by (own := [("at", 2)]) (N := n_marked_words) (sc := defScope s_marked_words) (by decide +kernel)) rfl (fun _ _ _ _ _ => (pg_name (i := 2) sc_marked_words.nd rfl (Or.inl rfl))) (fun _ _ _ _ _ => sts_nil) (fun _ _ _ _ _ => (se_tup (sa_cons (se_ix (u65 hr) (se_v 1) (se_v 2)) (sa_cons (se_ix (u65 hr) (se_v 1) (e_add (se_v 2) se_int)) sa_nil)))))))))))
abbrev s_is_number_word : Stmt := topS 15
abbrev n_is_number_word : List Str := ["word", "most", "sign"]
abbrev p_is_number_word : List Str := ["word", "most"]
abbrev dvs_is_number_word : List V := [.int 3]
theorem sc_is_number_word : FnScope n_is_number_word p_is_number_word (defScope s_is_number_word) := ⟨rfl, rfl, rfl, by decide +kernel, rfl, by decide +kernel, by decide +kernel⟩
theorem D_is_number_word (S : SrcD K mg "is_number_word" s_is_number_word p_is_number_word dvs_is_number_word) (T : Txt K w mg) : ∀ j, j ≤ 1 → DfD P w K mg base "is_number_word" 1 p_is_number_word (dvs_is_number_word.drop j) den_is_number_word := fun j hj => S.ok sc_is_number_word (fun f cdv A outer s H E hr => (sss_cons (ss_if (st_w (sw_or (st_not (t_chle se_int (se_callB call_len2 len_ok (by rfl) T.n_len (by decide +kernel) (sa_cons (se_v 0) sa_nil)) (se_v 1))) (sw_or1 (st_not (st_tru (se_callB (cr_all rfl) all_ok (by rfl) T.n_all (by decide +kernel) (sa_cons (se_lc (.nm 2) rfl sc_is_number_word.nd (si_walk (se_v 0)) (blkOk_by (own := [("sign", 2)]) (N := n_is_number_word) (sc := defScope s_is_number_word) (by decide +kernel)) rfl (fun _ _ _ _ _ => (pg_name (i := 2) sc_is_number_word.nd rfl (Or.inl rfl))) (fun _ _ _ _ _ => sts_nil) (fun _ _ _ _ _ => (e_in hr (se_v 2) (se_gstr (by rfl) T.g_FIGURES)))) sa_nil))))))) (sss_one (ss_ret se_bl)) sss_nil)
    (sss_one (ss_ret (se_or (e_eq hr (se_v 0) se_str) (se_one (e_ne hr (se_ix (u65 hr) (se_v 0) se_int) se_str))))))) j hj
abbrev s_read_atom : Stmt := topS 16
abbrev n_read_atom : List Str := ["word"]
abbrev p_read_atom : List Str := ["word"]
theorem sc_read_atom : FnScope n_read_atom p_read_atom (defScope s_read_atom) := ⟨rfl, rfl, rfl, by decide +kernel, rfl, by decide +kernel, by decide +kernel⟩
theorem D_read_atom (S : Src K mg "read_atom" s_read_atom p_read_atom) (T : Txt K w mg) (D_is_number_word : ∀ j, j ≤ 1 → DfD P w K mg base "is_number_word" 1 p_is_number_word (dvs_is_number_word.drop j) den_is_number_word) (D_is_name : Df P w K mg base "is_name" 1 p_is_name den_is_name) : Df P w K mg base "read_atom" 2 p_read_atom den_read_atom := S.ok sc_read_atom (fun f cdv A outer s H E hr => (sss_cons (ss_if (st_tru (se_call D_is_name (hr.mono (by decide)) (takes_of rfl rfl rfl rfl) (by rfl) (sa_cons (se_v 0) sa_nil))) (sss_one (ss_ret (se_v 0))) sss_nil)
    (sss_cons (ss_if (st_tru (se_callD (D_is_number_word 0 (by decide)) (.int 3 CV.nil) (hr.mono (by decide)) (takes_of rfl rfl rfl rfl) (by rfl) (sa_cons (se_v 0) sa_nil))) (sss_one (ss_ret (se_callTy call_int2 int1_ok (by rfl) T.n_int (by decide +kernel) (sa_cons (se_v 0) sa_nil)))) sss_nil)
    (sss_one ss_never))))
abbrev s_read_sum : Stmt := topS 18
abbrev n_read_sum : List Str := ["text", "products", "mark", "word", "atom", "sign", "pairs"]
abbrev p_read_sum : List Str := ["text"]
theorem sc_read_sum : FnScope n_read_sum p_read_sum (defScope s_read_sum) := ⟨rfl, rfl, rfl, by decide +kernel, rfl, by decide +kernel, by decide +kernel⟩
theorem D_read_sum (S : Src K mg "read_sum" s_read_sum p_read_sum) (T : Txt K w mg) (D_marked_words : Df P w K mg base "marked_words" 1 p_marked_words den_marked_words) (D_read_atom : Df P w K mg base "read_atom" 2 p_read_atom den_read_atom) : Df P w K mg base "read_sum" 3 p_read_sum den_read_sum := S.ok sc_read_sum (fun f cdv A outer s H E hr => (sss_cons (ss_if (st_not (st_tru (se_callB call_isi isi_ok (by rfl) T.n_isinstance (by decide +kernel) (sa_cons (se_v 0) (sa_cons (se_ty (n := "str") (by rfl) T.n_str (by decide +kernel)) sa_nil))))) (sss_one ss_never) sss_nil)
    (sss_cons (ss_set (i := 1) sc_read_sum.nd rfl (Or.inl rfl) (se_lst sa_nil))
    (sss_cons (ss_for (passes_of rfl) rfl (si_walk (se_call D_marked_words (hr.mono (by decide)) (takes_of rfl rfl rfl rfl) (by rfl) (sa_cons (se_v 0) sa_nil))) (sg_tp (n := 2) rfl (sgs_cons (sg_nm (i := 2) sc_read_sum.nd rfl (Or.inl rfl)) (sgs_cons (sg_nm (i := 3) sc_read_sum.nd rfl (Or.inl rfl)) sgs_nil)))
    (sss_cons (ss_set (i := 4) sc_read_sum.nd rfl (Or.inl rfl) (se_call D_read_atom (hr.mono (by decide)) (takes_of rfl rfl rfl rfl) (by rfl) (sa_cons (se_v 3) sa_nil)))
    (sss_one (ss_if (t_in hr (se_v 2) (se_gkd (by rfl) T.g_SIGNS)) (sss_one (ss_expr (se_ml PySem.F.slot_list_append PySem.F.type_list_append mt_append append_ok (se_v 1) (sa_cons (se_tup (sa_cons (se_ix (u65 hr) (se_gkd (by rfl) T.g_SIGNS) (se_v 2)) (sa_cons (se_v 4) (sa_cons (se_lst sa_nil) sa_nil)))) sa_nil)))) (sss_one (ss_if (t_in hr (se_v 2) (se_gtup (by rfl) T.g_JOINTS)) (sss_one (ss_expr (se_ml PySem.F.slot_list_append PySem.F.type_list_append mt_append append_ok (se_ix (u65 hr) (se_ix (u65 hr) (se_v 1) (e_neg se_int)) se_int) (sa_cons (se_tup (sa_cons (se_v 2) (sa_cons (se_v 4) sa_nil))) sa_nil)))) (sss_one ss_never)))))))
    (sss_one (ss_ret (se_callTy call_tuple_of tuple_ok (by rfl) T.n_tuple (by decide +kernel) (sa_cons (se_lc (.tp [5, 4, 6]) rfl sc_read_sum.nd (si_walk (se_v 1)) (blkOk_by (own := [("sign", 5), ("atom", 4), ("pairs", 6)]) (N := n_read_sum) (sc := defScope s_read_sum) (by decide +kernel)) rfl (fun _ _ _ _ _ => pg_tup (n := 3) rfl (pgs_cons (pg_name (i := 5) sc_read_sum.nd rfl (Or.inl rfl)) (pgs_cons (pg_name (i := 4) sc_read_sum.nd rfl (Or.inl rfl)) (pgs_cons (pg_name (i := 6) sc_read_sum.nd rfl (Or.inl rfl)) pgs_nil)))) (fun _ _ _ _ _ => sts_nil) (fun _ _ _ _ _ => (se_tup (sa_cons (se_v 5) (sa_cons (se_v 4) (sa_cons (se_callTy call_tuple_of tuple_ok (by rfl) T.n_tuple (by decide +kernel) (sa_cons (se_v 6) sa_nil)) sa_nil)))))) sa_nil))))))))
abbrev s_sum_or_none : Stmt := topS 30
abbrev n_sum_or_none : List Str := ["text"]
abbrev p_sum_or_none : List Str := ["text"]
theorem sc_sum_or_none : FnScope n_sum_or_none p_sum_or_none (defScope s_sum_or_none) := ⟨rfl, rfl, rfl, by decide +kernel, rfl, by decide +kernel, by decide +kernel⟩
theorem D_sum_or_none (S : Src K mg "sum_or_none" s_sum_or_none p_sum_or_none) (D_read_sum : Df P w K mg base "read_sum" 3 p_read_sum den_read_sum) : Df P w K mg base "sum_or_none" 4 p_sum_or_none den_sum_or_none := S.ok sc_sum_or_none (fun f cdv A outer s H E hr => (sss_one (ss_thru (sss_one (ss_ret (se_call D_read_sum (hr.mono (by decide)) takes0 (by rfl) (sa_cons (se_v 0) sa_nil)))))))
abbrev s_read_plain_row : Stmt := topS 29
abbrev n_read_plain_row : List Str := ["line", "name", "shown", "_", "rest", "some"]
abbrev p_read_plain_row : List Str := ["line"]
theorem sc_read_plain_row : FnScope n_read_plain_row p_read_plain_row (defScope s_read_plain_row) := ⟨rfl, rfl, rfl, by decide +kernel, rfl, by decide +kernel, by decide +kernel⟩
theorem D_read_plain_row (S : Src K mg "read_plain_row" s_read_plain_row p_read_plain_row) (D_is_name : Df P w K mg base "is_name" 1 p_is_name den_is_name) (D_sum_or_none : Df P w K mg base "sum_or_none" 4 p_sum_or_none den_sum_or_none) : Df P w K mg base "read_plain_row" 5 p_read_plain_row den_read_plain_row := S.ok sc_read_plain_row (fun f cdv A outer s H E hr => (sss_cons (ss_if (st_tru (se_starts (se_v 0) se_str)) (sss_cons (ss_set (i := 1) sc_read_plain_row.nd rfl (Or.inl rfl) (se_rmpre (se_v 0) se_str))
    (sss_one (ss_ret (se_if (st_tru (se_call D_is_name (hr.mono (by decide)) (takes_of rfl rfl rfl rfl) (by rfl) (sa_cons (se_v 1) sa_nil))) (se_tup (sa_cons se_str (sa_cons (se_v 1) sa_nil))) se_non)))) sss_nil)
    (sss_cons (ss_if (st_tru (se_starts (se_v 0) se_str)) (sss_cons (ss_set (i := 2) sc_read_plain_row.nd rfl (Or.inl rfl) (se_call D_sum_or_none (hr.mono (by decide)) (takes_of rfl rfl rfl rfl) (by rfl) (sa_cons (se_rmpre (se_v 0) se_str) sa_nil)))
    (sss_one (ss_ret (se_if (t_is (se_v 2) se_non) se_non (se_tup (sa_cons se_str (sa_cons (se_v 2) sa_nil))))))) sss_nil)
    (sss_cons (ss_asg (se_part (se_v 0) se_str) (sg_tp (n := 3) rfl (sgs_cons (sg_nm (i := 1) sc_read_plain_row.nd rfl (Or.inl rfl)) (sgs_cons (sg_nm (i := 3) sc_read_plain_row.nd rfl (Or.inl rfl)) (sgs_cons (sg_nm (i := 4) sc_read_plain_row.nd rfl (Or.inl rfl)) sgs_nil)))))
    (sss_cons (ss_set (i := 5) sc_read_plain_row.nd rfl (Or.inl rfl) (se_call D_sum_or_none (hr.mono (by decide)) (takes_of rfl rfl rfl rfl) (by rfl) (sa_cons (se_v 4) sa_nil)))
    (sss_one (ss_ret (se_if (st_w (sw_and (st_tru (se_call D_is_name (hr.mono (by decide)) (takes_of rfl rfl rfl rfl) (by rfl) (sa_cons (se_v 1) sa_nil))) (sw_and1 (t_isnot (se_v 5) se_non)))) (se_tup (sa_cons se_str (sa_cons (se_v 1) (sa_cons (se_v 5) sa_nil)))) se_non))))))))
abbrev s_read_row : Stmt := topS 28
abbrev n_read_row : List Str := ["line", "test_text", "_", "rest", "test", "row"]
abbrev p_read_row : List Str := ["line"]
theorem sc_read_row : FnScope n_read_row p_read_row (defScope s_read_row) := ⟨rfl, rfl, rfl, by decide +kernel, rfl, by decide +kernel, by decide +kernel⟩
theorem D_read_row (S : Src K mg "read_row" s_read_row p_read_row) (D_read_plain_row : Df P w K mg base "read_plain_row" 5 p_read_plain_row den_read_plain_row) (D_sum_or_none : Df P w K mg base "sum_or_none" 4 p_sum_or_none den_sum_or_none) : Df P w K mg base "read_row" 6 p_read_row den_read_row := S.ok sc_read_row (fun f cdv A outer s H E hr => (sss_cons (ss_if (st_not (st_tru (se_starts (se_v 0) se_str))) (sss_one (ss_ret (se_call D_read_plain_row (hr.mono (by decide)) (takes_of rfl rfl rfl rfl) (by rfl) (sa_cons (se_v 0) sa_nil)))) sss_nil)
    (sss_cons (ss_asg (se_part (se_rmpre (se_v 0) se_str) se_str) (sg_tp (n := 3) rfl (sgs_cons (sg_nm (i := 1) sc_read_row.nd rfl (Or.inl rfl)) (sgs_cons (sg_nm (i := 2) sc_read_row.nd rfl (Or.inl rfl)) (sgs_cons (sg_nm (i := 3) sc_read_row.nd rfl (Or.inl rfl)) sgs_nil)))))
    (sss_cons (ss_set (i := 4) sc_read_row.nd rfl (Or.inl rfl) (se_call D_sum_or_none (hr.mono (by decide)) (takes_of rfl rfl rfl rfl) (by rfl) (sa_cons (se_v 1) sa_nil)))
    (sss_cons (ss_set (i := 5) sc_read_row.nd rfl (Or.inl rfl) (se_call D_read_plain_row (hr.mono (by decide)) (takes_of rfl rfl rfl rfl) (by rfl) (sa_cons (se_v 3) sa_nil)))
    (sss_cons (ss_if (st_w (sw_or (t_is (se_v 4) se_non) (sw_or1 (t_is (se_v 5) se_non)))) (sss_one (ss_ret se_non)) sss_nil)
    (sss_one (ss_ret (se_tup (sa_cons se_str (sa_cons (se_v 4) (sa_cons (se_v 5) sa_nil))))))))))))
abbrev s_read_rows : Stmt := topS 27
abbrev n_read_rows : List Str := ["text", "rows", "at", "line", "row"]
abbrev p_read_rows : List Str := ["text"]
theorem sc_read_rows : FnScope n_read_rows p_read_rows (defScope s_read_rows) := ⟨rfl, rfl, rfl, by decide +kernel, rfl, by decide +kernel, by decide +kernel⟩
theorem D_read_rows (S : Src K mg "read_rows" s_read_rows p_read_rows) (T : Txt K w mg) (D_read_row : Df P w K mg base "read_row" 6 p_read_row den_read_row) : Df P w K mg base "read_rows" 7 p_read_rows den_read_rows := S.ok sc_read_rows (fun f cdv A outer s H E hr => (sss_cons (ss_if (st_not (st_tru (se_callB call_isi isi_ok (by rfl) T.n_isinstance (by decide +kernel) (sa_cons (se_v 0) (sa_cons (se_ty (n := "str") (by rfl) T.n_str (by decide +kernel)) sa_nil))))) (sss_one ss_never) sss_nil)
    (sss_cons (ss_set (i := 1) sc_read_rows.nd rfl (Or.inl rfl) (se_lst sa_nil))
    (sss_cons (ss_for (passes_of rfl) rfl (si_enum (by rfl) T.n_enumerate (sa_cons (se_split (se_v 0) se_str) sa_nil)) (sg_tp (n := 2) rfl (sgs_cons (sg_nm (i := 2) sc_read_rows.nd rfl (Or.inl rfl)) (sgs_cons (sg_nm (i := 3) sc_read_rows.nd rfl (Or.inl rfl)) sgs_nil)))
    (sss_cons (ss_set (i := 4) sc_read_rows.nd rfl (Or.inl rfl) (se_if (t_lt (se_v 2) (se_gint (by rfl) T.g_MOST_ROWS)) (se_call D_read_row (hr.mono (by decide)) (takes_of rfl rfl rfl rfl) (by rfl) (sa_cons (se_v 3) sa_nil)) se_non))
    (sss_cons (ss_if (t_is (se_v 4) se_non) (sss_one ss_never) sss_nil)
    (sss_one (ss_expr (se_ml PySem.F.slot_list_append PySem.F.type_list_append mt_append append_ok (se_v 1) (sa_cons (se_v 4) sa_nil)))))))
    (sss_one (ss_ret (se_callTy call_tuple_of tuple_ok (by rfl) T.n_tuple (by decide +kernel) (sa_cons (se_v 1) sa_nil))))))))
abbrev s_Cell___init__ : Stmt := inClass (topS 26) 0
abbrev n_Cell___init__ : List Str := ["self", "text"]
abbrev p_Cell___init__ : List Str := ["self", "text"]
theorem sc_Cell___init__ : FnScope n_Cell___init__ p_Cell___init__ (defScope s_Cell___init__) := ⟨rfl, rfl, rfl, by decide +kernel, rfl, by decide +kernel, by decide +kernel⟩
theorem D_Cell___init__ (S : SrcI K mg "Cell" "Cell.__init__" s_Cell___init__ p_Cell___init__) (T : Txt K w mg) (D_read_rows : Df P w K mg base "read_rows" 7 p_read_rows den_read_rows) : DfI P w K mg base "Cell" 8 p_Cell___init__ den_Cell___init__ := S.ok sc_Cell___init__ (fun f cdv A outer s H E hr => (sss_cons (ss_fld T.f_text (se_v 0) (se_v 1))
    (sss_one (ss_fld T.f_rows (se_v 0) (se_call D_read_rows (hr.mono (by decide)) (takes_of rfl rfl rfl rfl) (by rfl) (sa_cons (se_v 1) sa_nil))))))
abbrev s_Run_change : Stmt := inClass (topS 22) 3
abbrev n_Run_change : List Str := ["self", "name", "value"]
abbrev p_Run_change : List Str := ["self", "name", "value"]
theorem sc_Run_change : FnScope n_Run_change p_Run_change (defScope s_Run_change) := ⟨rfl, rfl, rfl, by decide +kernel, rfl, by decide +kernel, by decide +kernel⟩
theorem D_Run_change (S : SrcM K mg "Run" "change" "Run.change" s_Run_change p_Run_change) (T : Txt K w mg) : DfM P w K mg base "Run" "change" 1 p_Run_change den_Run_change := S.ok sc_Run_change (fun f cdv A outer s H E hr => (sss_cons (ss_put (u65 hr) se_bl (se_fld T.f_changed (se_v 0)) (se_v 1))
    (sss_one (ss_if (t_is (se_v 2) se_non) (sss_one (ss_expr (se_pop2 (se_fld T.f_standing (se_v 0)) (se_v 1) se_non ⟨rfl, rfl, rfl, rfl⟩))) (sss_one (ss_put (u65 hr) (se_v 2) (se_fld T.f_standing (se_v 0)) (se_v 1)))))))
abbrev s_product_in : Stmt := topS 19
abbrev n_product_in : List Str := ["first", "pairs", "room", "names", "part", "mark", "atom", "number"]
abbrev p_product_in : List Str := ["first", "pairs", "room", "names"]
theorem sc_product_in : FnScope n_product_in p_product_in (defScope s_product_in) := ⟨rfl, rfl, rfl, by decide +kernel, rfl, by decide +kernel, by decide +kernel⟩
theorem D_product_in (S : Src K mg "product_in" s_product_in p_product_in) (T : Txt K w mg) : Df P w K mg base "product_in" 1 p_product_in den_product_in := S.ok sc_product_in (fun f cdv A outer s H E hr => (sss_cons (ss_set (i := 4) sc_product_in.nd rfl (Or.inl rfl) se_int)
    (sss_cons (ss_for (passes_of rfl) rfl (si_walk (se_tup (sa_cons (se_tup (sa_cons se_str (sa_cons (se_v 0) sa_nil))) (sa_star (se_v 1) sa_nil)))) (sg_tp (n := 2) rfl (sgs_cons (sg_nm (i := 5) sc_product_in.nd rfl (Or.inl rfl)) (sgs_cons (sg_nm (i := 6) sc_product_in.nd rfl (Or.inl rfl)) sgs_nil)))
    (sss_cons (ss_set (i := 7) sc_product_in.nd rfl (Or.inl rfl) (se_v 6))
    (sss_cons (ss_if (st_tru (se_callB call_isi isi_ok (by rfl) T.n_isinstance (by decide +kernel) (sa_cons (se_v 6) (sa_cons (se_ty (n := "str") (by rfl) T.n_str (by decide +kernel)) sa_nil)))) (sss_cons (ss_expr (se_ml PySem.F.slot_list_append PySem.F.type_list_append mt_append append_ok (se_v 3) (sa_cons (se_v 6) sa_nil)))
    (sss_cons (ss_if (t_notin hr (se_v 6) (se_v 2)) (sss_one (ss_ret (se_tup (sa_cons se_non (sa_cons (se_tup (sa_cons se_str (sa_cons (se_v 6) sa_nil))) sa_nil))))) sss_nil)
    (sss_one (ss_set (i := 7) sc_product_in.nd rfl (Or.inl rfl) (se_ix (u65 hr) (se_v 2) (se_v 6)))))) sss_nil)
    (sss_cons (ss_if (t_eq hr (se_v 5) se_str) (sss_one (ss_set (i := 4) sc_product_in.nd rfl (Or.inl rfl) (e_mul (se_v 4) (se_v 7)))) (sss_one (ss_if (t_eq hr (se_v 7) se_int) (sss_one (ss_ret (se_tup (sa_cons se_non (sa_cons (se_tup (sa_cons se_str sa_nil)) sa_nil))))) (sss_one (ss_set (i := 4) sc_product_in.nd rfl (Or.inl rfl) (e_fdiv (se_v 4) (se_v 7)))))))
    (sss_one (ss_if (st_not (t_chle (e_neg (se_gint (by rfl) T.g_LIMIT)) (se_v 4) (se_gint (by rfl) T.g_LIMIT))) (sss_one (ss_ret (se_tup (sa_cons se_non (sa_cons (se_tup (sa_cons se_str sa_nil)) sa_nil))))) sss_nil))))))
    (sss_one (ss_ret (se_tup (sa_cons (se_v 4) (sa_cons se_non sa_nil))))))))
abbrev s_worked_out : Stmt := topS 20
abbrev n_worked_out : List Str := ["some", "room", "names", "total", "sign", "first", "pairs", "part", "fault"]
abbrev p_worked_out : List Str := ["some", "room"]
theorem sc_worked_out : FnScope n_worked_out p_worked_out (defScope s_worked_out) := ⟨rfl, rfl, rfl, by decide +kernel, rfl, by decide +kernel, by decide +kernel⟩
theorem D_worked_out (S : Src K mg "worked_out" s_worked_out p_worked_out) (T : Txt K w mg) (D_product_in : Df P w K mg base "product_in" 1 p_product_in den_product_in) : Df P w K mg base "worked_out" 2 p_worked_out den_worked_out := S.ok sc_worked_out (fun f cdv A outer s H E hr => (sss_cons (ss_set (i := 2) sc_worked_out.nd rfl (Or.inl rfl) (se_lst sa_nil))
    (sss_cons (ss_set (i := 3) sc_worked_out.nd rfl (Or.inl rfl) se_int)
    (sss_cons (ss_for (passes_of rfl) rfl (si_walk (se_v 0)) (sg_tp (n := 3) rfl (sgs_cons (sg_nm (i := 4) sc_worked_out.nd rfl (Or.inl rfl)) (sgs_cons (sg_nm (i := 5) sc_worked_out.nd rfl (Or.inl rfl)) (sgs_cons (sg_nm (i := 6) sc_worked_out.nd rfl (Or.inl rfl)) sgs_nil))))
    (sss_cons (ss_asg (se_call D_product_in (hr.mono (by decide)) (takes_of rfl rfl rfl rfl) (by rfl) (sa_cons (se_v 5) (sa_cons (se_v 6) (sa_cons (se_v 1) (sa_cons (se_v 2) sa_nil))))) (sg_tp (n := 2) rfl (sgs_cons (sg_nm (i := 7) sc_worked_out.nd rfl (Or.inl rfl)) (sgs_cons (sg_nm (i := 8) sc_worked_out.nd rfl (Or.inl rfl)) sgs_nil))))
    (sss_cons (ss_if (t_isnot (se_v 8) se_non) (sss_one (ss_ret (se_tup (sa_cons se_non (sa_cons (se_v 8) (sa_cons (se_v 2) sa_nil)))))) sss_nil)
    (sss_cons (ss_set (i := 3) sc_worked_out.nd rfl (Or.inl rfl) (e_add (se_v 3) (e_mul (se_v 4) (se_v 7))))
    (sss_one (ss_if (st_not (t_chle (e_neg (se_gint (by rfl) T.g_LIMIT)) (se_v 3) (se_gint (by rfl) T.g_LIMIT))) (sss_one (ss_ret (se_tup (sa_cons se_non (sa_cons (se_tup (sa_cons se_str sa_nil)) (sa_cons (se_v 2) sa_nil)))))) sss_nil))))))
    (sss_one (ss_ret (se_tup (sa_cons (se_v 3) (sa_cons se_non (sa_cons (se_v 2) sa_nil))))))))))
abbrev s_Run_work_out : Stmt := inClass (topS 22) 2
abbrev n_Run_work_out : List Str := ["self", "some", "value", "fault", "names", "name"]
abbrev p_Run_work_out : List Str := ["self", "some"]
theorem sc_Run_work_out : FnScope n_Run_work_out p_Run_work_out (defScope s_Run_work_out) := ⟨rfl, rfl, rfl, by decide +kernel, rfl, by decide +kernel, by decide +kernel⟩
theorem D_Run_work_out (S : SrcM K mg "Run" "work_out" "Run.work_out" s_Run_work_out p_Run_work_out) (T : Txt K w mg) (D_worked_out : Df P w K mg base "worked_out" 2 p_worked_out den_worked_out) : DfM P w K mg base "Run" "work_out" 3 p_Run_work_out den_Run_work_out := S.ok sc_Run_work_out (fun f cdv A outer s H E hr => (sss_cons (ss_asg (se_call D_worked_out (hr.mono (by decide)) (takes_of rfl rfl rfl rfl) (by rfl) (sa_cons (se_v 1) (sa_cons (se_fld T.f_standing (se_v 0)) sa_nil))) (sg_tp (n := 3) rfl (sgs_cons (sg_nm (i := 2) sc_Run_work_out.nd rfl (Or.inl rfl)) (sgs_cons (sg_nm (i := 3) sc_Run_work_out.nd rfl (Or.inl rfl)) (sgs_cons (sg_nm (i := 4) sc_Run_work_out.nd rfl (Or.inl rfl)) sgs_nil)))))
    (sss_cons (ss_for (passes_of rfl) rfl (si_walk (se_v 4)) (sg_nm (i := 5) sc_Run_work_out.nd rfl (Or.inl rfl))
    (sss_one (ss_if (t_notin hr (se_v 5) (se_fld T.f_changed (se_v 0))) (sss_one (ss_put (u65 hr) (se_get1 (u65 hr) (se_fld T.f_standing (se_v 0)) (se_v 5) ⟨rfl, rfl, rfl, rfl⟩) (se_fld T.f_first_reads (se_v 0)) (se_v 5))) sss_nil)))
    (sss_one (ss_ret (se_tup (sa_cons (se_v 2) (sa_cons (se_v 3) sa_nil))))))))
abbrev s_Run_follow : Stmt := inClass (topS 22) 1
abbrev n_Run_follow : List Str := ["self", "row", "value", "fault"]
abbrev p_Run_follow : List Str := ["self", "row"]
theorem sc_Run_follow : FnScope n_Run_follow p_Run_follow (defScope s_Run_follow) := ⟨rfl, rfl, rfl, by decide +kernel, rfl, by decide +kernel, by decide +kernel⟩
theorem R_Run_follow {k : Nat} (hk : 3 ≤ k) {rec : List AV → M AV} (S : SrcM K mg "Run" "follow" "Run.follow" s_Run_follow p_Run_follow) (T : Txt K w mg) (D_Run_change : DfM P w K mg base "Run" "change" 1 p_Run_change den_Run_change) (D_Run_work_out : DfM P w K mg base "Run" "work_out" 3 p_Run_work_out den_Run_work_out) (Drec : DfM P w K mg base "Run" "follow" k p_Run_follow rec) : DfM P w K mg base "Run" "follow" (k + 1) p_Run_follow ((rb_Run_follow) rec) := S.ok sc_Run_follow (fun f cdv A outer s H E hr => (sss_cons (ss_if (t_eq hr (se_ix (u65 hr) (se_v 1) se_int) se_str) (sss_cons (ss_expr (se_meth D_Run_change (hr.mono (by omega)) (takes_of rfl rfl rfl rfl) (se_v 0) (sa_cons (se_ix (u65 hr) (se_v 1) se_int) (sa_cons se_non sa_nil))))
    (sss_one (ss_ret se_non))) sss_nil)
    (sss_cons (ss_asg (se_meth D_Run_work_out (hr.mono (by omega)) (takes_of rfl rfl rfl rfl) (se_v 0) (sa_cons (se_if (t_eq hr (se_ix (u65 hr) (se_v 1) se_int) se_str) (se_ix (u65 hr) (se_v 1) se_int) (se_ix (u65 hr) (se_v 1) se_int)) sa_nil)) (sg_tp (n := 2) rfl (sgs_cons (sg_nm (i := 2) sc_Run_follow.nd rfl (Or.inl rfl)) (sgs_cons (sg_nm (i := 3) sc_Run_follow.nd rfl (Or.inl rfl)) sgs_nil))))
    (sss_cons (ss_if (t_isnot (se_v 3) se_non) (sss_one (ss_ret (se_v 3))) sss_nil)
    (sss_cons (ss_if (t_eq hr (se_ix (u65 hr) (se_v 1) se_int) se_str) (sss_one (ss_expr (se_meth D_Run_change (hr.mono (by omega)) (takes_of rfl rfl rfl rfl) (se_v 0) (sa_cons (se_ix (u65 hr) (se_v 1) se_int) (sa_cons (se_v 2) sa_nil))))) (sss_one (ss_if (t_eq hr (se_ix (u65 hr) (se_v 1) se_int) se_str) (sss_one (ss_expr (se_ml PySem.F.slot_list_append PySem.F.type_list_append mt_append append_ok (se_fld T.f_shown (se_v 0)) (sa_cons (se_v 2) sa_nil)))) (sss_one (ss_if (t_ne hr (se_v 2) se_int) (sss_one (ss_ret (se_meth Drec (hr.mono (by omega)) (takes_of rfl rfl rfl rfl) (se_v 0) (sa_cons (se_ix (u65 hr) (se_v 1) se_int) sa_nil)))) sss_nil)))))
    (sss_one (ss_ret se_non)))))))
theorem D_Run_follow (S : SrcM K mg "Run" "follow" "Run.follow" s_Run_follow p_Run_follow) (T : Txt K w mg) (D_Run_change : DfM P w K mg base "Run" "change" 1 p_Run_change den_Run_change) (D_Run_work_out : DfM P w K mg base "Run" "work_out" 3 p_Run_work_out den_Run_work_out) : DfM P w K mg base "Run" "follow" 5 p_Run_follow den_Run_follow := (R_Run_follow (k := 4) (by decide) S T D_Run_change D_Run_work_out (R_Run_follow (k := 3) (by decide) S T D_Run_change D_Run_work_out ((S.bad sc_Run_follow).mono (by decide))))
abbrev s_Run___init__ : Stmt := inClass (topS 22) 0
abbrev n_Run___init__ : List Str := ["self", "room"]
abbrev p_Run___init__ : List Str := ["self", "room"]
theorem sc_Run___init__ : FnScope n_Run___init__ p_Run___init__ (defScope s_Run___init__) := ⟨rfl, rfl, rfl, by decide +kernel, rfl, by decide +kernel, by decide +kernel⟩
theorem D_Run___init__ (S : SrcI K mg "Run" "Run.__init__" s_Run___init__ p_Run___init__) (T : Txt K w mg) : DfI P w K mg base "Run" 1 p_Run___init__ den_Run___init__ := S.ok sc_Run___init__ (fun f cdv A outer s H E hr => (sss_cons (ss_fld T.f_standing (se_v 0) (se_callTy call_dictD dict_ok (by rfl) T.n_dict (by decide +kernel) (sa_cons (se_v 1) sa_nil)))
    (sss_cons (ss_fld T.f_shown (se_v 0) (se_lst sa_nil))
    (sss_cons (ss_fld T.f_first_reads (se_v 0) se_dnew)
    (sss_one (ss_fld T.f_changed (se_v 0) se_dnew))))))
abbrev s_run_in : Stmt := topS 23
abbrev n_run_in : List Str := ["cell", "room", "run", "fault", "row", "outcome", "reads", "sets", "name"]
abbrev p_run_in : List Str := ["cell", "room"]
theorem sc_run_in : FnScope n_run_in p_run_in (defScope s_run_in) := ⟨rfl, rfl, rfl, by decide +kernel, rfl, by decide +kernel, by decide +kernel⟩
theorem D_run_in (S : Src K mg "run_in" s_run_in p_run_in) (T : Txt K w mg) (D_Run_follow : DfM P w K mg base "Run" "follow" 5 p_Run_follow den_Run_follow) (D_Run___init__ : DfI P w K mg base "Run" 1 p_Run___init__ den_Run___init__) : Df P w K mg base "run_in" 6 p_run_in den_run_in := S.ok sc_run_in (fun f cdv A outer s H E hr => (sss_cons (ss_set (i := 2) sc_run_in.nd rfl (Or.inr rfl) (se_make D_Run___init__ (hr.mono (by decide)) (takes_of rfl rfl rfl rfl) (by rfl) (sa_cons (se_v 1) sa_nil)))
    (sss_cons (ss_set (i := 3) sc_run_in.nd rfl (Or.inl rfl) se_non)
    (sss_cons (ss_for (passes_of rfl) rfl (si_walk (se_fld T.f_rows (se_v 0))) (sg_nm (i := 4) sc_run_in.nd rfl (Or.inl rfl))
    (sss_cons (ss_set (i := 3) sc_run_in.nd rfl (Or.inl rfl) (se_meth D_Run_follow (hr.mono (by decide)) (takes_of rfl rfl rfl rfl) (se_v 2) (sa_cons (se_v 4) sa_nil)))
    (sss_one (ss_if (t_isnot (se_v 3) se_non) (sss_one ss_break) sss_nil))))
    (sss_cons (ss_set (i := 5) sc_run_in.nd rfl (Or.inl rfl) (se_tup (sa_cons (se_callTy call_tuple_of tuple_ok (by rfl) T.n_tuple (by decide +kernel) (sa_cons (se_fld T.f_shown (se_v 2)) sa_nil)) (sa_cons (se_v 3) sa_nil))))
    (sss_cons (ss_set (i := 6) sc_run_in.nd rfl (Or.inl rfl) (se_callTy call_tuple_of tuple_ok (by rfl) T.n_tuple (by decide +kernel) (sa_cons (se_lit rfl (se_fld T.f_first_reads (se_v 2)) (by rfl) T.n_list (by decide +kernel)) sa_nil)))
    (sss_cons (ss_set (i := 7) sc_run_in.nd rfl (Or.inl rfl) (se_callTy call_tuple_of tuple_ok (by rfl) T.n_tuple (by decide +kernel) (sa_cons (se_lc (.nm 8) rfl sc_run_in.nd (si_walk (se_callB (call_sorted2 rfl) sorted_ok (by rfl) T.n_sorted (by decide +kernel) (sa_cons (se_fld T.f_changed (se_v 2)) sa_nil))) (blkOk_by (own := [("name", 8)]) (N := n_run_in) (sc := defScope s_run_in) (by decide +kernel)) rfl (fun _ _ _ _ _ => (pg_name (i := 8) sc_run_in.nd rfl (Or.inl rfl))) (fun _ _ _ _ _ => sts_nil) (fun _ _ _ _ _ => (se_tup (sa_cons (se_v 8) (sa_cons (se_get1 (u65 hr) (se_fld T.f_standing (se_v 2)) (se_v 8) ⟨rfl, rfl, rfl, rfl⟩) sa_nil))))) sa_nil)))
    (sss_one (ss_ret (se_tup (sa_cons (se_v 5) (sa_cons (se_v 6) (sa_cons (se_v 7) (sa_cons (se_fld T.f_standing (se_v 2)) sa_nil))))))))))))))
abbrev s_Ltake : Stmt := topS 32
abbrev n_Ltake : List Str := ["_law_bag_here", "_law_many", "_law_digit"]
abbrev p_Ltake : List Str := ["_law_bag_here", "_law_many"]
theorem sc_Ltake : FnScope n_Ltake p_Ltake (defScope s_Ltake) := ⟨rfl, rfl, rfl, by decide +kernel, rfl, by decide +kernel, by decide +kernel⟩
theorem D_Ltake (S : Src K mg "_law_take" s_Ltake p_Ltake) : Df P w K mg base "_law_take" 1 p_Ltake den_Ltake := S.ok sc_Ltake (fun f cdv A outer s H E hr => (sss_cons (ss_if (t_gt (se_ix (u65 hr) (se_v 0) se_int) se_int) (sss_cons (ss_set (i := 2) sc_Ltake.nd rfl (Or.inl rfl) (e_mod (se_ix (u65 hr) (se_v 0) se_int) (se_v 1)))
    (sss_cons (ss_put (u65 hr) (e_fdiv (se_ix (u65 hr) (se_v 0) se_int) (se_v 1)) (se_v 0) se_int)
    (sss_one (ss_ret (se_v 2))))) sss_nil)
    (sss_cons (ss_put (u65 hr) (e_mod (e_add (e_mul (se_ix (u65 hr) (se_v 0) se_int) se_int) se_int) se_int) (se_v 0) se_int)
    (sss_one (ss_ret (e_mod (e_fdiv (e_mod (e_pow (se_ix (u65 hr) (se_v 0) se_int) se_int) se_int) se_int) (se_v 1)))))))
abbrev s_Lsum_text : Stmt := topS 35
abbrev n_Lsum_text : List Str := ["_law_some", "_law_found", "_law_side", "_law_first", "_law_pairs", "_law_part", "_law_word", "_law_atom"]
abbrev p_Lsum_text : List Str := ["_law_some"]
theorem sc_Lsum_text : FnScope n_Lsum_text p_Lsum_text (defScope s_Lsum_text) := ⟨rfl, rfl, rfl, by decide +kernel, rfl, by decide +kernel, by decide +kernel⟩
theorem D_Lsum_text (S : Src K mg "_law_sum_text" s_Lsum_text p_Lsum_text) (T : Txt K w mg) : Df P w K mg base "_law_sum_text" 1 p_Lsum_text den_Lsum_text := S.ok sc_Lsum_text (fun f cdv A outer s H E hr => (sss_cons (ss_set (i := 1) sc_Lsum_text.nd rfl (Or.inl rfl) se_str)
    (sss_cons (ss_for (passes_of rfl) rfl (si_walk (se_v 0)) (sg_tp (n := 3) rfl (sgs_cons (sg_nm (i := 2) sc_Lsum_text.nd rfl (Or.inl rfl)) (sgs_cons (sg_nm (i := 3) sc_Lsum_text.nd rfl (Or.inl rfl)) (sgs_cons (sg_nm (i := 4) sc_Lsum_text.nd rfl (Or.inl rfl)) sgs_nil))))
    (sss_cons (ss_set (i := 5) sc_Lsum_text.nd rfl (Or.inl rfl) (se_join se_str (e_add (se_lst (sa_cons (se_callTy call_str2 str_ok (by rfl) T.n_str (by decide +kernel) (sa_cons (se_v 3) sa_nil)) sa_nil)) (se_lc (.tp [6, 7]) rfl sc_Lsum_text.nd (si_walk (se_v 4)) (blkOk_by (own := [("_law_word", 6), ("_law_atom", 7)]) (N := n_Lsum_text) (sc := defScope s_Lsum_text) (by decide +kernel)) rfl (fun _ _ _ _ _ => pg_tup (n := 2) rfl (pgs_cons (pg_name (i := 6) sc_Lsum_text.nd rfl (Or.inl rfl)) (pgs_cons (pg_name (i := 7) sc_Lsum_text.nd rfl (Or.inl rfl)) pgs_nil))) (fun _ _ _ _ _ => sts_nil) (fun _ _ _ _ _ => (e_add (e_add (se_v 6) se_str) (se_callTy call_str2 str_ok (by rfl) T.n_str (by decide +kernel) (sa_cons (se_v 7) sa_nil))))))))
    (sss_one (ss_if (t_eq hr (se_v 1) se_str) (sss_one (ss_set (i := 1) sc_Lsum_text.nd rfl (Or.inl rfl) (se_if (t_lt (se_v 2) se_int) (e_add se_str (se_v 5)) (se_v 5)))) (sss_one (ss_set (i := 1) sc_Lsum_text.nd rfl (Or.inl rfl) (e_add (e_add (se_v 1) (se_ix (u65 hr) (se_lst (sa_cons se_str (sa_cons se_str sa_nil))) (se_callTy call_int2 int1_ok (by rfl) T.n_int (by decide +kernel) (sa_cons (e_lt (se_v 2) se_int) sa_nil)))) (se_v 5))))))))
    (sss_one (ss_ret (se_v 1))))))
abbrev s_Lrow_text : Stmt := topS 34
abbrev n_Lrow_text : List Str := ["_law_row"]
abbrev p_Lrow_text : List Str := ["_law_row"]
theorem sc_Lrow_text : FnScope n_Lrow_text p_Lrow_text (defScope s_Lrow_text) := ⟨rfl, rfl, rfl, by decide +kernel, rfl, by decide +kernel, by decide +kernel⟩
theorem R_Lrow_text {k : Nat} (hk : 1 ≤ k) {rec : List AV → M AV} (S : Src K mg "_law_row_text" s_Lrow_text p_Lrow_text) (D_Lsum_text : Df P w K mg base "_law_sum_text" 1 p_Lsum_text den_Lsum_text) (Drec : Df P w K mg base "_law_row_text" k p_Lrow_text rec) : Df P w K mg base "_law_row_text" (k + 1) p_Lrow_text ((rb_Lrow_text) rec) := S.ok sc_Lrow_text (fun f cdv A outer s H E hr => (sss_cons (ss_if (t_eq hr (se_ix (u65 hr) (se_v 0) se_int) se_str) (sss_one (ss_ret (e_add (e_add (se_ix (u65 hr) (se_v 0) se_int) se_str) (se_call D_Lsum_text (hr.mono (by omega)) (takes_of rfl rfl rfl rfl) (by rfl) (sa_cons (se_ix (u65 hr) (se_v 0) se_int) sa_nil))))) sss_nil)
    (sss_cons (ss_if (t_eq hr (se_ix (u65 hr) (se_v 0) se_int) se_str) (sss_one (ss_ret (e_add (e_add (e_add se_str (se_call D_Lsum_text (hr.mono (by omega)) (takes_of rfl rfl rfl rfl) (by rfl) (sa_cons (se_ix (u65 hr) (se_v 0) se_int) sa_nil))) se_str) (se_call Drec (hr.mono (by omega)) (takes_of rfl rfl rfl rfl) (by rfl) (sa_cons (se_ix (u65 hr) (se_v 0) se_int) sa_nil))))) sss_nil)
    (sss_one (ss_ret (e_add (e_add (se_ix (u65 hr) (se_v 0) se_int) se_str) (se_if (t_eq hr (se_ix (u65 hr) (se_v 0) se_int) se_str) (se_ix (u65 hr) (se_v 0) se_int) (se_call D_Lsum_text (hr.mono (by omega)) (takes_of rfl rfl rfl rfl) (by rfl) (sa_cons (se_ix (u65 hr) (se_v 0) se_int) sa_nil)))))))))
theorem D_Lrow_text (S : Src K mg "_law_row_text" s_Lrow_text p_Lrow_text) (D_Lsum_text : Df P w K mg base "_law_sum_text" 1 p_Lsum_text den_Lsum_text) : Df P w K mg base "_law_row_text" 3 p_Lrow_text den_Lrow_text := (R_Lrow_text (k := 2) (by decide) S D_Lsum_text (R_Lrow_text (k := 1) (by decide) S D_Lsum_text ((S.bad sc_Lrow_text).mono (by decide))))
abbrev s_Ltext : Stmt := topS 33
abbrev n_Ltext : List Str := ["_law_rows", "_law_row"]
abbrev p_Ltext : List Str := ["_law_rows"]
theorem sc_Ltext : FnScope n_Ltext p_Ltext (defScope s_Ltext) := ⟨rfl, rfl, rfl, by decide +kernel, rfl, by decide +kernel, by decide +kernel⟩
theorem D_Ltext (S : Src K mg "_law_text" s_Ltext p_Ltext) (D_Lrow_text : Df P w K mg base "_law_row_text" 3 p_Lrow_text den_Lrow_text) : Df P w K mg base "_law_text" 4 p_Ltext den_Ltext := S.ok sc_Ltext (fun f cdv A outer s H E hr => (sss_one (ss_ret (se_join se_str (se_lc (.nm 1) rfl sc_Ltext.nd (si_walk (se_v 0)) (blkOk_by (own := [("_law_row", 1)]) (N := n_Ltext) (sc := defScope s_Ltext) (by decide +kernel)) rfl (fun _ _ _ _ _ => (pg_name (i := 1) sc_Ltext.nd rfl (Or.inl rfl))) (fun _ _ _ _ _ => sts_nil) (fun _ _ _ _ _ => (se_call D_Lrow_text (hr.mono (by decide)) takes0 (by rfl) (sa_cons (se_v 1) sa_nil))))))))
abbrev s_Lfault_row : Stmt := topS 37
abbrev n_Lfault_row : List Str := ["_law_bag_here", "_law_kind", "_law_sums", "_law_faults", "_law_some"]
abbrev p_Lfault_row : List Str := ["_law_bag_here", "_law_kind"]
theorem sc_Lfault_row : FnScope n_Lfault_row p_Lfault_row (defScope s_Lfault_row) := ⟨rfl, rfl, rfl, by decide +kernel, rfl, by decide +kernel, by decide +kernel⟩
theorem D_Lfault_row (S : Src K mg "_law_fault_row" s_Lfault_row p_Lfault_row) (D_Ltake : Df P w K mg base "_law_take" 1 p_Ltake den_Ltake) : Df P w K mg base "_law_fault_row" 2 p_Lfault_row den_Lfault_row := S.ok sc_Lfault_row (fun f cdv A outer s H E hr => (sss_cons (ss_set (i := 2) sc_Lfault_row.nd rfl (Or.inl rfl) (se_lst (sa_cons (se_tup (sa_cons (se_tup (sa_cons se_int (sa_cons se_str (sa_cons (se_tup sa_nil) sa_nil)))) sa_nil)) (sa_cons (se_tup (sa_cons (se_tup (sa_cons se_int (sa_cons se_int (sa_cons (se_tup (sa_cons (se_tup (sa_cons se_str (sa_cons se_int sa_nil))) sa_nil)) sa_nil)))) sa_nil)) (sa_cons (se_tup (sa_cons (se_tup (sa_cons se_int (sa_cons se_str (sa_cons (se_tup sa_nil) sa_nil)))) (sa_cons (se_tup (sa_cons se_int (sa_cons se_int (sa_cons (se_tup sa_nil) sa_nil)))) sa_nil))) (sa_cons (se_tup (sa_cons (se_tup (sa_cons (e_neg se_int) (sa_cons se_str (sa_cons (se_tup sa_nil) sa_nil)))) (sa_cons (se_tup (sa_cons (e_neg se_int) (sa_cons se_int (sa_cons (se_tup sa_nil) sa_nil)))) sa_nil))) sa_nil))))))
    (sss_cons (ss_set (i := 3) sc_Lfault_row.nd rfl (Or.inl rfl) (se_lst (sa_cons (se_tup (sa_cons se_str (sa_cons se_str sa_nil))) (sa_cons (se_tup (sa_cons se_str sa_nil)) (sa_cons (se_tup (sa_cons se_str sa_nil)) (sa_cons (se_tup (sa_cons se_str sa_nil)) sa_nil))))))
    (sss_cons (ss_set (i := 4) sc_Lfault_row.nd rfl (Or.inl rfl) (se_lst (sa_cons (se_tup (sa_cons se_str (sa_cons (se_ix (u65 hr) (se_v 2) (se_v 1)) sa_nil))) (sa_cons (se_tup (sa_cons se_str (sa_cons se_str (sa_cons (se_ix (u65 hr) (se_v 2) (se_v 1)) sa_nil)))) (sa_cons (se_tup (sa_cons se_str (sa_cons (se_ix (u65 hr) (se_v 2) (se_v 1)) (sa_cons (se_tup (sa_cons se_str (sa_cons (se_tup (sa_cons (se_tup (sa_cons se_int (sa_cons se_int (sa_cons (se_tup sa_nil) sa_nil)))) sa_nil)) sa_nil))) sa_nil)))) sa_nil)))))
    (sss_one (ss_ret (se_tup (sa_cons (se_ix (u65 hr) (se_v 4) (se_call D_Ltake (hr.mono (by decide)) (takes_of rfl rfl rfl rfl) (by rfl) (sa_cons (se_v 0) (sa_cons se_int sa_nil)))) (sa_cons (se_ix (u65 hr) (se_v 3) (se_v 1)) sa_nil)))))))))
abbrev s_Lis_told : Stmt := topS 38
abbrev n_Lis_told : List Str := ["_law_bag_here", "_law_many", "_law_room", "_law_ahead", "_law_at", "_law_kind", "_law_row", "_law_fault", "_law_second", "_law_other", "_law_rows", "_law_told", "_law_twice", "_law_good", "_law_k"]
abbrev p_Lis_told : List Str := ["_law_bag_here", "_law_many"]
theorem sc_Lis_told : FnScope n_Lis_told p_Lis_told (defScope s_Lis_told) := ⟨rfl, rfl, rfl, by decide +kernel, rfl, by decide +kernel, by decide +kernel⟩
theorem D_Lis_told (S : Src K mg "_law_is_told" s_Lis_told p_Lis_told) (T : Txt K w mg) (D_Ltext : Df P w K mg base "_law_text" 4 p_Ltext den_Ltext) (D_Cell___init__ : DfI P w K mg base "Cell" 8 p_Cell___init__ den_Cell___init__) (D_run_in : Df P w K mg base "run_in" 6 p_run_in den_run_in) (D_Ltake : Df P w K mg base "_law_take" 1 p_Ltake den_Ltake) (D_Lfault_row : Df P w K mg base "_law_fault_row" 2 p_Lfault_row den_Lfault_row) : Df P w K mg base "_law_is_told" 10 p_Lis_told den_Lis_told := S.ok sc_Lis_told (fun f cdv A outer s H E hr => (sss_cons (ss_set (i := 2) sc_Lis_told.nd rfl (Or.inl rfl) (se_disp (sps_cons se_str (e_pow se_int se_int) (sps_cons se_str se_int sps_nil))))
    (sss_cons (ss_setLc (i := 3) (.nm 14) rfl sc_Lis_told.nd rfl rfl (sw_true rfl rfl rfl (by decide +kernel)) (si_rng1 (by rfl) T.n_range (sa_cons (se_v 1) sa_nil)) (blkOk_by (own := [("_law_k", 14)]) (N := n_Lis_told) (sc := defScope s_Lis_told) (by decide +kernel)) rfl (fun _ _ _ _ _ => (pg_name (i := 14) sc_Lis_told.nd rfl (Or.inl rfl))) (fun _ _ _ _ _ => sts_nil) (fun _ _ _ _ _ => (se_tup (sa_cons se_str (sa_cons (se_tup (sa_cons (se_tup (sa_cons se_int (sa_cons (se_v 14) (sa_cons (se_tup sa_nil) sa_nil)))) sa_nil)) sa_nil)))))
    (sss_cons (ss_par (i := 4) (j := 5) rfl sc_Lis_told.nd rfl rfl (by decide) rfl rfl (sa_cons (se_call D_Ltake (hr.mono (by decide)) (takes_of rfl rfl rfl rfl) (by rfl) (sa_cons (se_v 0) (sa_cons (e_add (se_v 1) se_int) sa_nil))) (sa_cons (se_call D_Ltake (hr.mono (by decide)) (takes_of rfl rfl rfl rfl) (by rfl) (sa_cons (se_v 0) (sa_cons se_int sa_nil))) sa_nil)) (by rfl))
    (sss_cons (ss_asg (se_call D_Lfault_row (hr.mono (by decide)) (takes_of rfl rfl rfl rfl) (by rfl) (sa_cons (se_v 0) (sa_cons (se_v 5) sa_nil))) (sg_tp (n := 2) rfl (sgs_cons (sg_nm (i := 6) sc_Lis_told.nd rfl (Or.inl rfl)) (sgs_cons (sg_nm (i := 7) sc_Lis_told.nd rfl (Or.inl rfl)) sgs_nil))))
    (sss_cons (ss_asg (se_call D_Lfault_row (hr.mono (by decide)) (takes_of rfl rfl rfl rfl) (by rfl) (sa_cons (se_v 0) (sa_cons (se_call D_Ltake (hr.mono (by decide)) (takes_of rfl rfl rfl rfl) (by rfl) (sa_cons (se_v 0) (sa_cons se_int sa_nil))) sa_nil))) (sg_tp (n := 2) rfl (sgs_cons (sg_nm (i := 8) sc_Lis_told.nd rfl (Or.inl rfl)) (sgs_cons (sg_nm (i := 9) sc_Lis_told.nd rfl (Or.inl rfl)) sgs_nil))))
    (sss_cons (ss_set (i := 10) sc_Lis_told.nd rfl (Or.inl rfl) (se_callTy call_tuple_of tuple_ok (by rfl) T.n_tuple (by decide +kernel) (sa_cons (e_add (e_add (se_sl (se_v 3) so_no (so_some (se_v 4))) (se_lst (sa_cons (se_v 6) sa_nil))) (se_sl (se_v 3) (so_some (se_v 4)) so_no)) sa_nil)))
    (sss_cons (ss_set (i := 11) sc_Lis_told.nd rfl (Or.inl rfl) (se_call D_run_in (hr.mono (by decide)) (takes_of rfl rfl rfl rfl) (by rfl) (sa_cons (se_make D_Cell___init__ (hr.mono (by decide)) (takes_of rfl rfl rfl rfl) (by rfl) (sa_cons (se_call D_Ltext (hr.mono (by decide)) (takes_of rfl rfl rfl rfl) (by rfl) (sa_cons (se_v 10) sa_nil)) sa_nil)) (sa_cons (se_callTy call_dictD dict_ok (by rfl) T.n_dict (by decide +kernel) (sa_cons (se_v 2) sa_nil)) sa_nil))))
    (sss_cons (ss_if (st_w (sw_or (t_ne hr (se_ix (u65 hr) (se_v 11) se_int) (se_tup (sa_cons (se_tuprng rfl (by rfl) T.n_tuple (by rfl) T.n_range (se_v 4)) (sa_cons (se_v 7) sa_nil)))) (sw_or1 (t_ne hr (se_ix (u65 hr) (se_v 11) se_int) (se_v 2))))) (sss_one (ss_ret se_bl)) sss_nil)
    (sss_cons (ss_set (i := 12) sc_Lis_told.nd rfl (Or.inl rfl) (se_callTy call_tuple_of tuple_ok (by rfl) T.n_tuple (by decide +kernel) (sa_cons (e_add (se_sl (se_v 3) so_no (so_some (se_v 4))) (se_lst (sa_cons (se_v 6) (sa_cons (se_tup (sa_cons se_str (sa_cons se_str (sa_cons (se_tup (sa_cons (se_tup (sa_cons se_int (sa_cons se_int (sa_cons (se_tup sa_nil) sa_nil)))) sa_nil)) sa_nil)))) (sa_cons (se_v 8) sa_nil))))) sa_nil)))
    (sss_cons (ss_if (t_ne hr (se_ix (u65 hr) (se_call D_run_in (hr.mono (by decide)) (takes_of rfl rfl rfl rfl) (by rfl) (sa_cons (se_make D_Cell___init__ (hr.mono (by decide)) (takes_of rfl rfl rfl rfl) (by rfl) (sa_cons (se_call D_Ltext (hr.mono (by decide)) (takes_of rfl rfl rfl rfl) (by rfl) (sa_cons (se_v 12) sa_nil)) sa_nil)) (sa_cons (se_callTy call_dictD dict_ok (by rfl) T.n_dict (by decide +kernel) (sa_cons (se_v 2) sa_nil)) sa_nil))) se_int) (se_tup (sa_cons (se_tuprng rfl (by rfl) T.n_tuple (by rfl) T.n_range (se_v 4)) (sa_cons (se_v 7) sa_nil)))) (sss_one (ss_ret se_bl)) sss_nil)
    (sss_cons (ss_set (i := 13) sc_Lis_told.nd rfl (Or.inl rfl) (e_add (e_add (se_lst (sa_cons (se_tup (sa_cons se_str (sa_cons se_str (sa_cons (se_tup (sa_cons (se_tup (sa_cons se_int (sa_cons se_str (sa_cons (se_tup sa_nil) sa_nil)))) sa_nil)) sa_nil)))) sa_nil)) (se_sl (se_v 3) so_no (so_some se_int))) (se_lst (sa_cons (se_tup (sa_cons se_str (sa_cons (se_tup (sa_cons (se_tup (sa_cons (e_neg se_int) (sa_cons se_str (sa_cons (se_tup sa_nil) sa_nil)))) sa_nil)) sa_nil))) sa_nil))))
    (sss_cons (ss_set (i := 11) sc_Lis_told.nd rfl (Or.inl rfl) (se_call D_run_in (hr.mono (by decide)) (takes_of rfl rfl rfl rfl) (by rfl) (sa_cons (se_make D_Cell___init__ (hr.mono (by decide)) (takes_of rfl rfl rfl rfl) (by rfl) (sa_cons (se_call D_Ltext (hr.mono (by decide)) (takes_of rfl rfl rfl rfl) (by rfl) (sa_cons (se_callTy call_tuple_of tuple_ok (by rfl) T.n_tuple (by decide +kernel) (sa_cons (se_v 13) sa_nil)) sa_nil)) sa_nil)) (sa_cons (se_callTy call_dictD dict_ok (by rfl) T.n_dict (by decide +kernel) (sa_cons (se_v 2) sa_nil)) sa_nil))))
    (sss_one (ss_ret (se_and (e_eq hr (se_ix (u65 hr) (se_v 11) se_int) (se_tup (sa_cons (e_add (se_tuprng rfl (by rfl) T.n_tuple (by rfl) T.n_range (se_callB (call_min2 rfl) mm_ok (by rfl) T.n_min (by decide +kernel) (sa_cons se_int (sa_cons (se_v 1) sa_nil)))) (se_tup (sa_cons (e_sub se_int (e_pow se_int se_int)) sa_nil))) (sa_cons se_non sa_nil)))) (se_one (e_eq hr (se_ix (u65 hr) (se_ix (u65 hr) (se_v 11) se_int) se_str) (e_pow se_int se_int)))))))))))))))))))
abbrev s_Lbag : Stmt := topS 36
abbrev n_Lbag : List Str := ["_law_script", "_law_at", "_law_cell", "_law_great", "_law_primes", "_law_mixed"]
abbrev p_Lbag : List Str := ["_law_script", "_law_at"]
theorem sc_Lbag : FnScope n_Lbag p_Lbag (defScope s_Lbag) := ⟨rfl, rfl, rfl, by decide +kernel, rfl, by decide +kernel, by decide +kernel⟩
theorem D_Lbag (S : Src K mg "_law_bag" s_Lbag p_Lbag) (T : Txt K w mg) : Df P w K mg base "_law_bag" 1 p_Lbag den_Lbag := S.ok sc_Lbag (fun f cdv A outer s H E hr => (sss_cons (ss_set (i := 2) sc_Lbag.nd rfl (Or.inl rfl) se_int)
    (sss_cons (ss_if (t_lt (se_v 1) (se_callB call_len2 len_ok (by rfl) T.n_len (by decide +kernel) (sa_cons (se_v 0) sa_nil))) (sss_one (ss_set (i := 2) sc_Lbag.nd rfl (Or.inl rfl) (se_ix (u65 hr) (se_v 0) (se_v 1)))) sss_nil)
    (sss_cons (ss_set (i := 3) sc_Lbag.nd rfl (Or.inl rfl) se_int)
    (sss_cons (ss_if (t_ge (se_callB call_abs abs_ok (by rfl) T.n_abs (by decide +kernel) (sa_cons (se_v 2) sa_nil)) (e_pow se_int se_int)) (sss_one (ss_set (i := 3) sc_Lbag.nd rfl (Or.inl rfl) (se_callB call_abs abs_ok (by rfl) T.n_abs (by decide +kernel) (sa_cons (se_v 2) sa_nil)))) sss_nil)
    (sss_cons (ss_set (i := 4) sc_Lbag.nd rfl (Or.inl rfl) (se_lst (sa_cons se_int (sa_cons se_int (sa_cons se_int (sa_cons se_int (sa_cons se_int (sa_cons se_int (sa_cons se_int (sa_cons se_int sa_nil))))))))))
    (sss_cons (ss_set (i := 5) sc_Lbag.nd rfl (Or.inl rfl) (e_add (e_add (e_add (e_mul (e_mod (se_v 2) se_int) se_int) (e_mul (e_mul se_int (se_v 1)) (se_v 1))) (e_mul se_int (se_v 1))) se_int))
    (sss_one (ss_ret (se_lst (sa_cons (se_v 3) (sa_cons (e_mod (se_v 5) (se_ix (u65 hr) (se_v 4) (e_mod (se_v 1) se_int))) sa_nil))))))))))))
abbrev s_law : Stmt := topS 39
abbrev n_law : List Str := ["_law_script", "_law_k", "_law_bag_here", "_law_turn", "_law_told"]
abbrev p_law : List Str := ["_law_script"]
theorem sc_law : FnScope n_law p_law (defScope s_law) := ⟨rfl, rfl, rfl, by decide +kernel, rfl, by decide +kernel, by decide +kernel⟩
theorem D_law (T : Txt K w mg) (D_Cell___init__ : DfI P w K mg base "Cell" 8 p_Cell___init__ den_Cell___init__) (D_run_in : Df P w K mg base "run_in" 6 p_run_in den_run_in) (D_Ltake : Df P w K mg base "_law_take" 1 p_Ltake den_Ltake) (D_Lis_told : Df P w K mg base "_law_is_told" 10 p_Lis_told den_Lis_told) (D_Lbag : Df P w K mg base "_law_bag" 1 p_Lbag den_Lbag) : Bd P w K mg base n_law "law" s_law 10 bd_law := fun f cdv A outer s H E hr => (sss_cons (ss_for (passes_of rfl) rfl (si_rng1 (by rfl) T.n_range (sa_cons (se_callB (call_max2 rfl) mm_ok (by rfl) T.n_max (by decide +kernel) (sa_cons se_int (sa_cons (se_callB (call_min2 rfl) mm_ok (by rfl) T.n_min (by decide +kernel) (sa_cons se_int (sa_cons (se_callB call_len2 len_ok (by rfl) T.n_len (by decide +kernel) (sa_cons (se_v 0) sa_nil)) sa_nil))) sa_nil))) sa_nil)) (sg_nm (i := 1) sc_law.nd rfl (Or.inl rfl))
    (sss_cons (ss_set (i := 2) sc_law.nd rfl (Or.inl rfl) (se_call D_Lbag (hr.mono (by decide)) (takes_of rfl rfl rfl rfl) (by rfl) (sa_cons (se_v 0) (sa_cons (se_v 1) sa_nil))))
    (sss_one (ss_for (passes_of rfl) rfl (si_rng1 (by rfl) T.n_range (sa_cons se_int sa_nil)) (sg_nm (i := 3) sc_law.nd rfl (Or.inl rfl))
    (sss_one (ss_if (st_not (st_tru (se_call D_Lis_told (hr.mono (by decide)) (takes_of rfl rfl rfl rfl) (by rfl) (sa_cons (se_v 2) (sa_cons (se_call D_Ltake (hr.mono (by decide)) (takes_of rfl rfl rfl rfl) (by rfl) (sa_cons (se_v 2) (sa_cons se_int sa_nil))) sa_nil))))) (sss_one (ss_ret se_bl)) sss_nil))))))
    (sss_cons (ss_set (i := 4) sc_law.nd rfl (Or.inl rfl) (se_call D_run_in (hr.mono (by decide)) (takes_of rfl rfl rfl rfl) (by rfl) (sa_cons (se_make D_Cell___init__ (hr.mono (by decide)) (takes_of rfl rfl rfl rfl) (by rfl) (sa_cons se_str sa_nil)) (sa_cons se_dnew sa_nil))))
    (sss_one (ss_ret (se_and (e_eq hr (se_ix (u65 hr) (se_v 4) se_int) (se_tup (sa_cons (se_tup (sa_cons se_int sa_nil)) (sa_cons (se_tup (sa_cons se_str sa_nil)) sa_nil)))) (se_one (e_eq hr (se_ix (u65 hr) (se_v 4) se_int) (se_disp (sps_cons se_str se_int sps_nil)))))))))
end
end Sim

namespace Sim
open PySem PySem.Spec PyProof.Rows L2
theorem all_mk {l : PySem.W.OpenLaw} {w : World} {K : PySem.W.Frag} {h : Heap} {mg : Str → Option Value} {fa : Addr} (X : K.In h) (G : h.Ns mainGlobals mg) (hfa : mg "law" = some (.ref fa))
    {C_Cell : Addr} (a_Cell : PySem.W.nsIn K mainGlobals "Cell" = some (some (.ref C_Cell))) (pg_Cell : PySem.W.plainGet K C_Cell Str.empty = true) (hd_Cell : PySem.W.hasDictIn K C_Cell = true) (po_Cell : PySem.W.plainOver K C_Cell = true) (sa_Cell : PySem.W.findIn K (.ref C_Cell) "__setattr__" = some (some (.builtin "object.__setattr__"))) (mk_Cell : PySem.W.makesIn K C_Cell = true) (kc_Cell : PySem.W.keepIn K (.ref C_Cell) = true)
    (no_Cell_text : PySem.W.findIn K (.ref C_Cell) "text" = some none)
    (no_Cell_rows : PySem.W.findIn K (.ref C_Cell) "rows" = some none)
    {C_Run : Addr} (a_Run : PySem.W.nsIn K mainGlobals "Run" = some (some (.ref C_Run))) (pg_Run : PySem.W.plainGet K C_Run Str.empty = true) (hd_Run : PySem.W.hasDictIn K C_Run = true) (po_Run : PySem.W.plainOver K C_Run = true) (sa_Run : PySem.W.findIn K (.ref C_Run) "__setattr__" = some (some (.builtin "object.__setattr__"))) (mk_Run : PySem.W.makesIn K C_Run = true) (kc_Run : PySem.W.keepIn K (.ref C_Run) = true)
    (no_Run_standing : PySem.W.findIn K (.ref C_Run) "standing" = some none)
    (no_Run_shown : PySem.W.findIn K (.ref C_Run) "shown" = some none)
    (no_Run_first_reads : PySem.W.findIn K (.ref C_Run) "first_reads" = some none)
    (no_Run_changed : PySem.W.findIn K (.ref C_Run) "changed" = some none)
    (z_State : PySem.W.nsIn K mainGlobals "State" = some none)
    {f_is_name : Addr} {od_is_name an_is_name : Option Addr} {sl_is_name : Array (Option Value)} {oc_is_name kV_is_name dc_is_name pm_is_name cd_is_name ct_is_name : Value}
    (a_is_name : PySem.W.nsIn K mainGlobals "is_name" = some (some (.ref f_is_name))) (l_is_name : K.lookup f_is_name = some ⟨oc_is_name, od_is_name, .func (PySem.W.fnOf "is_name" "is_name" (defArgs s_is_name) (defBody s_is_name) (defScope s_is_name) .none kV_is_name dc_is_name pm_is_name an_is_name cd_is_name ct_is_name), sl_is_name⟩) (c_is_name : PySem.W.codeIn K cd_is_name "is_name" = true) (k_is_name : PySem.W.keepIn K (.ref f_is_name) = true)
    {f_marked_words : Addr} {od_marked_words an_marked_words : Option Addr} {sl_marked_words : Array (Option Value)} {oc_marked_words kV_marked_words dc_marked_words pm_marked_words cd_marked_words ct_marked_words : Value}
    (a_marked_words : PySem.W.nsIn K mainGlobals "marked_words" = some (some (.ref f_marked_words))) (l_marked_words : K.lookup f_marked_words = some ⟨oc_marked_words, od_marked_words, .func (PySem.W.fnOf "marked_words" "marked_words" (defArgs s_marked_words) (defBody s_marked_words) (defScope s_marked_words) .none kV_marked_words dc_marked_words pm_marked_words an_marked_words cd_marked_words ct_marked_words), sl_marked_words⟩) (c_marked_words : PySem.W.codeIn K cd_marked_words "marked_words" = true) (k_marked_words : PySem.W.keepIn K (.ref f_marked_words) = true)
    {f_is_number_word : Addr} {od_is_number_word an_is_number_word : Option Addr} {sl_is_number_word : Array (Option Value)} {oc_is_number_word kV_is_number_word dc_is_number_word pm_is_number_word cd_is_number_word ct_is_number_word : Value}
    {w_is_number_word : Addr} {dd_is_number_word : Option Addr} {nn_is_number_word : Nat} {ss_is_number_word : Array (Option Value)} {t0_is_number_word : Tok}
    (a_is_number_word : PySem.W.nsIn K mainGlobals "is_number_word" = some (some (.ref f_is_number_word))) (l_is_number_word : K.lookup f_is_number_word = some ⟨oc_is_number_word, od_is_number_word, .func (PySem.W.fnOf "is_number_word" "is_number_word" (defArgs s_is_number_word) (defBody s_is_number_word) (defScope s_is_number_word) (.ref w_is_number_word) kV_is_number_word dc_is_number_word pm_is_number_word an_is_number_word cd_is_number_word ct_is_number_word), sl_is_number_word⟩) (o_is_number_word : K.lookup w_is_number_word = some ⟨.type "tuple", dd_is_number_word, .seq #[.int 3 t0_is_number_word] nn_is_number_word, ss_is_number_word⟩) (c_is_number_word : PySem.W.codeIn K cd_is_number_word "is_number_word" = true) (k_is_number_word : PySem.W.keepIn K (.ref f_is_number_word) = true)
    {f_read_atom : Addr} {od_read_atom an_read_atom : Option Addr} {sl_read_atom : Array (Option Value)} {oc_read_atom kV_read_atom dc_read_atom pm_read_atom cd_read_atom ct_read_atom : Value}
    (a_read_atom : PySem.W.nsIn K mainGlobals "read_atom" = some (some (.ref f_read_atom))) (l_read_atom : K.lookup f_read_atom = some ⟨oc_read_atom, od_read_atom, .func (PySem.W.fnOf "read_atom" "read_atom" (defArgs s_read_atom) (defBody s_read_atom) (defScope s_read_atom) .none kV_read_atom dc_read_atom pm_read_atom an_read_atom cd_read_atom ct_read_atom), sl_read_atom⟩) (c_read_atom : PySem.W.codeIn K cd_read_atom "read_atom" = true) (k_read_atom : PySem.W.keepIn K (.ref f_read_atom) = true)
    {f_read_sum : Addr} {od_read_sum an_read_sum : Option Addr} {sl_read_sum : Array (Option Value)} {oc_read_sum kV_read_sum dc_read_sum pm_read_sum cd_read_sum ct_read_sum : Value}
    (a_read_sum : PySem.W.nsIn K mainGlobals "read_sum" = some (some (.ref f_read_sum))) (l_read_sum : K.lookup f_read_sum = some ⟨oc_read_sum, od_read_sum, .func (PySem.W.fnOf "read_sum" "read_sum" (defArgs s_read_sum) (defBody s_read_sum) (defScope s_read_sum) .none kV_read_sum dc_read_sum pm_read_sum an_read_sum cd_read_sum ct_read_sum), sl_read_sum⟩) (c_read_sum : PySem.W.codeIn K cd_read_sum "read_sum" = true) (k_read_sum : PySem.W.keepIn K (.ref f_read_sum) = true)
    {f_sum_or_none : Addr} {od_sum_or_none an_sum_or_none : Option Addr} {sl_sum_or_none : Array (Option Value)} {oc_sum_or_none kV_sum_or_none dc_sum_or_none pm_sum_or_none cd_sum_or_none ct_sum_or_none : Value}
    (a_sum_or_none : PySem.W.nsIn K mainGlobals "sum_or_none" = some (some (.ref f_sum_or_none))) (l_sum_or_none : K.lookup f_sum_or_none = some ⟨oc_sum_or_none, od_sum_or_none, .func (PySem.W.fnOf "sum_or_none" "sum_or_none" (defArgs s_sum_or_none) (defBody s_sum_or_none) (defScope s_sum_or_none) .none kV_sum_or_none dc_sum_or_none pm_sum_or_none an_sum_or_none cd_sum_or_none ct_sum_or_none), sl_sum_or_none⟩) (c_sum_or_none : PySem.W.codeIn K cd_sum_or_none "sum_or_none" = true) (k_sum_or_none : PySem.W.keepIn K (.ref f_sum_or_none) = true)
    {f_read_plain_row : Addr} {od_read_plain_row an_read_plain_row : Option Addr} {sl_read_plain_row : Array (Option Value)} {oc_read_plain_row kV_read_plain_row dc_read_plain_row pm_read_plain_row cd_read_plain_row ct_read_plain_row : Value}
    (a_read_plain_row : PySem.W.nsIn K mainGlobals "read_plain_row" = some (some (.ref f_read_plain_row))) (l_read_plain_row : K.lookup f_read_plain_row = some ⟨oc_read_plain_row, od_read_plain_row, .func (PySem.W.fnOf "read_plain_row" "read_plain_row" (defArgs s_read_plain_row) (defBody s_read_plain_row) (defScope s_read_plain_row) .none kV_read_plain_row dc_read_plain_row pm_read_plain_row an_read_plain_row cd_read_plain_row ct_read_plain_row), sl_read_plain_row⟩) (c_read_plain_row : PySem.W.codeIn K cd_read_plain_row "read_plain_row" = true) (k_read_plain_row : PySem.W.keepIn K (.ref f_read_plain_row) = true)
    {f_read_row : Addr} {od_read_row an_read_row : Option Addr} {sl_read_row : Array (Option Value)} {oc_read_row kV_read_row dc_read_row pm_read_row cd_read_row ct_read_row : Value}
    (a_read_row : PySem.W.nsIn K mainGlobals "read_row" = some (some (.ref f_read_row))) (l_read_row : K.lookup f_read_row = some ⟨oc_read_row, od_read_row, .func (PySem.W.fnOf "read_row" "read_row" (defArgs s_read_row) (defBody s_read_row) (defScope s_read_row) .none kV_read_row dc_read_row pm_read_row an_read_row cd_read_row ct_read_row), sl_read_row⟩) (c_read_row : PySem.W.codeIn K cd_read_row "read_row" = true) (k_read_row : PySem.W.keepIn K (.ref f_read_row) = true)
    {f_read_rows : Addr} {od_read_rows an_read_rows : Option Addr} {sl_read_rows : Array (Option Value)} {oc_read_rows kV_read_rows dc_read_rows pm_read_rows cd_read_rows ct_read_rows : Value}
    (a_read_rows : PySem.W.nsIn K mainGlobals "read_rows" = some (some (.ref f_read_rows))) (l_read_rows : K.lookup f_read_rows = some ⟨oc_read_rows, od_read_rows, .func (PySem.W.fnOf "read_rows" "read_rows" (defArgs s_read_rows) (defBody s_read_rows) (defScope s_read_rows) .none kV_read_rows dc_read_rows pm_read_rows an_read_rows cd_read_rows ct_read_rows), sl_read_rows⟩) (c_read_rows : PySem.W.codeIn K cd_read_rows "read_rows" = true) (k_read_rows : PySem.W.keepIn K (.ref f_read_rows) = true)
    {f_Cell___init__ : Addr} {od_Cell___init__ an_Cell___init__ : Option Addr} {sl_Cell___init__ : Array (Option Value)} {oc_Cell___init__ kV_Cell___init__ dc_Cell___init__ pm_Cell___init__ cd_Cell___init__ ct_Cell___init__ : Value}
    (a_Cell___init__ : PySem.W.findIn K (.ref C_Cell) "__init__" = some (some (.ref f_Cell___init__))) (i_Cell___init__ : PySem.W.isFn K (.ref f_Cell___init__) = true) (l_Cell___init__ : K.lookup f_Cell___init__ = some ⟨oc_Cell___init__, od_Cell___init__, .func (PySem.W.fnOf "__init__" "Cell.__init__" (defArgs s_Cell___init__) (defBody s_Cell___init__) (defScope s_Cell___init__) .none kV_Cell___init__ dc_Cell___init__ pm_Cell___init__ an_Cell___init__ cd_Cell___init__ ct_Cell___init__), sl_Cell___init__⟩) (c_Cell___init__ : PySem.W.codeIn K cd_Cell___init__ "Cell.__init__" = true) (k_Cell___init__ : PySem.W.keepIn K (.ref f_Cell___init__) = true)
    {f_Run_change : Addr} {od_Run_change an_Run_change : Option Addr} {sl_Run_change : Array (Option Value)} {oc_Run_change kV_Run_change dc_Run_change pm_Run_change cd_Run_change ct_Run_change : Value}
    (a_Run_change : PySem.W.findIn K (.ref C_Run) "change" = some (some (.ref f_Run_change))) (i_Run_change : PySem.W.isFn K (.ref f_Run_change) = true) (l_Run_change : K.lookup f_Run_change = some ⟨oc_Run_change, od_Run_change, .func (PySem.W.fnOf "change" "Run.change" (defArgs s_Run_change) (defBody s_Run_change) (defScope s_Run_change) .none kV_Run_change dc_Run_change pm_Run_change an_Run_change cd_Run_change ct_Run_change), sl_Run_change⟩) (c_Run_change : PySem.W.codeIn K cd_Run_change "Run.change" = true) (k_Run_change : PySem.W.keepIn K (.ref f_Run_change) = true)
    {f_product_in : Addr} {od_product_in an_product_in : Option Addr} {sl_product_in : Array (Option Value)} {oc_product_in kV_product_in dc_product_in pm_product_in cd_product_in ct_product_in : Value}
    (a_product_in : PySem.W.nsIn K mainGlobals "product_in" = some (some (.ref f_product_in))) (l_product_in : K.lookup f_product_in = some ⟨oc_product_in, od_product_in, .func (PySem.W.fnOf "product_in" "product_in" (defArgs s_product_in) (defBody s_product_in) (defScope s_product_in) .none kV_product_in dc_product_in pm_product_in an_product_in cd_product_in ct_product_in), sl_product_in⟩) (c_product_in : PySem.W.codeIn K cd_product_in "product_in" = true) (k_product_in : PySem.W.keepIn K (.ref f_product_in) = true)
    {f_worked_out : Addr} {od_worked_out an_worked_out : Option Addr} {sl_worked_out : Array (Option Value)} {oc_worked_out kV_worked_out dc_worked_out pm_worked_out cd_worked_out ct_worked_out : Value}
    (a_worked_out : PySem.W.nsIn K mainGlobals "worked_out" = some (some (.ref f_worked_out))) (l_worked_out : K.lookup f_worked_out = some ⟨oc_worked_out, od_worked_out, .func (PySem.W.fnOf "worked_out" "worked_out" (defArgs s_worked_out) (defBody s_worked_out) (defScope s_worked_out) .none kV_worked_out dc_worked_out pm_worked_out an_worked_out cd_worked_out ct_worked_out), sl_worked_out⟩) (c_worked_out : PySem.W.codeIn K cd_worked_out "worked_out" = true) (k_worked_out : PySem.W.keepIn K (.ref f_worked_out) = true)
    {f_Run_work_out : Addr} {od_Run_work_out an_Run_work_out : Option Addr} {sl_Run_work_out : Array (Option Value)} {oc_Run_work_out kV_Run_work_out dc_Run_work_out pm_Run_work_out cd_Run_work_out ct_Run_work_out : Value}
    (a_Run_work_out : PySem.W.findIn K (.ref C_Run) "work_out" = some (some (.ref f_Run_work_out))) (i_Run_work_out : PySem.W.isFn K (.ref f_Run_work_out) = true) (l_Run_work_out : K.lookup f_Run_work_out = some ⟨oc_Run_work_out, od_Run_work_out, .func (PySem.W.fnOf "work_out" "Run.work_out" (defArgs s_Run_work_out) (defBody s_Run_work_out) (defScope s_Run_work_out) .none kV_Run_work_out dc_Run_work_out pm_Run_work_out an_Run_work_out cd_Run_work_out ct_Run_work_out), sl_Run_work_out⟩) (c_Run_work_out : PySem.W.codeIn K cd_Run_work_out "Run.work_out" = true) (k_Run_work_out : PySem.W.keepIn K (.ref f_Run_work_out) = true)
    {f_Run_follow : Addr} {od_Run_follow an_Run_follow : Option Addr} {sl_Run_follow : Array (Option Value)} {oc_Run_follow kV_Run_follow dc_Run_follow pm_Run_follow cd_Run_follow ct_Run_follow : Value}
    (a_Run_follow : PySem.W.findIn K (.ref C_Run) "follow" = some (some (.ref f_Run_follow))) (i_Run_follow : PySem.W.isFn K (.ref f_Run_follow) = true) (l_Run_follow : K.lookup f_Run_follow = some ⟨oc_Run_follow, od_Run_follow, .func (PySem.W.fnOf "follow" "Run.follow" (defArgs s_Run_follow) (defBody s_Run_follow) (defScope s_Run_follow) .none kV_Run_follow dc_Run_follow pm_Run_follow an_Run_follow cd_Run_follow ct_Run_follow), sl_Run_follow⟩) (c_Run_follow : PySem.W.codeIn K cd_Run_follow "Run.follow" = true) (k_Run_follow : PySem.W.keepIn K (.ref f_Run_follow) = true)
    {f_Run___init__ : Addr} {od_Run___init__ an_Run___init__ : Option Addr} {sl_Run___init__ : Array (Option Value)} {oc_Run___init__ kV_Run___init__ dc_Run___init__ pm_Run___init__ cd_Run___init__ ct_Run___init__ : Value}
    (a_Run___init__ : PySem.W.findIn K (.ref C_Run) "__init__" = some (some (.ref f_Run___init__))) (i_Run___init__ : PySem.W.isFn K (.ref f_Run___init__) = true) (l_Run___init__ : K.lookup f_Run___init__ = some ⟨oc_Run___init__, od_Run___init__, .func (PySem.W.fnOf "__init__" "Run.__init__" (defArgs s_Run___init__) (defBody s_Run___init__) (defScope s_Run___init__) .none kV_Run___init__ dc_Run___init__ pm_Run___init__ an_Run___init__ cd_Run___init__ ct_Run___init__), sl_Run___init__⟩) (c_Run___init__ : PySem.W.codeIn K cd_Run___init__ "Run.__init__" = true) (k_Run___init__ : PySem.W.keepIn K (.ref f_Run___init__) = true)
    {f_run_in : Addr} {od_run_in an_run_in : Option Addr} {sl_run_in : Array (Option Value)} {oc_run_in kV_run_in dc_run_in pm_run_in cd_run_in ct_run_in : Value}
    (a_run_in : PySem.W.nsIn K mainGlobals "run_in" = some (some (.ref f_run_in))) (l_run_in : K.lookup f_run_in = some ⟨oc_run_in, od_run_in, .func (PySem.W.fnOf "run_in" "run_in" (defArgs s_run_in) (defBody s_run_in) (defScope s_run_in) .none kV_run_in dc_run_in pm_run_in an_run_in cd_run_in ct_run_in), sl_run_in⟩) (c_run_in : PySem.W.codeIn K cd_run_in "run_in" = true) (k_run_in : PySem.W.keepIn K (.ref f_run_in) = true)
    {f_Ltake : Addr} {od_Ltake an_Ltake : Option Addr} {sl_Ltake : Array (Option Value)} {oc_Ltake kV_Ltake dc_Ltake pm_Ltake cd_Ltake ct_Ltake : Value}
    (a_Ltake : PySem.W.nsIn K mainGlobals "_law_take" = some (some (.ref f_Ltake))) (l_Ltake : K.lookup f_Ltake = some ⟨oc_Ltake, od_Ltake, .func (PySem.W.fnOf "_law_take" "_law_take" (defArgs s_Ltake) (defBody s_Ltake) (defScope s_Ltake) .none kV_Ltake dc_Ltake pm_Ltake an_Ltake cd_Ltake ct_Ltake), sl_Ltake⟩) (c_Ltake : PySem.W.codeIn K cd_Ltake "_law_take" = true) (k_Ltake : PySem.W.keepIn K (.ref f_Ltake) = true)
    {f_Lsum_text : Addr} {od_Lsum_text an_Lsum_text : Option Addr} {sl_Lsum_text : Array (Option Value)} {oc_Lsum_text kV_Lsum_text dc_Lsum_text pm_Lsum_text cd_Lsum_text ct_Lsum_text : Value}
    (a_Lsum_text : PySem.W.nsIn K mainGlobals "_law_sum_text" = some (some (.ref f_Lsum_text))) (l_Lsum_text : K.lookup f_Lsum_text = some ⟨oc_Lsum_text, od_Lsum_text, .func (PySem.W.fnOf "_law_sum_text" "_law_sum_text" (defArgs s_Lsum_text) (defBody s_Lsum_text) (defScope s_Lsum_text) .none kV_Lsum_text dc_Lsum_text pm_Lsum_text an_Lsum_text cd_Lsum_text ct_Lsum_text), sl_Lsum_text⟩) (c_Lsum_text : PySem.W.codeIn K cd_Lsum_text "_law_sum_text" = true) (k_Lsum_text : PySem.W.keepIn K (.ref f_Lsum_text) = true)
    {f_Lrow_text : Addr} {od_Lrow_text an_Lrow_text : Option Addr} {sl_Lrow_text : Array (Option Value)} {oc_Lrow_text kV_Lrow_text dc_Lrow_text pm_Lrow_text cd_Lrow_text ct_Lrow_text : Value}
    (a_Lrow_text : PySem.W.nsIn K mainGlobals "_law_row_text" = some (some (.ref f_Lrow_text))) (l_Lrow_text : K.lookup f_Lrow_text = some ⟨oc_Lrow_text, od_Lrow_text, .func (PySem.W.fnOf "_law_row_text" "_law_row_text" (defArgs s_Lrow_text) (defBody s_Lrow_text) (defScope s_Lrow_text) .none kV_Lrow_text dc_Lrow_text pm_Lrow_text an_Lrow_text cd_Lrow_text ct_Lrow_text), sl_Lrow_text⟩) (c_Lrow_text : PySem.W.codeIn K cd_Lrow_text "_law_row_text" = true) (k_Lrow_text : PySem.W.keepIn K (.ref f_Lrow_text) = true)
    {f_Ltext : Addr} {od_Ltext an_Ltext : Option Addr} {sl_Ltext : Array (Option Value)} {oc_Ltext kV_Ltext dc_Ltext pm_Ltext cd_Ltext ct_Ltext : Value}
    (a_Ltext : PySem.W.nsIn K mainGlobals "_law_text" = some (some (.ref f_Ltext))) (l_Ltext : K.lookup f_Ltext = some ⟨oc_Ltext, od_Ltext, .func (PySem.W.fnOf "_law_text" "_law_text" (defArgs s_Ltext) (defBody s_Ltext) (defScope s_Ltext) .none kV_Ltext dc_Ltext pm_Ltext an_Ltext cd_Ltext ct_Ltext), sl_Ltext⟩) (c_Ltext : PySem.W.codeIn K cd_Ltext "_law_text" = true) (k_Ltext : PySem.W.keepIn K (.ref f_Ltext) = true)
    {f_Lfault_row : Addr} {od_Lfault_row an_Lfault_row : Option Addr} {sl_Lfault_row : Array (Option Value)} {oc_Lfault_row kV_Lfault_row dc_Lfault_row pm_Lfault_row cd_Lfault_row ct_Lfault_row : Value}
    (a_Lfault_row : PySem.W.nsIn K mainGlobals "_law_fault_row" = some (some (.ref f_Lfault_row))) (l_Lfault_row : K.lookup f_Lfault_row = some ⟨oc_Lfault_row, od_Lfault_row, .func (PySem.W.fnOf "_law_fault_row" "_law_fault_row" (defArgs s_Lfault_row) (defBody s_Lfault_row) (defScope s_Lfault_row) .none kV_Lfault_row dc_Lfault_row pm_Lfault_row an_Lfault_row cd_Lfault_row ct_Lfault_row), sl_Lfault_row⟩) (c_Lfault_row : PySem.W.codeIn K cd_Lfault_row "_law_fault_row" = true) (k_Lfault_row : PySem.W.keepIn K (.ref f_Lfault_row) = true)
    {f_Lis_told : Addr} {od_Lis_told an_Lis_told : Option Addr} {sl_Lis_told : Array (Option Value)} {oc_Lis_told kV_Lis_told dc_Lis_told pm_Lis_told cd_Lis_told ct_Lis_told : Value}
    (a_Lis_told : PySem.W.nsIn K mainGlobals "_law_is_told" = some (some (.ref f_Lis_told))) (l_Lis_told : K.lookup f_Lis_told = some ⟨oc_Lis_told, od_Lis_told, .func (PySem.W.fnOf "_law_is_told" "_law_is_told" (defArgs s_Lis_told) (defBody s_Lis_told) (defScope s_Lis_told) .none kV_Lis_told dc_Lis_told pm_Lis_told an_Lis_told cd_Lis_told ct_Lis_told), sl_Lis_told⟩) (c_Lis_told : PySem.W.codeIn K cd_Lis_told "_law_is_told" = true) (k_Lis_told : PySem.W.keepIn K (.ref f_Lis_told) = true)
    {f_Lbag : Addr} {od_Lbag an_Lbag : Option Addr} {sl_Lbag : Array (Option Value)} {oc_Lbag kV_Lbag dc_Lbag pm_Lbag cd_Lbag ct_Lbag : Value}
    (a_Lbag : PySem.W.nsIn K mainGlobals "_law_bag" = some (some (.ref f_Lbag))) (l_Lbag : K.lookup f_Lbag = some ⟨oc_Lbag, od_Lbag, .func (PySem.W.fnOf "_law_bag" "_law_bag" (defArgs s_Lbag) (defBody s_Lbag) (defScope s_Lbag) .none kV_Lbag dc_Lbag pm_Lbag an_Lbag cd_Lbag ct_Lbag), sl_Lbag⟩) (c_Lbag : PySem.W.codeIn K cd_Lbag "_law_bag" = true) (k_Lbag : PySem.W.keepIn K (.ref f_Lbag) = true)
    {f_law : Addr} {od_law an_law : Option Addr} {sl_law : Array (Option Value)} {oc_law kV_law dc_law pm_law cd_law ct_law : Value}
    (a_law : PySem.W.nsIn K mainGlobals "law" = some (some (.ref f_law))) (l_law : K.lookup f_law = some ⟨oc_law, od_law, .func (PySem.W.fnOf "law" "law" (defArgs s_law) (defBody s_law) (defScope s_law) .none kV_law dc_law pm_law an_law cd_law ct_law), sl_law⟩) (c_law : PySem.W.codeIn K cd_law "law" = true) (k_law : PySem.W.keepIn K (.ref f_law) = true)
    (z_len : PySem.W.nsIn K mainGlobals "len" = some none)
    (z_isinstance : PySem.W.nsIn K mainGlobals "isinstance" = some none)
    (z_range : PySem.W.nsIn K mainGlobals "range" = some none)
    (z_all : PySem.W.nsIn K mainGlobals "all" = some none)
    (z_list : PySem.W.nsIn K mainGlobals "list" = some none)
    (z_str : PySem.W.nsIn K mainGlobals "str" = some none)
    (z_int : PySem.W.nsIn K mainGlobals "int" = some none)
    (z_tuple : PySem.W.nsIn K mainGlobals "tuple" = some none)
    (z_dict : PySem.W.nsIn K mainGlobals "dict" = some none)
    (z_abs : PySem.W.nsIn K mainGlobals "abs" = some none)
    (z_min : PySem.W.nsIn K mainGlobals "min" = some none)
    (z_max : PySem.W.nsIn K mainGlobals "max" = some none)
    (z_sorted : PySem.W.nsIn K mainGlobals "sorted" = some none)
    (z_enumerate : PySem.W.nsIn K mainGlobals "enumerate" = some none)
    {t_LETTERS : Tok} (g_LETTERS : PySem.W.nsIn K mainGlobals "LETTERS" = some (some (.str "abcdefghijklmnopqrstuvwxyz" t_LETTERS)))
    {t_FIGURES : Tok} (g_FIGURES : PySem.W.nsIn K mainGlobals "FIGURES" = some (some (.str "0123456789" t_FIGURES)))
    {w_WORDS : Addr} {dd_WORDS : Option Addr} {nn_WORDS : Nat} {ss_WORDS : Array (Option Value)} {t0_WORDS t1_WORDS t2_WORDS : Tok} (g_WORDS : PySem.W.nsIn K mainGlobals "WORDS" = some (some (.ref w_WORDS))) (o_WORDS : K.lookup w_WORDS = some ⟨.type "tuple", dd_WORDS, .seq #[.str "show" t0_WORDS, .str "drop" t1_WORDS, .str "if" t2_WORDS] nn_WORDS, ss_WORDS⟩)
    {t_MOST_SIGNS : Tok} (g_MOST_SIGNS : PySem.W.nsIn K mainGlobals "MOST_SIGNS" = some (some (.int 4 t_MOST_SIGNS)))
    {t_MOST_ATOMS : Tok} (g_MOST_ATOMS : PySem.W.nsIn K mainGlobals "MOST_ATOMS" = some (some (.int 8 t_MOST_ATOMS)))
    {t_LIMIT : Tok} (g_LIMIT : PySem.W.nsIn K mainGlobals "LIMIT" = some (some (.int 1000000000 t_LIMIT)))
    {w_SIGNS : Addr} {es_SIGNS : Array DictEntry} {nn_SIGNS : Nat} {t0_SIGNS t1_SIGNS : Tok} (g_SIGNS : PySem.W.nsIn K mainGlobals "SIGNS" = some (some (.ref w_SIGNS))) (o_SIGNS : K.lookup w_SIGNS = some ⟨.type "dict", none, .dict es_SIGNS nn_SIGNS, #[]⟩) (q_SIGNS : PySem.W.KeysLit w.params es_SIGNS.toList) (r_SIGNS : (w_SIGNS == sysModules) = false) (v0_SIGNS : PySem.W.nsIn K w_SIGNS "+" = some (some (.int (1) t0_SIGNS))) (v1_SIGNS : PySem.W.nsIn K w_SIGNS "-" = some (some (.int (-1) t1_SIGNS))) (y0_SIGNS : PySem.W.nsIn K w_SIGNS "*" = some none) (y1_SIGNS : PySem.W.nsIn K w_SIGNS "//" = some none)
    {w_JOINTS : Addr} {dd_JOINTS : Option Addr} {nn_JOINTS : Nat} {ss_JOINTS : Array (Option Value)} {t0_JOINTS t1_JOINTS : Tok} (g_JOINTS : PySem.W.nsIn K mainGlobals "JOINTS" = some (some (.ref w_JOINTS))) (o_JOINTS : K.lookup w_JOINTS = some ⟨.type "tuple", dd_JOINTS, .seq #[.str "*" t0_JOINTS, .str "//" t1_JOINTS] nn_JOINTS, ss_JOINTS⟩)
    {t_MOST_ROWS : Tok} (g_MOST_ROWS : PySem.W.nsIn K mainGlobals "MOST_ROWS" = some (some (.int 6 t_MOST_ROWS))) :
    ∃ fd : FuncData, (∀ (s : Shared) (v : Value), BindsTo s fd ⟨[v], []⟩ [("_law_script", v)]) ∧ ∀ base : Heap, K.In base → base.Ns mainGlobals mg → FnOk l.prog w K mg base (L2.CX l.prog w) 11 fa fd ["_law_script"] (spLaw K) := by
  have e := hfa.symm.trans (PySem.W.mg_of X G a_law)
  cases e
  have T : Txt K w mg := ⟨PySem.W.mg_none_of X G z_len, PySem.W.mg_none_of X G z_isinstance, PySem.W.mg_none_of X G z_range, PySem.W.mg_none_of X G z_all, PySem.W.mg_none_of X G z_list, PySem.W.mg_none_of X G z_str, PySem.W.mg_none_of X G z_int, PySem.W.mg_none_of X G z_tuple, PySem.W.mg_none_of X G z_dict, PySem.W.mg_none_of X G z_abs, PySem.W.mg_none_of X G z_min, PySem.W.mg_none_of X G z_max, PySem.W.mg_none_of X G z_sorted, PySem.W.mg_none_of X G z_enumerate, ⟨_, PySem.W.mg_of X G g_LETTERS⟩, ⟨_, PySem.W.mg_of X G g_FIGURES⟩, ⟨_, PySem.W.mg_of X G g_WORDS, fun H => .inr ⟨_, _, _, o_WORDS, rfl, rfl, (by show 3 ≤ sizeLine; decide), .cons ⟨_, rfl⟩ (.cons ⟨_, rfl⟩ (.cons ⟨_, rfl⟩ (.nil)))⟩⟩, ⟨_, PySem.W.mg_of X G g_MOST_SIGNS⟩, ⟨_, PySem.W.mg_of X G g_MOST_ATOMS⟩, ⟨_, PySem.W.mg_of X G g_LIMIT⟩, ⟨_, PySem.W.mg_of X G g_SIGNS, kdAt_of ⟨o_SIGNS, q_SIGNS, r_SIGNS⟩ ⟨⟨_, v0_SIGNS⟩, ⟨⟨_, v1_SIGNS⟩, ⟨y0_SIGNS, ⟨y1_SIGNS, trivial⟩⟩⟩⟩⟩, ⟨_, PySem.W.mg_of X G g_JOINTS, fun H => .inr ⟨_, _, _, o_JOINTS, rfl, rfl, (by show 2 ≤ sizeLine; decide), .cons ⟨_, rfl⟩ (.cons ⟨_, rfl⟩ (.nil))⟩⟩, ⟨_, PySem.W.mg_of X G g_MOST_ROWS⟩, (hasF_in (PySem.W.mg_of X G a_Cell) ⟨pg_Cell, hd_Cell, po_Cell, sa_Cell⟩ no_Cell_text hasF_nil), (hasF_in (PySem.W.mg_of X G a_Cell) ⟨pg_Cell, hd_Cell, po_Cell, sa_Cell⟩ no_Cell_rows hasF_nil), (hasF_in (PySem.W.mg_of X G a_Run) ⟨pg_Run, hd_Run, po_Run, sa_Run⟩ no_Run_standing (hasF_out (PySem.W.mg_none_of X G z_State) hasF_nil)), (hasF_in (PySem.W.mg_of X G a_Run) ⟨pg_Run, hd_Run, po_Run, sa_Run⟩ no_Run_shown hasF_nil), (hasF_in (PySem.W.mg_of X G a_Run) ⟨pg_Run, hd_Run, po_Run, sa_Run⟩ no_Run_first_reads hasF_nil), (hasF_in (PySem.W.mg_of X G a_Run) ⟨pg_Run, hd_Run, po_Run, sa_Run⟩ no_Run_changed hasF_nil)⟩
  have S_is_name : Src K mg "is_name" s_is_name p_is_name := ⟨_, _, PySem.W.mg_of X G a_is_name, fun_mk (st := s_is_name) l_is_name c_is_name k_is_name, (fun_mk (st := s_is_name) l_is_name c_is_name k_is_name).binds (ps := p_is_name) fun _ _ _ _ _ _ us hl => match us, hl with | [_], _ => rfl⟩
  have S_marked_words : Src K mg "marked_words" s_marked_words p_marked_words := ⟨_, _, PySem.W.mg_of X G a_marked_words, fun_mk (st := s_marked_words) l_marked_words c_marked_words k_marked_words, (fun_mk (st := s_marked_words) l_marked_words c_marked_words k_marked_words).binds (ps := p_marked_words) fun _ _ _ _ _ _ us hl => match us, hl with | [_], _ => rfl⟩
  have F_is_number_word : FunD K "is_number_word" "is_number_word" (defArgs s_is_number_word) (defBody s_is_number_word) (defScope s_is_number_word) dvs_is_number_word [] f_is_number_word _ := ⟨⟨_, _, _, _, _, _, _, _, _, _, rfl, l_is_number_word, c_is_number_word, .inr ⟨(by simp), _, _, _, _, rfl, o_is_number_word, rfl, .cons ⟨_, rfl⟩ (.nil)⟩, .inl rfl⟩, k_is_number_word⟩
  have S_is_number_word : SrcD K mg "is_number_word" s_is_number_word p_is_number_word dvs_is_number_word := ⟨_, _, PySem.W.mg_of X G a_is_number_word, F_is_number_word, fun j hj => (match j, hj with | 0, _ => F_is_number_word.binds1 1 0 (by simp) rfl fun _ _ _ _ _ _ _ us its h1 h2 => (match us, its, h1, h2 with | [_], [_], _, _ => ⟨_, rfl, rfl⟩) | 1, _ => F_is_number_word.binds1 2 1 (by simp) rfl fun _ _ _ _ _ _ _ us its h1 h2 => (match us, its, h1, h2 with | [_, _], [_], _, _ => ⟨_, rfl, rfl⟩) | n + 2, h => absurd h (by simp))⟩
  have S_read_atom : Src K mg "read_atom" s_read_atom p_read_atom := ⟨_, _, PySem.W.mg_of X G a_read_atom, fun_mk (st := s_read_atom) l_read_atom c_read_atom k_read_atom, (fun_mk (st := s_read_atom) l_read_atom c_read_atom k_read_atom).binds (ps := p_read_atom) fun _ _ _ _ _ _ us hl => match us, hl with | [_], _ => rfl⟩
  have S_read_sum : Src K mg "read_sum" s_read_sum p_read_sum := ⟨_, _, PySem.W.mg_of X G a_read_sum, fun_mk (st := s_read_sum) l_read_sum c_read_sum k_read_sum, (fun_mk (st := s_read_sum) l_read_sum c_read_sum k_read_sum).binds (ps := p_read_sum) fun _ _ _ _ _ _ us hl => match us, hl with | [_], _ => rfl⟩
  have S_sum_or_none : Src K mg "sum_or_none" s_sum_or_none p_sum_or_none := ⟨_, _, PySem.W.mg_of X G a_sum_or_none, fun_mk (st := s_sum_or_none) l_sum_or_none c_sum_or_none k_sum_or_none, (fun_mk (st := s_sum_or_none) l_sum_or_none c_sum_or_none k_sum_or_none).binds (ps := p_sum_or_none) fun _ _ _ _ _ _ us hl => match us, hl with | [_], _ => rfl⟩
  have S_read_plain_row : Src K mg "read_plain_row" s_read_plain_row p_read_plain_row := ⟨_, _, PySem.W.mg_of X G a_read_plain_row, fun_mk (st := s_read_plain_row) l_read_plain_row c_read_plain_row k_read_plain_row, (fun_mk (st := s_read_plain_row) l_read_plain_row c_read_plain_row k_read_plain_row).binds (ps := p_read_plain_row) fun _ _ _ _ _ _ us hl => match us, hl with | [_], _ => rfl⟩
  have S_read_row : Src K mg "read_row" s_read_row p_read_row := ⟨_, _, PySem.W.mg_of X G a_read_row, fun_mk (st := s_read_row) l_read_row c_read_row k_read_row, (fun_mk (st := s_read_row) l_read_row c_read_row k_read_row).binds (ps := p_read_row) fun _ _ _ _ _ _ us hl => match us, hl with | [_], _ => rfl⟩
  have S_read_rows : Src K mg "read_rows" s_read_rows p_read_rows := ⟨_, _, PySem.W.mg_of X G a_read_rows, fun_mk (st := s_read_rows) l_read_rows c_read_rows k_read_rows, (fun_mk (st := s_read_rows) l_read_rows c_read_rows k_read_rows).binds (ps := p_read_rows) fun _ _ _ _ _ _ us hl => match us, hl with | [_], _ => rfl⟩
  have S_Cell___init__ : SrcI K mg "Cell" "Cell.__init__" s_Cell___init__ p_Cell___init__ := ⟨_, _, _, PySem.W.mg_of X G a_Cell, ⟨mk_Cell, a_Cell___init__, i_Cell___init__, kc_Cell⟩, fun_mk (st := s_Cell___init__) l_Cell___init__ c_Cell___init__ k_Cell___init__, (fun_mk (st := s_Cell___init__) l_Cell___init__ c_Cell___init__ k_Cell___init__).binds (ps := p_Cell___init__) fun _ _ _ _ _ _ us hl => match us, hl with | [_, _], _ => rfl⟩
  have S_Run_change : SrcM K mg "Run" "change" "Run.change" s_Run_change p_Run_change := ⟨_, _, _, PySem.W.mg_of X G a_Run, ⟨pg_Run, hd_Run, po_Run, sa_Run⟩, ⟨a_Run_change, i_Run_change, k_Run_change⟩, fun_mk (st := s_Run_change) l_Run_change c_Run_change k_Run_change, (fun_mk (st := s_Run_change) l_Run_change c_Run_change k_Run_change).binds (ps := p_Run_change) fun _ _ _ _ _ _ us hl => match us, hl with | [_, _, _], _ => rfl⟩
  have S_product_in : Src K mg "product_in" s_product_in p_product_in := ⟨_, _, PySem.W.mg_of X G a_product_in, fun_mk (st := s_product_in) l_product_in c_product_in k_product_in, (fun_mk (st := s_product_in) l_product_in c_product_in k_product_in).binds (ps := p_product_in) fun _ _ _ _ _ _ us hl => match us, hl with | [_, _, _, _], _ => rfl⟩
  have S_worked_out : Src K mg "worked_out" s_worked_out p_worked_out := ⟨_, _, PySem.W.mg_of X G a_worked_out, fun_mk (st := s_worked_out) l_worked_out c_worked_out k_worked_out, (fun_mk (st := s_worked_out) l_worked_out c_worked_out k_worked_out).binds (ps := p_worked_out) fun _ _ _ _ _ _ us hl => match us, hl with | [_, _], _ => rfl⟩
  have S_Run_work_out : SrcM K mg "Run" "work_out" "Run.work_out" s_Run_work_out p_Run_work_out := ⟨_, _, _, PySem.W.mg_of X G a_Run, ⟨pg_Run, hd_Run, po_Run, sa_Run⟩, ⟨a_Run_work_out, i_Run_work_out, k_Run_work_out⟩, fun_mk (st := s_Run_work_out) l_Run_work_out c_Run_work_out k_Run_work_out, (fun_mk (st := s_Run_work_out) l_Run_work_out c_Run_work_out k_Run_work_out).binds (ps := p_Run_work_out) fun _ _ _ _ _ _ us hl => match us, hl with | [_, _], _ => rfl⟩
  have S_Run_follow : SrcM K mg "Run" "follow" "Run.follow" s_Run_follow p_Run_follow := ⟨_, _, _, PySem.W.mg_of X G a_Run, ⟨pg_Run, hd_Run, po_Run, sa_Run⟩, ⟨a_Run_follow, i_Run_follow, k_Run_follow⟩, fun_mk (st := s_Run_follow) l_Run_follow c_Run_follow k_Run_follow, (fun_mk (st := s_Run_follow) l_Run_follow c_Run_follow k_Run_follow).binds (ps := p_Run_follow) fun _ _ _ _ _ _ us hl => match us, hl with | [_, _], _ => rfl⟩
  have S_Run___init__ : SrcI K mg "Run" "Run.__init__" s_Run___init__ p_Run___init__ := ⟨_, _, _, PySem.W.mg_of X G a_Run, ⟨mk_Run, a_Run___init__, i_Run___init__, kc_Run⟩, fun_mk (st := s_Run___init__) l_Run___init__ c_Run___init__ k_Run___init__, (fun_mk (st := s_Run___init__) l_Run___init__ c_Run___init__ k_Run___init__).binds (ps := p_Run___init__) fun _ _ _ _ _ _ us hl => match us, hl with | [_, _], _ => rfl⟩
  have S_run_in : Src K mg "run_in" s_run_in p_run_in := ⟨_, _, PySem.W.mg_of X G a_run_in, fun_mk (st := s_run_in) l_run_in c_run_in k_run_in, (fun_mk (st := s_run_in) l_run_in c_run_in k_run_in).binds (ps := p_run_in) fun _ _ _ _ _ _ us hl => match us, hl with | [_, _], _ => rfl⟩
  have S_Ltake : Src K mg "_law_take" s_Ltake p_Ltake := ⟨_, _, PySem.W.mg_of X G a_Ltake, fun_mk (st := s_Ltake) l_Ltake c_Ltake k_Ltake, (fun_mk (st := s_Ltake) l_Ltake c_Ltake k_Ltake).binds (ps := p_Ltake) fun _ _ _ _ _ _ us hl => match us, hl with | [_, _], _ => rfl⟩
  have S_Lsum_text : Src K mg "_law_sum_text" s_Lsum_text p_Lsum_text := ⟨_, _, PySem.W.mg_of X G a_Lsum_text, fun_mk (st := s_Lsum_text) l_Lsum_text c_Lsum_text k_Lsum_text, (fun_mk (st := s_Lsum_text) l_Lsum_text c_Lsum_text k_Lsum_text).binds (ps := p_Lsum_text) fun _ _ _ _ _ _ us hl => match us, hl with | [_], _ => rfl⟩
  have S_Lrow_text : Src K mg "_law_row_text" s_Lrow_text p_Lrow_text := ⟨_, _, PySem.W.mg_of X G a_Lrow_text, fun_mk (st := s_Lrow_text) l_Lrow_text c_Lrow_text k_Lrow_text, (fun_mk (st := s_Lrow_text) l_Lrow_text c_Lrow_text k_Lrow_text).binds (ps := p_Lrow_text) fun _ _ _ _ _ _ us hl => match us, hl with | [_], _ => rfl⟩
  have S_Ltext : Src K mg "_law_text" s_Ltext p_Ltext := ⟨_, _, PySem.W.mg_of X G a_Ltext, fun_mk (st := s_Ltext) l_Ltext c_Ltext k_Ltext, (fun_mk (st := s_Ltext) l_Ltext c_Ltext k_Ltext).binds (ps := p_Ltext) fun _ _ _ _ _ _ us hl => match us, hl with | [_], _ => rfl⟩
  have S_Lfault_row : Src K mg "_law_fault_row" s_Lfault_row p_Lfault_row := ⟨_, _, PySem.W.mg_of X G a_Lfault_row, fun_mk (st := s_Lfault_row) l_Lfault_row c_Lfault_row k_Lfault_row, (fun_mk (st := s_Lfault_row) l_Lfault_row c_Lfault_row k_Lfault_row).binds (ps := p_Lfault_row) fun _ _ _ _ _ _ us hl => match us, hl with | [_, _], _ => rfl⟩
  have S_Lis_told : Src K mg "_law_is_told" s_Lis_told p_Lis_told := ⟨_, _, PySem.W.mg_of X G a_Lis_told, fun_mk (st := s_Lis_told) l_Lis_told c_Lis_told k_Lis_told, (fun_mk (st := s_Lis_told) l_Lis_told c_Lis_told k_Lis_told).binds (ps := p_Lis_told) fun _ _ _ _ _ _ us hl => match us, hl with | [_, _], _ => rfl⟩
  have S_Lbag : Src K mg "_law_bag" s_Lbag p_Lbag := ⟨_, _, PySem.W.mg_of X G a_Lbag, fun_mk (st := s_Lbag) l_Lbag c_Lbag k_Lbag, (fun_mk (st := s_Lbag) l_Lbag c_Lbag k_Lbag).binds (ps := p_Lbag) fun _ _ _ _ _ _ us hl => match us, hl with | [_, _], _ => rfl⟩
  have S_law : Src K mg "law" s_law p_law := ⟨_, _, PySem.W.mg_of X G a_law, fun_mk (st := s_law) l_law c_law k_law, (fun_mk (st := s_law) l_law c_law k_law).binds (ps := p_law) fun _ _ _ _ _ _ us hl => match us, hl with | [_], _ => rfl⟩
  refine ⟨PySem.W.fnOf "law" "law" (defArgs s_law) (defBody s_law) (defScope s_law) .none kV_law dc_law pm_law an_law cd_law ct_law, fun s v => .of_eq rfl, fun base _ _ => ?_⟩
  have D_is_name := D_is_name (P := l.prog) (w := w) (base := base) S_is_name T
  have D_marked_words := D_marked_words (P := l.prog) (w := w) (base := base) S_marked_words T
  have D_is_number_word := D_is_number_word (P := l.prog) (w := w) (base := base) S_is_number_word T
  have D_read_atom := D_read_atom (P := l.prog) (w := w) (base := base) S_read_atom T D_is_number_word D_is_name
  have D_read_sum := D_read_sum (P := l.prog) (w := w) (base := base) S_read_sum T D_marked_words D_read_atom
  have D_sum_or_none := D_sum_or_none (P := l.prog) (w := w) (base := base) S_sum_or_none D_read_sum
  have D_read_plain_row := D_read_plain_row (P := l.prog) (w := w) (base := base) S_read_plain_row D_is_name D_sum_or_none
  have D_read_row := D_read_row (P := l.prog) (w := w) (base := base) S_read_row D_read_plain_row D_sum_or_none
  have D_read_rows := D_read_rows (P := l.prog) (w := w) (base := base) S_read_rows T D_read_row
  have D_Cell___init__ := D_Cell___init__ (P := l.prog) (w := w) (base := base) S_Cell___init__ T D_read_rows
  have D_Run_change := D_Run_change (P := l.prog) (w := w) (base := base) S_Run_change T
  have D_product_in := D_product_in (P := l.prog) (w := w) (base := base) S_product_in T
  have D_worked_out := D_worked_out (P := l.prog) (w := w) (base := base) S_worked_out T D_product_in
  have D_Run_work_out := D_Run_work_out (P := l.prog) (w := w) (base := base) S_Run_work_out T D_worked_out
  have D_Run_follow := D_Run_follow (P := l.prog) (w := w) (base := base) S_Run_follow T D_Run_change D_Run_work_out
  have D_Run___init__ := D_Run___init__ (P := l.prog) (w := w) (base := base) S_Run___init__ T
  have D_run_in := D_run_in (P := l.prog) (w := w) (base := base) S_run_in T D_Run_follow D_Run___init__
  have D_Ltake := D_Ltake (P := l.prog) (w := w) (base := base) S_Ltake
  have D_Lsum_text := D_Lsum_text (P := l.prog) (w := w) (base := base) S_Lsum_text T
  have D_Lrow_text := D_Lrow_text (P := l.prog) (w := w) (base := base) S_Lrow_text D_Lsum_text
  have D_Ltext := D_Ltext (P := l.prog) (w := w) (base := base) S_Ltext D_Lrow_text
  have D_Lfault_row := D_Lfault_row (P := l.prog) (w := w) (base := base) S_Lfault_row D_Ltake
  have D_Lis_told := D_Lis_told (P := l.prog) (w := w) (base := base) S_Lis_told T D_Ltext D_Cell___init__ D_run_in D_Ltake D_Lfault_row
  have D_Lbag := D_Lbag (P := l.prog) (w := w) (base := base) S_Lbag T
  exact fn_den (fun_mk (st := s_law) l_law c_law k_law) sc_law (D_law T D_Cell___init__ D_run_in D_Ltake D_Lis_told D_Lbag) fun vs H Q E q => law_imp law_ok q
theorem walk {l : PySem.W.OpenLaw} {q : Program} {loose : List Str} {XP : (Str → Option Value) → Heap → Prop} {YP : World → Heap → Prop} {d : DefRec} {K : Params → PySem.W.Frag} (hn : l.most = some 63) (hdf : d.params.defaults = [])
    (hY : ∀ (w : World) (h : Heap), YP w h → (K w.params).In h)
    (F : ∀ (w : World) (mg : Str → Option Value) (fa : Addr) (h : Heap), (K w.params).In h → h.Ns mainGlobals mg → mg d.name = some (.ref fa) →
      ∃ fd : FuncData, (∀ (s : Shared) (u : Value), BindsTo s fd ⟨[u], []⟩ [("_law_script", u)]) ∧ ∀ base : Heap, (K w.params).In base → base.Ns mainGlobals mg → FnOk l.prog w (K w.params) mg base (L2.CX l.prog w) 11 fa fd ["_law_script"] (spLaw (K w.params))) :
    PySem.W.WalkO q loose XP YP l.row.toRowW d [] (fun f vs => PySem.call f vs) :=
  L2.walk_of (n := 63) (k := 11) (x := "_law_script") (CX := fun w => L2.CX l.prog w) (sp := fun w => spLaw (K w.params)) hn (by decide) hdf ⟨rfl, by decide, by decide⟩ hY F (fun _ _ a ns hl ho hS => ⟨a, ns, rfl, hS, ho, hl, fun _ => rfl⟩) fun _ _ _ _ _ ⟨_, _, _, _, _, _, _, _, _, _, _, _, z⟩ => z
end Sim

open PySem PySem.W PyProof.Rows in
set_option maxRecDepth 100000 in
set_option maxHeartbeats 0 in
theorem PySem.Challenge.cw_freshcells_k13_faults_end_holds : PySem.Challenge.rw_freshcells_k13_faults_end.Holds := by
  w_on; o_law; k_head; (case hw => w_witness2)
  k_fill
  refine Sim.walk (l := PySem.Challenge.rw_freshcells_k13_faults_end) rfl rfl (fun w h Y => PySem.W.kIn_of Y) ?F
  case F =>
    intro w mg fa h KX G hmg
    refine' Sim.all_mk KX G hmg ?a_Cell ?pg_Cell ?hd_Cell ?po_Cell ?sa_Cell ?mk_Cell ?kc_Cell ?no_Cell_text ?no_Cell_rows ?a_Run ?pg_Run ?hd_Run ?po_Run ?sa_Run ?mk_Run ?kc_Run ?no_Run_standing ?no_Run_shown ?no_Run_first_reads ?no_Run_changed ?z_State ?a_is_name ?l_is_name ?c_is_name ?k_is_name ?a_marked_words ?l_marked_words ?c_marked_words ?k_marked_words ?a_is_number_word ?l_is_number_word ?o_is_number_word ?c_is_number_word ?k_is_number_word ?a_read_atom ?l_read_atom ?c_read_atom ?k_read_atom ?a_read_sum ?l_read_sum ?c_read_sum ?k_read_sum ?a_sum_or_none ?l_sum_or_none ?c_sum_or_none ?k_sum_or_none ?a_read_plain_row ?l_read_plain_row ?c_read_plain_row ?k_read_plain_row ?a_read_row ?l_read_row ?c_read_row ?k_read_row ?a_read_rows ?l_read_rows ?c_read_rows ?k_read_rows ?a_Cell___init__ ?i_Cell___init__ ?l_Cell___init__ ?c_Cell___init__ ?k_Cell___init__ ?a_Run_change ?i_Run_change ?l_Run_change ?c_Run_change ?k_Run_change ?a_product_in ?l_product_in ?c_product_in ?k_product_in ?a_worked_out ?l_worked_out ?c_worked_out ?k_worked_out ?a_Run_work_out ?i_Run_work_out ?l_Run_work_out ?c_Run_work_out ?k_Run_work_out ?a_Run_follow ?i_Run_follow ?l_Run_follow ?c_Run_follow ?k_Run_follow ?a_Run___init__ ?i_Run___init__ ?l_Run___init__ ?c_Run___init__ ?k_Run___init__ ?a_run_in ?l_run_in ?c_run_in ?k_run_in ?a_Ltake ?l_Ltake ?c_Ltake ?k_Ltake ?a_Lsum_text ?l_Lsum_text ?c_Lsum_text ?k_Lsum_text ?a_Lrow_text ?l_Lrow_text ?c_Lrow_text ?k_Lrow_text ?a_Ltext ?l_Ltext ?c_Ltext ?k_Ltext ?a_Lfault_row ?l_Lfault_row ?c_Lfault_row ?k_Lfault_row ?a_Lis_told ?l_Lis_told ?c_Lis_told ?k_Lis_told ?a_Lbag ?l_Lbag ?c_Lbag ?k_Lbag ?a_law ?l_law ?c_law ?k_law ?z_len ?z_isinstance ?z_range ?z_all ?z_list ?z_str ?z_int ?z_tuple ?z_dict ?z_abs ?z_min ?z_max ?z_sorted ?z_enumerate ?g_LETTERS ?g_FIGURES ?g_WORDS ?o_WORDS ?g_MOST_SIGNS ?g_MOST_ATOMS ?g_LIMIT ?g_SIGNS ?o_SIGNS ?q_SIGNS ?r_SIGNS ?v0_SIGNS ?v1_SIGNS ?y0_SIGNS ?y1_SIGNS ?g_JOINTS ?o_JOINTS ?g_MOST_ROWS
    (case a_Cell => k_is)
    (case pg_Cell => k_is)
    (case hd_Cell => k_is)
    (case po_Cell => k_is)
    (case sa_Cell => k_is)
    (case mk_Cell => k_is)
    (case kc_Cell => k_is)
    (case no_Cell_text => k_is)
    (case no_Cell_rows => k_is)
    (case a_Run => k_is)
    (case pg_Run => k_is)
    (case hd_Run => k_is)
    (case po_Run => k_is)
    (case sa_Run => k_is)
    (case mk_Run => k_is)
    (case kc_Run => k_is)
    (case no_Run_standing => k_is)
    (case no_Run_shown => k_is)
    (case no_Run_first_reads => k_is)
    (case no_Run_changed => k_is)
    (case z_State => k_is)
    (case a_is_name => k_is)
    (case l_is_name => k_is)
    (case c_is_name => k_is)
    (case k_is_name => k_is)
    (case a_marked_words => k_is)
    (case l_marked_words => k_is)
    (case c_marked_words => k_is)
    (case k_marked_words => k_is)
    (case a_is_number_word => k_is)
    (case l_is_number_word => k_is)
    (case o_is_number_word => k_is)
    (case c_is_number_word => k_is)
    (case k_is_number_word => k_is)
    (case a_read_atom => k_is)
    (case l_read_atom => k_is)
    (case c_read_atom => k_is)
    (case k_read_atom => k_is)
    (case a_read_sum => k_is)
    (case l_read_sum => k_is)
    (case c_read_sum => k_is)
    (case k_read_sum => k_is)
    (case a_sum_or_none => k_is)
    (case l_sum_or_none => k_is)
    (case c_sum_or_none => k_is)
    (case k_sum_or_none => k_is)
    (case a_read_plain_row => k_is)
    (case l_read_plain_row => k_is)
    (case c_read_plain_row => k_is)
    (case k_read_plain_row => k_is)
    (case a_read_row => k_is)
    (case l_read_row => k_is)
    (case c_read_row => k_is)
    (case k_read_row => k_is)
    (case a_read_rows => k_is)
    (case l_read_rows => k_is)
    (case c_read_rows => k_is)
    (case k_read_rows => k_is)
    (case a_Cell___init__ => k_is)
    (case i_Cell___init__ => k_is)
    (case l_Cell___init__ => k_is)
    (case c_Cell___init__ => k_is)
    (case k_Cell___init__ => k_is)
    (case a_Run_change => k_is)
    (case i_Run_change => k_is)
    (case l_Run_change => k_is)
    (case c_Run_change => k_is)
    (case k_Run_change => k_is)
    (case a_product_in => k_is)
    (case l_product_in => k_is)
    (case c_product_in => k_is)
    (case k_product_in => k_is)
    (case a_worked_out => k_is)
    (case l_worked_out => k_is)
    (case c_worked_out => k_is)
    (case k_worked_out => k_is)
    (case a_Run_work_out => k_is)
    (case i_Run_work_out => k_is)
    (case l_Run_work_out => k_is)
    (case c_Run_work_out => k_is)
    (case k_Run_work_out => k_is)
    (case a_Run_follow => k_is)
    (case i_Run_follow => k_is)
    (case l_Run_follow => k_is)
    (case c_Run_follow => k_is)
    (case k_Run_follow => k_is)
    (case a_Run___init__ => k_is)
    (case i_Run___init__ => k_is)
    (case l_Run___init__ => k_is)
    (case c_Run___init__ => k_is)
    (case k_Run___init__ => k_is)
    (case a_run_in => k_is)
    (case l_run_in => k_is)
    (case c_run_in => k_is)
    (case k_run_in => k_is)
    (case a_Ltake => k_is)
    (case l_Ltake => k_is)
    (case c_Ltake => k_is)
    (case k_Ltake => k_is)
    (case a_Lsum_text => k_is)
    (case l_Lsum_text => k_is)
    (case c_Lsum_text => k_is)
    (case k_Lsum_text => k_is)
    (case a_Lrow_text => k_is)
    (case l_Lrow_text => k_is)
    (case c_Lrow_text => k_is)
    (case k_Lrow_text => k_is)
    (case a_Ltext => k_is)
    (case l_Ltext => k_is)
    (case c_Ltext => k_is)
    (case k_Ltext => k_is)
    (case a_Lfault_row => k_is)
    (case l_Lfault_row => k_is)
    (case c_Lfault_row => k_is)
    (case k_Lfault_row => k_is)
    (case a_Lis_told => k_is)
    (case l_Lis_told => k_is)
    (case c_Lis_told => k_is)
    (case k_Lis_told => k_is)
    (case a_Lbag => k_is)
    (case l_Lbag => k_is)
    (case c_Lbag => k_is)
    (case k_Lbag => k_is)
    (case a_law => k_is)
    (case l_law => k_is)
    (case c_law => k_is)
    (case k_law => k_is)
    (case z_len => k_is)
    (case z_isinstance => k_is)
    (case z_range => k_is)
    (case z_all => k_is)
    (case z_list => k_is)
    (case z_str => k_is)
    (case z_int => k_is)
    (case z_tuple => k_is)
    (case z_dict => k_is)
    (case z_abs => k_is)
    (case z_min => k_is)
    (case z_max => k_is)
    (case z_sorted => k_is)
    (case z_enumerate => k_is)
    (case g_LETTERS => k_is)
    (case g_FIGURES => k_is)
    (case g_WORDS => k_is)
    (case o_WORDS => k_is)
    (case g_MOST_SIGNS => k_is)
    (case g_MOST_ATOMS => k_is)
    (case g_LIMIT => k_is)
    (case g_SIGNS => k_is)
    (case o_SIGNS => k_is)
    (case q_SIGNS => k_keys)
    (case r_SIGNS => decide)
    (case v0_SIGNS => k_is)
    (case v1_SIGNS => k_is)
    (case y0_SIGNS => k_is)
    (case y1_SIGNS => k_is)
    (case g_JOINTS => k_is)
    (case o_JOINTS => k_is)
    (case g_MOST_ROWS => k_is)
#print axioms PySem.Challenge.cw_freshcells_k13_faults_end_holds

